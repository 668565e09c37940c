/- lessorref02.Few and lessorref02.Encode. -/
import Derived.Test.YtmlckjccgdmknaaOptE
import Derived.StillTailTactics
import Derived.BigQuiet
import Derived.Deep.QuietTactic
import Derived.Deep.RegionHeld3
namespace Go.Proofs.Ytmlckjccgdmknaa
open Go.RowKit

def fewB (L : List OptV) : Bool := decide (L.length ≤ 100) && L.all fun x => decide (x.data.length ≤ 1000)

theorem few_iff (L : List OptV) : fewB L = true ↔ L.length ≤ 100 ∧ ∀ x ∈ L, x.data.length ≤ 1000 := by simp [fewB]

set_option maxRecDepth 100000 in
set_option maxHeartbeats 1000000 in
theorem few_any (A : Option Addr) (c : Nat) (L : List OptV) (w : World) (hr : Op w w.heap.size A L) (hlm : L.length ≤ 9223372036854775807) (hdm : ∀ x ∈ L, x.data.length ≤ 9223372036854775807) :
    Calls Try.prog 25 #[.slice A L.length c] w fun e w' => e = .returned (.bool (fewB L)) ∧ w = w' := by
  by_cases hbig : 100 < L.length
  · have HF := Lib.hid (show fewB L = false by simp [fewB]; intro h; omega)
    have hd : decide ((100 : Int) < (L.length : Int)) = true := by simp; omega
    go_enter Try.func25, Try.ntmps25
    go_wp2
    go_ret
    rw [HF.out]
    exact ⟨rfl, rfl⟩
  · have hd : decide ((100 : Int) < (L.length : Int)) = false := by simp; omega
    have HDM := Lib.hid hdm
    clear hdm
    go_enter Try.func25, Try.ntmps25
    go_wp2
    go_loop [3] (fun i => ∃ k : Nat, k ≤ L.length ∧ i = .int .i64 k ∧ ∀ x ∈ L.take k, x.data.length ≤ 1000) (fun i => L.length - (intOf i).toNat)
    case atStart => exact ⟨0, Nat.zero_le _, rfl, fun x hx => by simp at hx⟩
    case round =>
      obtain ⟨k, hk, rfl, hall⟩ := hrel
      have HA := Lib.hid hall
      clear hall
      by_cases hlt : k < L.length
      · obtain ⟨x, hx⟩ : ∃ x, L[k]? = some x := ⟨_, List.getElem?_eq_getElem hlt⟩
        obtain ⟨b, o, rfl, hb, hc1, hc2⟩ := hr.at_ k x hx
        have hxm := HDM.out x (List.mem_of_getElem? hx)
        have HX := Lib.hid hx
        clear hx
        by_cases hdat : 1000 < x.data.length
        · have HF := Lib.hid (show fewB L = false by
            cases h : fewB L
            · rfl
            · have := ((few_iff L).1 h).2 x (List.mem_of_getElem? HX.out); omega)
          go_wp2
          go_ret
          rw [HF.out]
          exact ⟨rfl, rfl⟩
        · have hd2 : decide ((1000 : Int) < (x.data.length : Int)) = false := by simp; omega
          go_wp2
          go_round
          case rel =>
            refine ⟨k + 1, by omega, by go_num, fun y hy => ?_⟩
            rw [take_snoc_of L k x HX.out] at hy
            rcases List.mem_append.1 hy with hy | hy
            · exact HA.out y hy
            · simp at hy; subst hy; omega
          case measure => simp [intOf]; omega
      · have HF := Lib.hid (show fewB L = true by
          refine (few_iff L).2 ⟨by omega, fun x hx => HA.out x ?_⟩
          rw [List.take_of_length_le (by omega)]; exact hx)
        go_wp2
        go_ret
        rw [HF.out]
        exact ⟨rfl, rfl⟩

/-- Why an option may not be. -/
theorem okO_false {x : OptV} (h : okO x.abs = false) : decide (x.code < 1) = true ∨ (decide (x.code < 1) = false ∧ decide (254 < x.code) = true) ∨ (decide (x.code < 1) = false ∧ decide (254 < x.code) = false ∧ decide ((255 : Int) < (x.data.length : Int)) = true) := by
  by_cases h1 : x.code < 1
  · exact .inl (decide_eq_true h1)
  by_cases h2 : 254 < x.code
  · exact .inr (.inl ⟨decide_eq_false h1, decide_eq_true h2⟩)
  refine .inr (.inr ⟨decide_eq_false h1, decide_eq_false h2, decide_eq_true ?_⟩)
  rcases Nat.lt_or_ge 255 x.data.length with h3 | h3
  · omega
  · have := (okO_iff x.abs).2 ⟨by simp only [OptV.abs]; omega, by simp only [OptV.abs]; omega, h3⟩
    rw [h] at this
    cases this

set_option maxRecDepth 100000 in
set_option maxHeartbeats 2000000 in
theorem rencode_any (A : Option Addr) (c : Nat) (L : List OptV) (w : World) (hr : Op w w.heap.size A L) (hL : L.length ≤ 100) (hdm : ∀ x ∈ L, x.data.length ≤ 1000) :
    Calls Try.prog 30 #[.slice A L.length c] w (GivesB w (encL (absL L)).1 (encL (absL L)).2) := by
  have HDM := Lib.hid hdm
  clear hdm
  go_enter Try.func30, Try.ntmps30
  go_wp2
  go_loop [4] (fun i => ∃ k : Nat, k ≤ L.length ∧ i = .int .i64 k ∧ ((absL L).take k).all okO = true) (fun i => L.length - (intOf i).toNat)
  case atStart => exact ⟨0, Nat.zero_le _, rfl, rfl⟩
  case round =>
    obtain ⟨k, hk, rfl, hall⟩ := hrel
    have HA := Lib.hid hall
    clear hall
    by_cases hlt : k < L.length
    · obtain ⟨x, hx⟩ : ∃ x, L[k]? = some x := ⟨_, List.getElem?_eq_getElem hlt⟩
      obtain ⟨b, o, rfl, hb, hc1, hc2⟩ := hr.at_ k x hx
      have hxm := HDM.out x (List.mem_of_getElem? hx)
      have HX := Lib.hid (absL_at hx)
      clear hx
      cases hok : okO x.abs
      · have HK := Lib.hid hok
        have hwhy := okO_false hok
        clear hok
        rcases hwhy with h1 | ⟨h1, h2⟩ | ⟨h1, h2, h3⟩
        all_goals
          go_wp2
          go_ret2
          rw [encL_bad (List.mem_of_getElem? HX.out) HK.out]
          exact ⟨none, 0, rfl, By.nil, Nat.le_refl _, Below.refl _ _⟩
      · have HK := Lib.hid hok
        obtain ⟨g1, g2, g3⟩ := (okO_iff _).1 hok
        simp only [OptV.abs] at g1 g2 g3
        have h1 : decide (x.code < 1) = false := by simp; omega
        have h2 : decide (254 < x.code) = false := by simp; omega
        have h3 : decide ((255 : Int) < (x.data.length : Int)) = false := by simp; omega
        clear hok
        go_wp2
        go_round
        case rel => exact ⟨k + 1, by omega, by go_num, all_take_succ HX.out HA.out HK.out⟩
        case measure => simp [intOf]; omega
    · obtain rfl : k = L.length := by omega
      rw [List.take_of_length_le (by rw [absL_length]; exact Nat.le_refl _)] at HA
      go_wp2
      go_loopw [5, 6] (fun v i wr => ∃ k : Nat, k ≤ L.length ∧ i = .int .i64 k ∧ wr.ownsRow w.heap.size 5 1 v (flat ((absL L).take k)).length (bcells (flat ((absL L).take k))) ∧ (flat ((absL L).take k)).length < 1024 ∧ Below w.heap.size w wr) (fun _ i _ => L.length - (intOf i).toNat)
      case atStart => exact ⟨0, Nat.zero_le _, rfl, ⟨rfl, .inl ⟨rfl, rfl⟩⟩, by simp [flat], Below.refl _ _⟩
      case round =>
        obtain ⟨k, hk, rfl, hown, hsm, hB⟩ := hrel
        have hsz := hB.size
        by_cases hlt : k < L.length
        · obtain ⟨x, hx⟩ : ∃ x, L[k]? = some x := ⟨_, List.getElem?_eq_getElem hlt⟩
          obtain ⟨b, o, rfl, hb, hc1, hc2⟩ := (hr.below hB).at_ k x hx
          have HN := Lib.hid (take_snoc_of (absL L) k x.abs (absL_at hx))
          have HD := Lib.hid (hr.data x (List.mem_of_getElem? hx))
          have hok := List.all_eq_true.1 HA.out x.abs (List.mem_of_getElem? (absL_at hx))
          obtain ⟨hx0, hx1, hx2⟩ := (okO_iff _).1 hok
          simp only [OptV.abs] at hx0 hx1 hx2
          have HR := Lib.hid hr
          clear hx hr hok
          generalize hfk : flat ((absL L).take k) = fk at *
          have HF := Lib.hid hfk
          clear hfk
          have hwc : IntKind.u8.wrap x.code = x.code := by simp [IntKind.wrap, IntKind.bits, IntKind.signed]; omega
          have hwl : IntKind.u8.wrap (x.data.length : Int) = x.data.length := by simp [IntKind.wrap, IntKind.bits, IntKind.signed]; omega
          have hby := two_bytes wr 5 x.code x.data.length (by omega) (by omega) (by omega)
          have hownW : (wr.alloc (.cells #[.int .u8 x.code, .int .u8 (x.data.length : Int)] 5)).ownsRow w.heap.size 5 1 u5 fk.length (bcells fk) := hown.alloc _
          have hBW : Below w.heap.size w (wr.alloc (.cells #[.int .u8 x.code, .int .u8 (x.data.length : Int)] 5)) := hB.alloc hsz _
          go_wp2_with fail
          go_region_held3 (fun w' => w'.cell? ⟨b, o + k * 2, none⟩ = some (.int .i64 x.code) ∧ w'.cell? ⟨b, o + k * 2 + 1, none⟩ = some (.slice x.ad x.data.length x.cap))
            (first | go_keep | exact ⟨((own_below hBW.drew hBW.size hownW.drew hg1).cell (p := ⟨b, o + k * 2, none⟩) hb).trans ((hB.cell (p := ⟨b, o + k * 2, none⟩) hb).symm.trans hc1), ((own_below hBW.drew hBW.size hownW.drew hg1).cell (p := ⟨b, o + k * 2 + 1, none⟩) hb).trans ((hB.cell (p := ⟨b, o + k * 2 + 1, none⟩) hb).symm.trans hc2)⟩)
            ((refine step_appB rfl (.tmp 42) (.tmp 56) rfl w.heap.size u5 _ _ rfl (hownW.drew) _ _ [UInt8.ofNat x.code.toNat, UInt8.ofNat x.data.length] 2 rfl hby.drew (by simp; omega) (by simp; omega) ?_; intro v1 w1 hown1 hg1 _))
          have hB1 := own_below hBW.drew hBW.size hownW.drew hg1
          have hcell := (hB1.cell (p := ⟨b, o + k * 2 + 1, none⟩) hb).trans ((hB.cell (p := ⟨b, o + k * 2 + 1, none⟩) hb).symm.trans hc2)
          have hdat := HD.out.below hB1
          clear hg1 hwc hwl hc1 hc2 hby hownW hBW hown hB
          generalize hnn : fk.length + [UInt8.ofNat x.code.toNat, UInt8.ofNat x.data.length].length = nn at *
          have hnl : nn ≤ 1026 := by rw [← hnn]; simp; omega
          have HNN := Lib.hid hnn
          clear hnn
          by_cases hbig : 1024 ≤ nn + x.data.length
          · go_wp2_with (at_builtin; refine wpList_appB rfl (.tmp 58) (.tmp 63) rfl w.heap.size v1 _ _ rfl hown1 _ _ x.data _ rfl hdat (by omega) hB1.size ?_; intro v2 w2 hown2 hg2 _; obtain ⟨A2, c2, rfl, _⟩ := own_form hown2)
            go_ret2
            have hfull : 1024 < (flat (absL L)).length + 1 := by
              have h1 := flat_take_le (absL L) (k + 1)
              have h2 : (flat ((absL L).take (k + 1))).length = nn + x.data.length := by
                rw [HN.out, flat_snoc, List.length_append, one_length, HF.out, ← HNN.out]; simp [OptV.abs]; omega
              omega
            rw [encL_full HA.out hfull]
            exact ⟨none, 0, rfl, By.nil, Nat.le_refl _, own_below hB1 hB1.size hown1 hg2⟩
          · go_wp2_with (at_builtin; refine wpList_appB rfl (.tmp 58) (.tmp 63) rfl w.heap.size v1 _ _ rfl hown1 _ _ x.data _ rfl hdat (by omega) hB1.size ?_; intro v2 w2 hown2 hg2 _; obtain ⟨A2, c2, rfl, _⟩ := own_form hown2)
            go_roundw
            case rel =>
              have h2 : (flat ((absL L).take (k + 1))).length = nn + x.data.length := by
                rw [HN.out, flat_snoc, List.length_append, one_length, HF.out, ← HNN.out]; simp [OptV.abs]; omega
              exact ⟨k + 1, by omega, by go_num, push_own (x := x) (l := absL L) (k := k) HN.out (by rw [HF.out, HNN.out]; exact hown2), by omega, own_below hB1 hB1.size hown1 hg2⟩
            case measure => simp [intOf]; omega
        · obtain rfl : k = L.length := by omega
          rw [List.take_of_length_le (by rw [absL_length]; exact Nat.le_refl _)] at hown hsm
          have hby := one_byte wr 5 255 (by omega)
          have hownW := hown.alloc (.cells #[.int .u8 255] 5)
          have hBW := hB.alloc hsz (.cells #[.int .u8 255] 5)
          go_wp2_with (at_builtin; refine wpList_appB rfl (.tmp 68) (.tmp 69) rfl w.heap.size u5 _ _ rfl hownW _ _ [UInt8.ofNat 255] 1 rfl hby (by simp; omega) hBW.size ?_; intro v1 w1 hown1 hg1 _; have hB1 := own_below hBW hBW.size hownW hg1)
          obtain ⟨g, cap, rfl⟩ := ownsRow_succ hown1
          go_ret2
          rw [encL_ok HA.out (by omega)]
          rw [← bcells_append] at hown1
          exact ⟨some ⟨g, 0, none⟩, cap, by simp, By.of_own hown1, own_cap hown1, hB1⟩
end Go.Proofs.Ytmlckjccgdmknaa
