/- option.encodable and option.Encode. -/
import Derived.Test.YtmlckjccgdmknaaOptP
import Derived.RangeFuncBox
import Derived.Outline
namespace Go.Proofs.Ytmlckjccgdmknaa
open Go.RowKit

/-- An option's cells in a block of their own. -/
abbrev obox (x : OptV) : Obj := .cells #[.int .i64 x.code, .slice x.ad x.data.length x.cap] 47

theorem encodable_any (x : OptV) (w : World) : Calls Try.prog 41 #[x.v] w fun e w' => e = .returned (.bool (okO x.abs)) ∧ w' = w.alloc (obox x) := by
  unfold okO OptV.abs
  by_cases h0 : 0 < x.code
  · by_cases h1 : x.code < 255
    · go_enter Try.func41, Try.ntmps41
      go_wp2
      go_ret
      exact ⟨by simp [h0, h1]; omega, rfl⟩
    · have hd : decide (x.code < 255) = false := by simpa using h1
      go_enter Try.func41, Try.ntmps41
      go_wp2
      go_ret
      exact ⟨by simp, rfl⟩
  · have hd : decide (0 < x.code) = false := by simpa using h0
    go_enter Try.func41, Try.ntmps41
    go_wp2
    go_ret
    exact ⟨by simp, rfl⟩

/-- Bytes and an error's number are answered; nothing that lay has turned. -/
def GivesB (w : World) (l : List UInt8) (k : Int) (e : Ending) (w' : World) : Prop :=
  ∃ A c, e = .returned (.tuple #[.slice A l.length c, .int .i64 k]) ∧ By w' w'.heap.size A l ∧ l.length ≤ c ∧ Below w.heap.size w w'

theorem two_bytes (w : World) (t : TypeId) (c : Int) (n : Nat) (hc0 : 0 ≤ c) (hc : c < 256) (hn : n < 256) : By (w.alloc (.cells #[.int .u8 c, .int .u8 (n : Int)] t)) (w.heap.size + 1) (some ⟨w.heap.size, 0, none⟩) [UInt8.ofNat c.toNat, UInt8.ofNat n] := by
  have h := By.new w [UInt8.ofNat c.toNat, UInt8.ofNat n] t
  have e1 : ((UInt8.ofNat c.toNat).toNat : Int) = c := by
    rw [UInt8.toNat_ofNat', Nat.mod_eq_of_lt (by omega)]; omega
  have e2 : (UInt8.ofNat n).toNat = n := by
    rw [UInt8.toNat_ofNat', Nat.mod_eq_of_lt (by omega)]
  simp only [bcells, List.map_cons, List.map_nil, bV, e1, e2] at h
  exact h
theorem one_byte (w : World) (t : TypeId) (c : Nat) (hc : c < 256) : By (w.alloc (.cells #[.int .u8 (c : Int)] t)) (w.heap.size + 1) (some ⟨w.heap.size, 0, none⟩) [UInt8.ofNat c] := by
  have h := By.new w [UInt8.ofNat c] t
  have e2 : (UInt8.ofNat c).toNat = c := by
    rw [UInt8.toNat_ofNat', Nat.mod_eq_of_lt (by omega)]
  simp only [bcells, List.map_cons, List.map_nil, bV, e2] at h
  exact h

theorem cell_grown {W w1 : World} {row : Option Nat} (hg : W.grownBy w1 row) {p : Addr} (hp : p.block < W.heap.size) (hne : row ≠ some p.block) : w1.cell? p = W.cell? p :=
  World.cell?_of_block (hg.block p.block hp (fun e => hne e.symm))
theorem own_below {w W w' : World} {B : Nat} {e : TypeId} {size n : Nat} {v : Value} {xs : List Value} (hB : Below B w W) (hBs : B ≤ W.heap.size) (hown : W.ownsRow B e size v n xs) (hg : W.grownBy w' v.ownBlock) : Below B w w' :=
  hB.grown hg hBs (fun k e => (hown.lt k e).1)

theorem run_makeB (s : Nat) (hs : s ≤ 1048576) (W : World) : (Instr.makeSlice 24 (.int .i64 0) (.int .i64 (s : Int))).run Try.prog W = .ok (.slice (some ⟨W.heap.size, 0, none⟩) 0 s) (W.alloc (.cells (madeCells #[.int .u8 0] s) 5)) := by
  obtain ⟨i, hi, hz0, hz1, hz2⟩ := info_parts Try.infoB
  have h := run_make (P := Try.prog) W 24 5 i (.int .u8 0) Try.underlying24 hi hz0 .i64 .i64 0 (s : Int) (by omega) (by omega) (by rw [hz2]; omega) (by omega)
  rw [hz1] at h
  simp only [Int.toNat_zero, Int.toNat_natCast, Nat.mul_one] at h
  exact h

theorem made_own (W : World) (B s : Nat) (hB : B ≤ W.heap.size) (hs : s ≤ 1048576) : (W.alloc (.cells (madeCells #[.int .u8 0] s) 5)).ownsRow B 5 1 (.slice (some ⟨W.heap.size, 0, none⟩) 0 s) 0 (bcells []) :=
  World.ownsRow_made W _ s hB (by unfold maxLen; omega) (by rw [size_madeCells]; omega)

theorem own_cap {w : World} {base g n cap : Nat} {l : List UInt8} (h : w.ownsRow base 5 1 (.slice (some ⟨g, 0, none⟩) n cap) n (bcells l)) : l.length ≤ cap := by
  have h1 := h.1
  rw [bcells_length] at h1
  rcases h.2 with ⟨h', _⟩ | ⟨g', cap', cur, hv, _, _, hnc, _⟩
  · cases h'
  · injection hv with _ _ hc
    omega

theorem push_one {x : OptV} {k : Nat} {l : List (Int × List UInt8)} (hn : l.take (k + 1) = l.take k ++ [x.abs]) :
    bcells (flat (l.take k)) ++ bcells [UInt8.ofNat x.code.toNat, UInt8.ofNat x.data.length] ++ bcells x.data = bcells (flat (l.take (k + 1))) := by
  rw [hn, flat_snoc, bcells_append]
  simp [one, OptV.abs, bcells]

theorem push_own {w : World} {B : Nat} {v : Value} {x : OptV} {k : Nat} {l : List (Int × List UInt8)} (hn : l.take (k + 1) = l.take k ++ [x.abs])
    (h : w.ownsRow B 5 1 v ((flat (l.take k)).length + [UInt8.ofNat x.code.toNat, UInt8.ofNat x.data.length].length + x.data.length) (bcells (flat (l.take k)) ++ bcells [UInt8.ofNat x.code.toNat, UInt8.ofNat x.data.length] ++ bcells x.data)) :
    w.ownsRow B 5 1 v (flat (l.take (k + 1))).length (bcells (flat (l.take (k + 1)))) := by
  rw [push_one hn] at h
  have e : (flat (l.take (k + 1))).length = (flat (l.take k)).length + [UInt8.ofNat x.code.toNat, UInt8.ofNat x.data.length].length + x.data.length := by
    rw [hn, flat_snoc, List.length_append, one_length]; simp [OptV.abs]; omega
  rw [e]
  exact h

set_option maxRecDepth 100000 in
set_option maxHeartbeats 1000000 in
theorem encode_any (A : Option Addr) (c : Nat) (L : List OptV) (w : World) (hr : Op w w.heap.size A L) (hL : L.length ≤ 2000) :
    Calls Try.prog 26 #[.slice A L.length c] w (GivesB w (encL (absL L)).1 (encL (absL L)).2) := by
  go_enter Try.func26, Try.ntmps26
  go_wp2
  go_loopw [4, 12] (fun sv i wr => ∃ k s : Nat, k ≤ L.length ∧ i = .int .i64 k ∧ sv = .int .i64 (s : Int) ∧ s = (flat ((absL L).take k)).length + 1 ∧ ((absL L).take k).all okO = true ∧ Below w.heap.size w wr) (fun _ i _ => L.length - (intOf i).toNat)
  case atStart => exact ⟨0, 1, Nat.zero_le _, rfl, rfl, rfl, rfl, Below.refl _ _⟩
  case round =>
    obtain ⟨k, s, hk, rfl, rfl, hs, hall, hB⟩ := hrel
    have hsl : s ≤ 514001 := by
      have := flat_len_le _ hall
      rw [List.length_take, absL_length] at this
      omega
    have HS := Lib.hid hs
    clear hs
    by_cases hlt : k < L.length
    · obtain ⟨x, hx⟩ : ∃ x, L[k]? = some x := ⟨_, List.getElem?_eq_getElem hlt⟩
      obtain ⟨b, o, rfl, hb, hc1, hc2⟩ := (hr.below hB).at_ k x hx
      have hsz := hB.size
      have HN := Lib.hid (take_snoc_of (absL L) k x.abs (absL_at hx))
      have HX := Lib.hid (absL_at hx)
      have HE := Lib.hid (fun W => encodable_any x W)
      have HA := Lib.hid hall
      have HR := Lib.hid hr
      clear hx hr hall
      cases hok : okO x.abs
      · have HK := Lib.hid hok
        rw [hok] at HE
        clear hok
        go_wp2_with (go_at_call 41; refine (HE.out _).mono ?_; rintro e w' ⟨rfl, rfl⟩)
        go_ret2
        rw [encL_bad (List.mem_of_getElem? HX.out) HK.out]
        exact ⟨none, 0, rfl, By.nil, Nat.le_refl _, (hB.alloc hsz _).alloc (by simp; omega) _⟩
      · have HK := Lib.hid hok
        have hd := ((okO_iff _).1 hok).2.2
        simp only [OptV.abs] at hd
        rw [hok] at HE
        clear hok
        go_wp2_with (go_at_call 41; refine (HE.out _).mono ?_; rintro e w' ⟨rfl, rfl⟩)
        go_roundw
        case rel => exact ⟨k + 1, s + (2 + x.data.length), by omega, by go_num, by go_num, by rw [HN.out, flat_snoc, List.length_append, one_length, HS.out]; simp only [OptV.abs]; omega, all_take_succ HX.out HA.out HK.out, (hB.alloc hsz _).alloc (by simp; omega) _⟩
        case measure => simp [intOf]; omega
    · obtain rfl : k = L.length := by omega
      rw [List.take_of_length_le (by rw [absL_length]; exact Nat.le_refl _)] at HS hall
      have hsz := hB.size
      by_cases hbig : 1024 < s
      · have HA := Lib.hid hall
        clear hall
        go_wp2
        go_ret2
        rw [encL_full HA.out (by have := HS.out; omega)]
        exact ⟨none, 0, rfl, By.nil, Nat.le_refl _, hB⟩
      · have HEN := Lib.hid (encL_ok hall (by have := HS.out; omega))
        have HA := Lib.hid hall
        have hmk := run_makeB s (by omega)
        clear hall
        go_wp2
        clear hmk
        obtain ⟨w1, hw1⟩ : ∃ w1, w1 = wr.alloc (.cells (madeCells #[.int .u8 0] s) 5) := ⟨_, rfl⟩
        have hown1 := made_own wr w.heap.size s hsz (by omega)
        have hB1 := hB.alloc hsz (.cells (madeCells #[.int .u8 0] s) 5)
        rw [← hw1] at hown1 hB1 ⊢
        clear hw1 hB
        generalize hwz : wr.heap.size = wz at *
        clear hwz hsz wr
        go_loopw [7, 32] (fun v i wr => ∃ k : Nat, k ≤ L.length ∧ i = .int .i64 k ∧ wr.ownsRow w.heap.size 5 1 v (flat ((absL L).take k)).length (bcells (flat ((absL L).take k))) ∧ Below w.heap.size w wr) (fun _ i _ => L.length - (intOf i).toNat)
        case atStart => exact ⟨0, Nat.zero_le _, rfl, hown1, hB1⟩
        case round =>
          obtain ⟨k, hk, rfl, hown, hB⟩ := hrel
          have hfl := flat_take_le (absL L) k
          have hfs : (flat ((absL L).take k)).length ≤ s := by have := HS.out; omega
          clear hfl
          have hsz := hB.size
          by_cases hlt : k < L.length
          · obtain ⟨x, hx⟩ : ∃ x, L[k]? = some x := ⟨_, List.getElem?_eq_getElem hlt⟩
            obtain ⟨b, o, rfl, hb, hc1, hc2⟩ := (hr.below hB).at_ k x hx
            have HN := Lib.hid (take_snoc_of (absL L) k x.abs (absL_at hx))
            have HD := Lib.hid (hr.data x (List.mem_of_getElem? hx))
            have hok := List.all_eq_true.1 HA.out x.abs (List.mem_of_getElem? (absL_at hx))
            obtain ⟨hx0, hx1, hx2⟩ := (okO_iff _).1 hok
            simp only [OptV.abs] at hx0 hx1 hx2
            have HR := Lib.hid hr
            clear hx hr hok
            generalize hfk : flat ((absL L).take k) = fk at *
            have HF := Lib.hid hfk
            clear hfk
            have hwc : IntKind.u8.wrap x.code = x.code := by simp [IntKind.wrap, IntKind.bits, IntKind.signed]; omega
            have hwl : IntKind.u8.wrap (x.data.length : Int) = x.data.length := by simp [IntKind.wrap, IntKind.bits, IntKind.signed]; omega
            obtain ⟨W, hW⟩ : ∃ W, W = (wr.alloc (obox x)).alloc (.cells #[.int .u8 x.code, .int .u8 (x.data.length : Int)] 5) := ⟨_, rfl⟩
            have hby := two_bytes (wr.alloc (obox x)) 5 x.code x.data.length (by omega) (by omega) (by omega)
            have hownW : W.ownsRow w.heap.size 5 1 u7 fk.length (bcells fk) := by rw [hW]; exact (hown.alloc _).alloc _
            have hBW : Below w.heap.size w W := by rw [hW]; exact (hB.alloc hsz _).alloc (by simp; omega) _
            have hcW : W.cell? ⟨wr.heap.size, 1, none⟩ = some (.slice x.ad x.data.length x.cap) := by rw [hW]; simp
            have hzW : W.heap.size = wr.heap.size + 1 + 1 := by rw [hW]; simp
            rw [← hW] at hby
            simp only [World.size_alloc] at hby
            have hlo := hown.lt
            have HW := Lib.hid hW
            have HZ := Lib.hid hzW
            have HO := Lib.hid hown
            clear hW hzW hown hB
            have hne : u7.ownBlock ≠ some wr.heap.size := fun e => by have := (hlo _ e).2; omega
            have hltW : wr.heap.size < W.heap.size := by have := HZ.out; omega
            go_wp2_with (first | (at_builtin; (rw [← HW.out]; refine wpList_appB rfl (.tmp 36) (.tmp 44) rfl w.heap.size u7 _ _ rfl hownW _ _ [UInt8.ofNat x.code.toNat, UInt8.ofNat x.data.length] 2 rfl hby (by simp; omega) hBW.size ?_; intro v1 w1 hown1 hg1 _; have hcell : w1.cell? ⟨wr.heap.size, 1, none⟩ = some (.slice x.ad x.data.length x.cap) := (cell_grown hg1 hltW hne).trans hcW; have hB1 := own_below hBW hBW.size hownW hg1; have hdat := HD.out.below hB1)) | (at_builtin; refine wpList_appB rfl (.tmp 46) (.tmp 48) rfl w.heap.size v1 _ _ rfl hown1 _ _ x.data _ rfl hdat (by simp; omega) hB1.size ?_; intro v2 w2 hown2 hg2 _))
            go_roundw
            case rel => exact ⟨k + 1, by omega, by go_num, push_own (x := x) (l := absL L) (k := k) HN.out (by rw [HF.out]; exact hown2), own_below hB1 hB1.size hown1 hg2⟩
            case measure => simp [intOf]; omega
          · obtain rfl : k = L.length := by omega
            rw [List.take_of_length_le (by rw [absL_length]; exact Nat.le_refl _)] at hown hfs
            have hby := one_byte wr 5 255 (by omega)
            have hownW := hown.alloc (.cells #[.int .u8 255] 5)
            have hBW := hB.alloc hsz (.cells #[.int .u8 255] 5)
            go_wp2_with (at_builtin; refine wpList_appB rfl (.tmp 51) (.tmp 52) rfl w.heap.size u7 _ _ rfl hownW _ _ [UInt8.ofNat 255] 1 rfl hby (by simp; omega) hBW.size ?_; intro v1 w1 hown1 hg1 _; have hB1 := own_below hBW hBW.size hownW hg1)
            obtain ⟨g, cap, rfl⟩ := ownsRow_succ hown1
            go_ret2
            rw [HEN.out]
            rw [← bcells_append] at hown1
            exact ⟨some ⟨g, 0, none⟩, cap, by simp, By.of_own hown1, own_cap hown1, hB1⟩
end Go.Proofs.Ytmlckjccgdmknaa
