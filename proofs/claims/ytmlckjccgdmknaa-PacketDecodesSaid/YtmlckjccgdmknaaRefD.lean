/- lessorref02.Decode. -/
import Derived.Test.YtmlckjccgdmknaaOptD
namespace Go.Proofs.Ytmlckjccgdmknaa
open Go.RowKit

/-- Options and an error's number are answered; nothing that lay has turned. -/
def GivesO (w : World) (l : List (Int × List UInt8)) (k : Int) (e : Ending) (w' : World) : Prop :=
  ∃ A c L, e = .returned (.tuple #[.slice A L.length c, .int .i64 k]) ∧ absL L = l ∧ Op w' w'.heap.size A L ∧ Below w.heap.size w w'

/-- Each option's data lies in a row of its own, from block lo on. -/
def OwnAll (w : World) (lo : Nat) (L : List OptV) : Prop := ∀ x ∈ L, Own8 w lo (.slice x.ad x.data.length x.cap) x.data

theorem own_apart {w : World} {b1 b2 : Nat} {e1 e2 : TypeId} {s1 s2 n1 n2 : Nat} {v1 v2 : Value} {x1 x2 : List Value} (h1 : w.ownsRow b1 e1 s1 v1 n1 x1) (h2 : w.ownsRow b2 e2 s2 v2 n2 x2) (hne : e1 ≠ e2) : v1.ownBlock = none ∨ v1.ownBlock ≠ v2.ownBlock := by
  rcases h1.2 with ⟨rfl, _⟩ | ⟨g1, _, _, rfl, _, hh1, _⟩
  · exact .inl rfl
  · rcases h2.2 with ⟨rfl, _⟩ | ⟨g2, _, _, rfl, _, hh2, _⟩
    · exact .inr (by simp [Value.ownBlock])
    · right
      intro e
      simp [Value.ownBlock] at e
      subst e
      rw [hh1] at hh2
      injection hh2 with hh2
      injection hh2 with _ ht
      exact hne ht

theorem OwnAll.kept {w w' : World} {lo : Nat} {L : List OptV} (h : OwnAll w lo L) {b : Nat} {s n : Nat} {v : Value} {xs : List Value} (hv : w.ownsRow b 47 s v n xs) (hg : w.grownBy w' v.ownBlock) : OwnAll w' lo L :=
  fun x hx => (h x hx).kept hg (own_apart (h x hx) hv (by decide))
theorem OwnAll.alloc {w : World} {lo : Nat} {L : List OptV} (h : OwnAll w lo L) (o : Obj) : OwnAll (w.alloc o) lo L := fun x hx => (h x hx).alloc o
theorem OwnAll.drew {w : World} {lo : Nat} {L : List OptV} (h : OwnAll w lo L) : OwnAll w.drew lo L := fun x hx => (h x hx).drew
theorem OwnAll.none_ (w : World) (lo : Nat) : OwnAll w lo [] := fun x hx => by simp at hx
theorem OwnAll.snoc {w : World} {lo : Nat} {L : List OptV} {x : OptV} (h : OwnAll w lo L) (hx : Own8 w lo (.slice x.ad x.data.length x.cap) x.data) : OwnAll w lo (L ++ [x]) := by
  intro y hy
  rcases List.mem_append.1 hy with hy | hy
  · exact h y hy
  · simp at hy; subst hy; exact hx
theorem OwnAll.op {w : World} {lo base : Nat} {A : Option Addr} {n c : Nat} {L : List OptV} (h : OwnAll w lo L) (hv : w.ownsRow base 47 2 (.slice A n c) n (ocells L)) : Op w w.heap.size A L :=
  Op.of_own hv fun x hx => By.of_own (h x hx)
/-- Byte rows of the call's own stay where a row of bytes that is laid later grows. -/
theorem OwnAll.grown8 {w w' : World} {lo : Nat} {L : List OptV} (h : OwnAll w lo L) {row : Option Nat} (hg : w.grownBy w' row) (hr : ∀ x ∈ L, (Value.slice x.ad x.data.length x.cap).ownBlock = none ∨ (Value.slice x.ad x.data.length x.cap).ownBlock ≠ row) : OwnAll w' lo L :=
  fun x hx => (h x hx).kept hg (hr x hx)

theorem own_ne2 {w : World} {base : Nat} {e : TypeId} {size n : Nat} {v : Value} {xs : List Value} (h : w.ownsRow base e size v n xs) {v2 : Value} (hg : v2.ownBlock = some w.heap.size) : v.ownBlock = none ∨ v.ownBlock ≠ v2.ownBlock :=
  .inr fun e => by rw [hg] at e; have := (h.lt _ e).2; omega

/-- Where decoding stands: what has been read, and what is left. -/
def Left (b : List UInt8) (i : Nat) (L : List OptV) : Prop := decL b = (decL (b.drop i)).map (absL L ++ ·)

theorem Left.start (b : List UInt8) : Left b 0 [] := by
  unfold Left
  rw [List.drop_zero]
  cases decL b <;> simp [absL]
theorem drop_cons {b : List UInt8} {i : Nat} {x : UInt8} (h : b[i]? = some x) : b.drop i = x :: b.drop (i + 1) := by
  obtain ⟨h1, h2⟩ := List.getElem?_eq_some_iff.1 h
  rw [List.drop_eq_getElem_cons h1, h2]
theorem Left.skip {b : List UInt8} {i : Nat} {L : List OptV} (h : Left b i L) (hx : b[i]? = some 0) : Left b (i + 1) L := by
  unfold Left at *
  rw [h, drop_cons hx, decL_skip]

theorem Left.more {b : List UInt8} {i j : Nat} {L : List OptV} (h : Left b i L) {x : UInt8} {r d : List UInt8} {A2 : Option Addr} {c2 : Nat} (e1 : skipL (b.drop i) = x :: r) (hx : x ≠ 255) (hp : splitL (x :: r) = some (d, b.drop j)) : Left b j (L ++ [⟨(x.toNat : Int), A2, c2, d⟩]) := by
  unfold Left at *
  rw [h, decL_one e1 hx hp]
  cases decL (b.drop j) <;> simp [absL, OptV.abs]

set_option maxRecDepth 100000 in
set_option maxHeartbeats 2000000 in
theorem rdecode_any (A : Option Addr) (c : Nat) (b : List UInt8) (w : World) (h : By w w.heap.size A b) (hc : b.length ≤ c) (hl : b.length ≤ 3000) :
    Calls Try.prog 36 #[.slice A b.length c] w (GivesO w (decR b).1 (decR b).2) := by
  obtain ⟨i0, hi, hz0, hz1, hz2⟩ := info_parts Try.infoO
  by_cases hbig : 1024 < b.length
  · have HR := Lib.hid (decR_big hbig)
    have hd : decide ((1024 : Int) < (b.length : Int)) = true := by simp; omega
    go_enter Try.func36, Try.ntmps36
    go_wp2
    go_ret2
    rw [HR.out]
    exact ⟨none, 0, [], rfl, rfl, Op.nil, Below.refl _ _⟩
  · have hd : decide ((1024 : Int) < (b.length : Int)) = false := by simp; omega
    have HBG := Lib.hid hbig
    go_enter Try.func36, Try.ntmps36
    go_wp2
    go_loopw [4, 5] (fun v iv wr => ∃ (i : Nat) (L : List OptV), i ≤ b.length ∧ iv = .int .i64 i ∧ L.length ≤ i ∧ wr.ownsRow w.heap.size 47 2 v L.length (ocells L) ∧ OwnAll wr w.heap.size L ∧ Left b i L ∧ Below w.heap.size w wr) (fun _ iv _ => b.length - (intOf iv).toNat)
    case atStart => exact ⟨0, [], Nat.zero_le _, rfl, Nat.le_refl _, ⟨rfl, .inl ⟨rfl, rfl⟩⟩, OwnAll.none_ _ _, Left.start b, Below.refl _ _⟩
    case round =>
      obtain ⟨i, L, hib, rfl, hLi, hown, hoa, hleft, hB⟩ := hrel
      have HL := Lib.hid hleft
      have HO := Lib.hid hoa
      have hsz := hB.size
      clear hleft hoa
      by_cases hlt : i < b.length
      · obtain ⟨x, hx⟩ : ∃ x, b[i]? = some x := ⟨_, List.getElem?_eq_getElem hlt⟩
        obtain ⟨g, o, rfl, hg, hcell⟩ := (h.below hB).at_ i x hx
        have HX := Lib.hid hx
        clear hx
        by_cases hx0 : x = 0
        · subst hx0
          have hcell' : wr.cell? ⟨g, o + i, none⟩ = some (.int .u8 0) := hcell
          clear hcell
          go_wp2
          go_roundw
          case rel => exact ⟨i + 1, L, by omega, by go_num, by omega, hown, HO.out, HL.out.skip HX.out, hB⟩
          case measure => simp [intOf]; omega
        · have hxz : ((x.toNat : Int) == 0) = false := by
            have : x.toNat ≠ 0 := fun e => hx0 (UInt8.toNat_inj.1 (by simpa using e))
            simp; omega
          have HX0 := Lib.hid hx0
          clear hx0
          by_cases hxe : x = 255
          · subst hxe
            have hcell' : wr.cell? ⟨g, o + i, none⟩ = some (.int .u8 255) := hcell
            clear hcell hxz
            have HZ : Hid (∀ A' c', By wr w.heap.size A' (b.drop (i + 1)) → Calls Try.prog 49 #[.slice A' (b.length - (i + 1)) c'] wr fun e w' => e = .returned (.bool (skipL (b.drop (i + 1))).isEmpty) ∧ wr = w') := fun A' c' h' => by
              have hz := zero_any w.heap.size A' c' (b.drop (i + 1)) wr h' (by rw [List.length_drop]; omega)
              rwa [List.length_drop] at hz
            have HD : Hid (decL b = (if (skipL (b.drop (i + 1))).isEmpty then some (absL L) else none)) := by
              have e1 := HL.out
              unfold Left at e1
              rw [drop_cons HX.out, decL_end (skipL_other _ (by decide))] at e1
              show decL b = _
              rw [e1]
              split <;> simp
            have i0 : (0 : Int) ≤ (i : Int) + 1 := by omega
            have i1 : (i : Int) + 1 ≤ (b.length : Int) := by omega
            have hby := (h.below hB).at_off (i + 1)
            obtain ⟨A', c', rfl, _⟩ := own_form hown
            have hop := HO.out.op hown
            generalize hem : (skipL (b.drop (i + 1))).isEmpty = em at *
            have HEM := Lib.hid hem
            clear hem
            by_cases hci : c = i + 1
            · have hnil : b.drop (i + 1) = [] := List.drop_of_length_le (by omega)
              have HN := Lib.hid hnil
              clear hnil
              subst hci
              cases em
              · exact absurd HEM.out (by rw [HN.out]; simp [skipL])
              · have HZ0 : Hid (Calls Try.prog 49 #[.slice (some ⟨g, o, none⟩) 0 0] wr fun e w' => e = .returned (.bool true) ∧ wr = w') := zero_any w.heap.size (some ⟨g, o, none⟩) 0 [] wr By.nil (by simp)
                go_wp2_with fail
                refine HZ0.out.mono ?_
                rintro e w' ⟨rfl, rfl⟩
                go_wp2
                go_ret2
                rw [decR_some HBG.out HD.out]
                exact ⟨A', c', L, rfl, rfl, hop, hB⟩
            · cases em
              · go_wp2_with fail
                refine (HZ.out _ _ hby).mono ?_
                rintro e w' ⟨rfl, rfl⟩
                go_wp2
                go_ret2
                rw [decR_none HD.out]
                exact ⟨none, 0, [], rfl, rfl, Op.nil, hB⟩
              · go_wp2_with fail
                refine (HZ.out _ _ hby).mono ?_
                rintro e w' ⟨rfl, rfl⟩
                go_wp2
                go_ret2
                rw [decR_some HBG.out HD.out]
                exact ⟨A', c', L, rfl, rfl, hop, hB⟩
          · have hxn : ((x.toNat : Int) == 255) = false := by
              have : x.toNat ≠ 255 := fun e => hxe (UInt8.toNat_inj.1 (by simpa using e))
              simp; omega
            have HXE := Lib.hid hxe
            clear hxe
            have hx255 := x.toNat_lt
            have e1 : Hid (skipL (b.drop i) = x :: b.drop (i + 1)) := by show _ = _; rw [drop_cons HX.out]; exact skipL_other _ HX0.out
            by_cases hi1 : b.length ≤ i + 1
            · have HD : Hid (decL b = none) := by
                have e2 := HL.out
                unfold Left at e2
                have hp : splitL (x :: b.drop (i + 1)) = none := by rw [List.drop_of_length_le hi1]; rfl
                rw [decL_cut e1.out HXE.out hp] at e2
                exact e2
              have hd1 : decide ((b.length : Int) ≤ (i : Int) + 1) = true := by simp; omega
              go_wp2
              go_ret2
              rw [decR_none HD.out]
              exact ⟨none, 0, [], rfl, rfl, Op.nil, hB⟩
            · have hd1 : decide ((b.length : Int) ≤ (i : Int) + 1) = false := by simp; omega
              obtain ⟨y, hy⟩ : ∃ y, b[i + 1]? = some y := ⟨_, List.getElem?_eq_getElem (by omega)⟩
              obtain ⟨g', o', hgo, hg', hcelly⟩ := (h.below hB).at_ (i + 1) y hy
              obtain ⟨rfl, rfl⟩ : g = g' ∧ o = o' := by injection hgo with hgo; injection hgo with h1 h2; exact ⟨h1, h2⟩
              clear hgo hg'
              have hyb := y.toNat_lt
              change wr.cell? _ = some (.int .u8 (y.toNat : Int)) at hcelly
              change wr.cell? _ = some (.int .u8 (x.toNat : Int)) at hcell
              have e2 : Hid (b.drop (i + 1) = y :: b.drop (i + 1 + 1)) := drop_cons hy
              clear hy
              by_cases hfit : i + 2 + y.toNat ≤ b.length
              · have hp : splitL (x :: b.drop (i + 1)) = some ((b.drop (i + 2)).take y.toNat, b.drop (i + 2 + y.toNat)) := by
                  rw [e2.out]
                  simp only [splitL]
                  rw [if_pos (by rw [List.length_drop]; omega), List.drop_drop]
                have HNL : Hid (∀ A2 c2, Left b (i + 2 + y.toNat) (L ++ [⟨(x.toNat : Int), A2, c2, (b.drop (i + 2)).take y.toNat⟩])) := fun A2 c2 => HL.out.more e1.out HXE.out hp
                have hd2 : decide ((b.length : Int) < (i : Int) + 2 + (y.toNat : Int)) = false := by simp; omega
                obtain ⟨Ad, hcut, hbyd⟩ := cut_by (h.below hB) b.length c (i + 2) (i + 2 + y.toNat) ((i : Int) + 2) ((i : Int) + 2 + (y.toNat : Int)) (by omega) (by omega) (by omega) (by omega) hc
                rw [show i + 2 + y.toNat - (i + 2) = y.toNat by omega] at hcut hbyd
                have hdl : ((b.drop (i + 2)).take y.toNat).length = y.toNat := by rw [List.length_take, List.length_drop]; omega
                have HDL := Lib.hid hdl
                clear hp hdl
                generalize hdat : (b.drop (i + 2)).take y.toNat = dat at *
                clear hdat
                generalize hny : y.toNat = ny at *
                generalize hnx : x.toNat = nx at *
                clear hny hnx
                obtain ⟨A', c', rfl, _⟩ := own_form hown
                have hownE := World.ownsRow_made (base := w.heap.size) (e := 5) (size := 1) wr #[] 0 hsz (Nat.zero_le _) rfl
                have hBE := hB.alloc hsz (.cells #[] 5)
                have hownO := hown.alloc (.cells #[] 5)
                have hne0 : (Value.slice A' L.length c').ownBlock = none ∨ (Value.slice A' L.length c').ownBlock ≠ (Value.slice (some ⟨wr.heap.size, 0, none⟩) 0 0).ownBlock := own_apart hownO hownE (by decide)
                have j0 : (0 : Int) ≤ (i : Int) + 1 := by omega
                have j1 : (i : Int) + 1 < (b.length : Int) := by omega
                have j2 : (0 : Int) ≤ (i : Int) := by omega
                have j3 : (i : Int) < (b.length : Int) := by omega
                have w1' : IntKind.i64.wrap ((i : Int) + 1) = (i : Int) + 1 := IntWalk.i64_in _ (by omega)
                have w2' : IntKind.i64.wrap ((i : Int) + 2) = (i : Int) + 2 := IntWalk.i64_in _ (by omega)
                have w3' : IntKind.i64.wrap ((i : Int) + 2 + (ny : Int)) = (i : Int) + 2 + (ny : Int) := IntWalk.i64_in _ (by omega)
                have w4' : IntKind.i64.wrap (ny : Int) = (ny : Int) := IntWalk.i64_in _ (by omega)
                have w5' : IntKind.i64.wrap (nx : Int) = (nx : Int) := IntWalk.i64_in _ (by omega)
                have t1 : ((i : Int) + 1).toNat = i + 1 := by omega
                go_wp2_with fail
                go_region_held3 (fun w' => w'.cell? ⟨g, o + i, none⟩ = some (.int .u8 (nx : Int)) ∧ w'.cell? ⟨g, o + (i + 1), none⟩ = some (.int .u8 (ny : Int)))
                  (first
                    | go_keep
                    | exact ⟨(hB2.cell (p := ⟨g, o + i, none⟩) hg).trans ((hB.cell (p := ⟨g, o + i, none⟩) hg).symm.trans hcell), (hB2.cell (p := ⟨g, o + (i + 1), none⟩) hg).trans ((hB.cell (p := ⟨g, o + (i + 1), none⟩) hg).symm.trans hcelly)⟩
                    | exact ⟨(hB1.cell (p := ⟨g, o + i, none⟩) hg).trans ((hB.cell (p := ⟨g, o + i, none⟩) hg).symm.trans hcell), (hB1.cell (p := ⟨g, o + (i + 1), none⟩) hg).trans ((hB.cell (p := ⟨g, o + (i + 1), none⟩) hg).symm.trans hcelly)⟩)
                  (first
                    | (refine step_appBm rfl (.tmp 59) (.tmp 72) rfl w.heap.size (.slice (some ⟨wr.heap.size, 0, none⟩) 0 0) 0 [] rfl hownE.drew _ _ dat _ _ HDL.out.symm rfl (hbyd.below (Below.refl _ _ |>.alloc hsz _ |>.drew)) ny (Nat.zero_add _) (by omega) (by simp; omega) ?_
                       intro A2 c2 w1 hown1 hg1
                       have hO1 := hownO.drew.kept hg1 hne0
                       have hB1 := own_below hBE.drew hBE.size hownE.drew hg1)
                    | (refine step_append_lies _ (by rfl) (.tmp 53) (.tmp 75) 25 (by rfl) w.heap.size 47 i0 _ 2 32 Try.underlying25 hi hz0 hz1 hz2 rfl (by omega) (.slice A' L.length c') L.length (ocells L) (by rfl) (hO1.alloc _) ⟨w1.heap.size, 0, none⟩ 1 1 [.int .i64 (nx : Int), .slice A2 ny c2] (by rfl) (by rfl) (World.news_of_block (cs := #[.int .i64 (nx : Int), .slice A2 ny c2]) (t := 47) (fr := (0, 0)) (heap_alloc_new w1 _)) (by simp [Value.oneCell']) (by omega) (by unfold maxLen; omega) (by omega) (by simp; have := hB1.size; omega) (w1.heap.size + 1) (by simp) ?_; intro gg cap w2 hown2 hg2 hat hlt2; have hB2 := own_below (hB1.alloc hB1.size (.cells #[.int .i64 (nx : Int), .slice A2 ny c2] 47)) (by simp; have := hB1.size; omega) (hO1.alloc _) hg2))
                clear w1' w2' w3' w4' w5' t1 hcut
                go_wp2
                go_roundw
                case rel =>
                  have hoa1 : OwnAll w1 w.heap.size L := (HO.out.alloc _).drew.grown8 hg1 (fun z hz => own_ne2 (HO.out z hz) rfl)
                  have hd1 : Own8 w1 w.heap.size (.slice A2 dat.length c2) dat := by unfold Own8; rw [HDL.out]; exact hown1
                  have hoa2 := ((hoa1.snoc (x := ⟨(nx : Int), A2, c2, dat⟩) hd1).alloc (.cells #[.int .i64 (nx : Int), .slice A2 ny c2] 47)).kept (hO1.alloc _) hg2
                  refine ⟨i + 2 + ny, L ++ [⟨(nx : Int), A2, c2, dat⟩], hfit, by go_num, by simp; omega, ?_, hoa2, HNL.out A2 c2, hB2⟩
                  rw [ocells_append, List.length_append]
                  simpa [ocells, HDL.out] using hown2
                case measure => simp [intOf]; omega
              · have HD : Hid (decL b = none) := by
                  have e3 := HL.out
                  unfold Left at e3
                  have hp : splitL (x :: b.drop (i + 1)) = none := by rw [e2.out]; simp only [splitL]; rw [if_neg (by rw [List.length_drop]; omega)]
                  rw [decL_cut e1.out HXE.out hp] at e3
                  exact e3
                have hd2 : decide ((b.length : Int) < (i : Int) + 2 + (y.toNat : Int)) = true := by simp; omega
                go_wp2
                go_ret2
                rw [decR_none HD.out]
                exact ⟨none, 0, [], rfl, rfl, Op.nil, hB⟩
      · have HD : Hid (decL b = none) := by
          have e1 := HL.out
          unfold Left at e1
          rw [List.drop_of_length_le (by omega), decL_nil skipL_nil] at e1
          exact e1
        go_wp2
        go_ret2
        rw [decR_none HD.out]
        exact ⟨none, 0, [], rfl, rfl, Op.nil, hB⟩
end Go.Proofs.Ytmlckjccgdmknaa
