/- The law TableDue, over any table of the program's. -/
import Derived.Test.YtjkkdmfpekkfhaaLawTScr
namespace Go.Proofs.Ytjkkdmfpekkfhaa
open Go.RowKit Go.Sort

/-- An array of two numbers in a box. -/
theorem box2 {w w' : World} {x0 x1 : Int} (t : TypeId) (hb : Below (w.heap.size + 1) (w.alloc (.cells #[.int .i64 x0, .int .i64 x1] t)) w') : w'.cell? ⟨w.heap.size, 0, none⟩ = some (.int .i64 x0) ∧ w'.cell? ⟨w.heap.size, 1, none⟩ = some (.int .i64 x1) := by
  have h := (hb.block w.heap.size (by omega)).trans (heap_alloc_new w _)
  exact ⟨cell_of_row _ _ 0 _ _ _ h, cell_of_row _ _ 1 _ _ _ h⟩

set_option maxRecDepth 100000 in
set_option maxHeartbeats 8000000 in
theorem law_tdue {T : World → (Nat → Prop) → Nat → List LV → Prop} (K : TabK T) (A A2 : Option Addr) (c c2 : Nat) (l : List (Nat × Nat)) (ls : List LV) (x0 x1 : Int) (w : World) (hR : Rg w w.heap.size A l) (hE : El ElemL w w.heap.size A2 ls) (hl : l.length ≤ 9223372036854775807) (hls : ls.length ≤ 9223372036854775807) (ha : ∀ x ∈ ls, x.addr < 4294967296) :
    Calls Try.prog 7 #[.slice A l.length c, .slice A2 ls.length c2, .agg #[.int .i64 x0, .int .i64 x1]] w fun e w' => e = .returned (.bool true) ∧ Below w.heap.size w w' := by
  obtain ⟨w0, hw0⟩ : ∃ w0, w0 = w.alloc (.cells #[.int .i64 x0, .int .i64 x1] 55) := ⟨_, rfl⟩
  have hB0 : Below w.heap.size w w0 := by rw [hw0]; exact (Below.refl _ _).alloc (Nat.le_refl _) _
  have HX : Hid (∀ w', Below w0.heap.size w0 w' → w'.cell? ⟨w.heap.size, 0, none⟩ = some (.int .i64 x0) ∧ w'.cell? ⟨w.heap.size, 1, none⟩ = some (.int .i64 x1)) := Lib.hid (fun w' hb => by
    rw [hw0] at hb
    exact box2 _ (hb.mono (by simp)))
  have HK := Lib.hid K
  have HR := Lib.hid ((hR.below hB0).more hB0.size)
  have HE := Lib.hid (hE.later hB0)
  have HA := Lib.hid ha
  have HAW := Lib.hid (tawake_any K w0)
  have HB0 := Lib.hid hB0
  have HW0 := Lib.hid hw0
  clear K hR hE ha hB0 hw0
  go_enter Try.func7, Try.ntmps7
  go_wp2_with fail
  rw [← HW0.out]
  refine HAW.out.mono ?_
  rintro e w1 ⟨rfl, hB1⟩
  have HB1 := Lib.hid hB1
  have HR1 := Lib.hid ((HR.out.below hB1).more hB1.size)
  have HE1 := Lib.hid (HE.out.later hB1)
  have HLO := Lib.hid (long_any A A2 c c2 l ls w1 w1.heap.size HE1.out hl hls)
  clear hB1
  go_wp2_with fail
  refine HLO.out.mono ?_
  rintro e w1' ⟨rfl, rfl⟩
  cases hlong : longB l ls
  rotate_left
  · clear hlong
    go_wp2
    go_ret
    exact ⟨rfl, HB0.out.trans (HB1.out.mono HB0.out.size)⟩
  obtain ⟨h50, h200⟩ := long_not hlong
  have HM := Lib.hid (made_any HK.out A A2 c c2 l ls w1 HR1.out (by omega) HE1.out h200 HA.out)
  obtain ⟨y0, y1⟩ := HX.out w1 HB1.out
  clear hlong
  by_cases hx : x1 < x0
  · have hd : decide (x1 < x0) = true := decide_eq_true hx
    clear hx
    go_wp2
    go_ret
    exact ⟨rfl, HB0.out.trans (HB1.out.mono HB0.out.size)⟩
  have hd : decide (x1 < x0) = false := decide_eq_false hx
  have HXX : Hid (x0 ≤ x1) := Lib.hid (by omega)
  clear hx
  go_wp2_with fail
  clear y0 y1
  refine HM.out.mono ?_
  rintro e w2 (⟨ol, code, -, -, rfl, hB2⟩ | ⟨ol, P, g, gr, v, L, -, rfl, -, hT⟩)
  · go_wp2
    go_ret
    exact ⟨rfl, HB0.out.trans ((HB1.out.trans (hB2.mono HB1.out.size)).mono HB0.out.size)⟩
  have HB2 := Lib.hid (HB1.out.trans (hT.low.mono HB1.out.size))
  have HTAB := Lib.hid (HK.out.tab hT.t)
  have hfew : L.length ≤ 256 := HK.out.few hT.t
  have HT := Lib.hid hT.t
  have HD1 := Lib.hid (HK.out.due' x0 hT.t)
  obtain ⟨y0, y1⟩ := HX.out w2 HB2.out
  clear hT
  go_wp2_with fail
  refine HD1.out.mono ?_
  rintro e w3 ⟨A3, k3, l3, rfl, HL3, hE3, hk3, hB3⟩
  have HE3 := Lib.hid hE3
  have HT3 := Lib.hid (HK.out.later HT.out hB3)
  have HB3 := Lib.hid (HB2.out.trans (hB3.mono HB2.out.size))
  have HD2 := Lib.hid (HK.out.due' x1 HT3.out)
  clear y0 y1 hE3 hB3
  obtain ⟨y0, y1⟩ := HX.out w3 HB3.out
  go_wp2_with fail
  refine HD2.out.mono ?_
  rintro e w4 ⟨A4, k4, l4, rfl, HL4, hE4, hk4, hB4⟩
  have HE3' := Lib.hid (HE3.out.later hB4)
  have HE4 := Lib.hid hE4
  have HT4 := Lib.hid (HK.out.later HT3.out hB4)
  have HB4 := Lib.hid (HB3.out.trans (hB4.mono HB3.out.size))
  have HALL := Lib.hid (HK.out.all' HT4.out)
  clear y0 y1 hE4 hB4
  go_wp2_with fail
  refine HALL.out.mono ?_
  rintro e w5 ⟨A5, k5, l5, rfl, HL5, hE5, hk5, hB5⟩
  have HF3 := Lib.hid (HE3'.out.later hB5)
  have HF4 := Lib.hid (HE4.out.later hB5)
  have HF5 := Lib.hid hE5
  have HB5 := Lib.hid (HB4.out.trans (hB5.mono HB4.out.size))
  have hl5 : l5.length ≤ 256 := by rw [HL5.out]; exact hfew
  have hl3 : l3.length ≤ 256 := by rw [HL3.out]; exact Nat.le_trans (due_len_le L x0) hfew
  have hl4 : l4.length ≤ 256 := by rw [HL4.out]; exact Nat.le_trans (due_len_le L x1) hfew
  have hl34 : l3.length ≤ l4.length := by rw [HL3.out, HL4.out]; exact due_more HTAB.out HXX.out
  clear hE5 hB5
  go_wp2
  go_loopw [15, 16] (fun n i wr => ∃ j k m : Nat, j ≤ l5.length ∧ i = .int .i64 j ∧ n = .int .i64 k ∧ wr = w5.drewN m ∧ k ≤ j ∧ Hid (k = (L.take j).countP (actL x0))) (fun _ i _ => l5.length - (intOf i).toNat)
  case atStart => exact ⟨0, 0, 0, Nat.zero_le _, rfl, rfl, rfl, Nat.le_refl _, Lib.hid rfl⟩
  case round =>
    obtain ⟨j, k, m, hj, rfl, rfl, rfl, hk, HC⟩ := hrel
    by_cases hlt : j < l5.length
    · obtain ⟨y, hy⟩ : ∃ y, l5[j]? = some y := ⟨_, List.getElem?_eq_getElem hlt⟩
      have HS : Hid ((L.take (j + 1)).countP (actL x0) = (L.take j).countP (actL x0) + if actL x0 y then 1 else 0) := Lib.hid (by
        rw [take_snoc_of L j y (by rw [← HL5.out]; exact hy), List.countP_append, List.countP_singleton])
      obtain ⟨b, o, rfl, hb, v0, v1, -, v3, -⟩ := HF5.out.at8 j y hy
      have y0 := (HX.out w5 HB5.out).1
      clear hy
      by_cases h2 : y.bind = 2
      · have hq : (y.bind == 2) = true := by simpa using h2
        by_cases hu : y.unt ≤ x0
        · have hq2 : decide (y.unt ≤ x0) = true := decide_eq_true hu
          have HY : Hid (actL x0 y = true) := Lib.hid (by unfold actL; rw [hq, hq2]; rfl)
          clear h2 hu
          go_wp2
          go_quiet (fail)
          go_wp2
          go_roundw
          case rel => exact ⟨j + 1, k + 1, m + nq, by omega, by go_num, by go_num, rfl, by omega, Lib.hid (by rw [HS.out, HY.out, HC.out]; rfl)⟩
          case measure => simp [intOf]; omega
        · have hq2 : decide (y.unt ≤ x0) = false := decide_eq_false hu
          have HY : Hid (actL x0 y = false) := Lib.hid (by unfold actL; rw [hq, hq2]; rfl)
          clear h2 hu
          go_wp2
          go_quiet (fail)
          go_wp2
          go_roundw
          case rel => exact ⟨j + 1, k, m + nq, by omega, by go_num, rfl, rfl, by omega, Lib.hid (by rw [HS.out, HY.out, HC.out]; rfl)⟩
          case measure => simp [intOf]; omega
      · have hq : (y.bind == 2) = false := by simpa using h2
        have HY : Hid (actL x0 y = false) := Lib.hid (by unfold actL; rw [hq]; rfl)
        clear h2
        go_wp2
        go_quiet (fail)
        go_wp2
        go_roundw
        case rel => exact ⟨j + 1, k, m + nq, by omega, by go_num, rfl, rfl, by omega, Lib.hid (by rw [HS.out, HY.out, HC.out]; rfl)⟩
        case measure => simp [intOf]; omega
    · obtain rfl : j = l5.length := by omega
      obtain rfl : k = l3.length := by
        rw [HC.out, HL5.out, List.take_of_length_le (Nat.le_refl _), HL3.out, due_length]
      obtain ⟨w6, hw6⟩ : ∃ w6, w6 = w5.drewN m := ⟨_, rfl⟩
      rw [← hw6]
      have hB6 : Below w5.heap.size w5 w6 := by rw [hw6]; exact drewN_below w5 m
      have HG3 := Lib.hid (HF3.out.later hB6)
      have HG4 := Lib.hid (HF4.out.later hB6)
      have HB6 := Lib.hid (HB5.out.trans (hB6.mono HB5.out.size))
      have HRISE : Hid (l3.Pairwise ltD) := Lib.hid (by rw [HL3.out]; exact due_rise HTAB.out x0)
      clear hw6 hB6
      go_wp2
      go_loopw [17] (fun i wr => ∃ k m : Nat, 1 ≤ k ∧ k ≤ l3.length + 1 ∧ i = .int .i64 k ∧ wr = w6.drewN m) (fun i _ => l3.length + 1 - (intOf i).toNat)
      case atStart => exact ⟨1, 0, Nat.le_refl _, by omega, rfl, rfl⟩
      case round =>
        obtain ⟨k, m, hk1, hk2, rfl, rfl⟩ := hrel
        by_cases hkl : k < l3.length
        · obtain ⟨p, hp⟩ : ∃ p, k = p + 1 := ⟨k - 1, by omega⟩
          obtain ⟨y, hy⟩ : ∃ y, l3[p]? = some y := ⟨_, List.getElem?_eq_getElem (by omega)⟩
          obtain ⟨z, hz⟩ : ∃ z, l3[k]? = some z := ⟨_, List.getElem?_eq_getElem hkl⟩
          have hlt : ltD y z := by
            obtain ⟨h1, h2⟩ := List.getElem?_eq_some_iff.1 hy
            obtain ⟨h3, h4⟩ := List.getElem?_eq_some_iff.1 hz
            rw [← h2, ← h4]
            exact List.pairwise_iff_getElem.1 HRISE.out p k h1 h3 (by omega)
          obtain ⟨b, o, hA, -, v0, v1, -, v3, -⟩ := HG3.out.at8 p y hy
          obtain ⟨b', o', hA', -, u0, u1, -, u3, -⟩ := HG3.out.at8 k z hz
          subst hA
          injection hA' with hA'
          injection hA' with h41 h42
          subst h41 h42
          have e1 : IntKind.i64.wrap ((k : Int) - 1) = (p : Int) := by rw [IntKind.wrap_i64]; omega
          have hpl : (p : Int) < (l3.length : Int) := by omega
          have q1 : decide (z.unt < y.unt) = false := decide_eq_false (by unfold ltD at hlt; omega)
          have HP := Lib.hid hp
          clear hy hz hp
          by_cases hu : y.unt = z.unt
          · have q2 : (y.unt == z.unt) = true := by simpa using hu
            have q3 : decide (z.addr ≤ y.addr) = false := decide_eq_false (by unfold ltD at hlt; omega)
            clear hlt hu
            go_wp2
            go_quiet (fail)
            go_wp2
            go_roundw
            case rel => exact ⟨k + 1, m + nq, by omega, by omega, by go_num, rfl⟩
            case measure => simp [intOf]; omega
          · have q2 : (y.unt == z.unt) = false := by simpa using hu
            clear hlt hu
            go_wp2
            go_quiet (fail)
            go_wp2
            go_roundw
            case rel => exact ⟨k + 1, m + nq, by omega, by omega, by go_num, rfl⟩
            case measure => simp [intOf]; omega
        · obtain ⟨w7, hw7⟩ : ∃ w7, w7 = w6.drewN m := ⟨_, rfl⟩
          rw [← hw7]
          have hB7 : Below w6.heap.size w6 w7 := by rw [hw7]; exact drewN_below w6 m
          have hh : ∀ W, (Instr.slice 23 (.slice A4 l4.length k4) none (some (.int .i64 (l3.length : Int))) none).run Try.prog W = .ok (.slice A4 l3.length k4) W := fun W => by
            have := run_headE ElemL A4 l4.length k4 (l3.length : Int) (by omega) (by omega) W
            rwa [Int.toNat_natCast] at this
          have htl : (l4.take l3.length).length = l3.length := by rw [List.length_take]; omega
          have HSM := lsame_any w7.heap.size w7.heap.size A4 A3 k4 k3 (l4.take l3.length) l3 w7 ((HG4.out.later hB7).take _) (HG3.out.later hB7) (by omega)
          rw [htl, show decide (l4.take l3.length = l3) = true from decide_eq_true (by rw [HL4.out, HL3.out]; exact due_later HTAB.out HXX.out)] at HSM
          have HSM := Lib.hid HSM
          have HB7 := Lib.hid (HB6.out.trans (hB7.mono HB6.out.size))
          have g1 : decide (l3.length ≤ l4.length) = true := decide_eq_true hl34
          have g2 : (l3.length == l3.length) = true := by simp
          clear hw7 hB7 htl
          go_wp2_with fail
          refine HSM.out.mono ?_
          rintro e w8 ⟨rfl, n8, rfl⟩
          go_wp2
          go_ret
          exact ⟨by simp, HB0.out.trans ((HB7.out.trans (show Below w0.heap.size w7 (w7.drewN n8) from ⟨rfl, rfl, rfl, Nat.le_refl _, fun _ _ => rfl⟩)).mono HB0.out.size)⟩
end Go.Proofs.Ytjkkdmfpekkfhaa
