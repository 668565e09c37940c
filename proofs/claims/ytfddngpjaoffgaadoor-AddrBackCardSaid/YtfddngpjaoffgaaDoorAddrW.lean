/- lessorlaw01.awake answers true. -/
import Derived.Test.YtfddngpjaoffgaaDoorAddrP
import Derived.Test.YtfddngpjaoffgaaDoorAddrT
namespace Go.Proofs.YtfddngpjaoffgaaDoor
open Go.RowKit

theorem perm_pair {l' : List (Nat × Nat)} {x y : Nat × Nat} (h : l'.Perm [x, y]) : l' = [x, y] ∨ l' = [y, x] := by
  have hl := h.length_eq
  match l', hl with
  | [a, b], _ =>
    have ha : a ∈ [x, y] := h.mem_iff.1 (by simp)
    simp at ha
    rcases ha with rfl | rfl
    · left
      have := (List.perm_cons a).1 h
      simpa using this
    · right
      have h2 : [a, b].Perm [a, x] := h.trans (List.Perm.swap a x [])
      have := (List.perm_cons a).1 h2
      simpa using this

theorem pool_awake {ol : List (Nat × Nat)} {code : Int} (h : PoolRes [(5, 7), (1, 4)] ol code) : ol = [(1, 7)] ∧ code = 0 := by
  rcases h with ⟨⟨x, hx, h⟩, _⟩ | ⟨l', hv, hp, hs, h⟩
  · simp at hx
    rcases hx with rfl | rfl <;> simp at h
  · have e : l' = [(1, 4), (5, 7)] := by
      rcases perm_pair hp with rfl | rfl
      · unfold SortedLow at hs
        simp at hs
      · rfl
    subst e
    have hj : joinL [(1, 4), (5, 7)] = [(1, 7)] := by decide
    rw [hj] at h
    rcases h with ⟨h, _⟩ | ⟨_, h1, h2⟩
    · exact absurd h (by decide)
    · exact ⟨h1, h2⟩

theorem idx_awake : idxL ((addrsOf [(1, 7)]).take 257) 3 = 2 := by decide
theorem text_awake : textS 3232235777 = ⟨#[49, 57, 50, 46, 49, 54, 56, 46, 49, 46, 49]⟩ := by decide +kernel

set_option maxRecDepth 100000 in
set_option maxHeartbeats 1000000 in
theorem awake_any (w : World) (hT : Tab w) : Calls Tryd.prog 8 #[] w fun e w' => e = .returned (.bool true) ∧ Below w.heap.size w w' := by
  have HT := Lib.hid hT
  clear hT
  obtain ⟨w0, hw0⟩ : ∃ w0, w0 = w.alloc (.cells #[.int .u32 5, .int .u32 7, .int .u32 1, .int .u32 4] 40) := ⟨_, rfl⟩
  have hB0 : Below w.heap.size w w0 := by rw [hw0]; exact (Below.refl _ _).alloc (Nat.le_refl _) _
  have hR0 : Rg w0 w0.heap.size (some ⟨w.heap.size, 0, none⟩) [(5, 7), (1, 4)] := by
    rw [hw0]
    refine ⟨fun x hx => by simp at hx; rcases hx with rfl | rfl <;> decide, fun i x hx => ⟨w.heap.size, 0, rfl, by simp, ?_⟩⟩
    match i, hx with
    | 0, hx => simp at hx; subst hx; simp
    | 1, hx => simp at hx; subst hx; simp
  have HP := Lib.hid (pool_any (some ⟨w.heap.size, 0, none⟩) 2 [(5, 7), (1, 4)] w0 hR0 (by decide))
  have HW := Lib.hid hw0
  clear hw0 hR0
  go_enter Tryd.func8, Tryd.ntmps8
  go_wp2_with fail
  rw [← HW.out]
  refine HP.out.mono ?_
  rintro e w1 ⟨ol, code, p, cap, rfl, hres, hR1, hB1⟩
  obtain ⟨rfl, rfl⟩ := pool_awake hres
  clear hres
  obtain ⟨b, o, rfl, hb, hc1, hc2⟩ := hR1.at_ 0 (1, 7) rfl
  have HI := Lib.hid (index_any (some ⟨b, o, none⟩) cap [(1, 7)] 3 (by decide) w1 hR1)
  clear hR1
  simp at hc1 hc2
  go_wp2_with fail
  refine HI.out.mono ?_
  rintro e w2 ⟨rfl, hB2⟩
  rw [idx_awake]
  have hB : Below w.heap.size w w2 := hB0.trans ((hB1.mono hB0.size).trans (hB2.mono (Nat.le_trans hB0.size hB1.size)))
  have HX := Lib.hid (text_any 3232235777 (by decide) w2 (HT.out.below hB (Nat.le_refl _)))
  go_wp2_with fail
  refine HX.out.mono ?_
  rintro e w3 ⟨rfl, hB3⟩
  rw [text_awake]
  go_wp2
  go_ret
  exact ⟨rfl, hB.trans (hB3.mono hB.size)⟩
end Go.Proofs.YtfddngpjaoffgaaDoor
