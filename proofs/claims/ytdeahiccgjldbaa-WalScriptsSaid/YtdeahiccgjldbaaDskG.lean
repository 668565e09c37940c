/- The disk of the code: the closure of Swap. -/
import Derived.Test.YtdeahiccgjldbaaDskF
namespace Go.Proofs.Ytdeahiccgjldbaa
open Go.RowKit

theorem own_lower {w : World} {base lo : Nat} {e : TypeId} {size n : Nat} {v : Value} {xs : List Value} (h : w.ownsRow base e size v n xs) (hl : lo ≤ base) : w.ownsRow lo e size v n xs := by
  refine ⟨h.1, ?_⟩
  rcases h.2 with h | ⟨g, cap, cur, h1, h2, h3⟩
  · exact .inl h
  · exact .inr ⟨g, cap, cur, h1, Nat.le_trans hl h2, h3⟩
theorem cell_set (w : World) {D i : Nat} {u : Value} {p : Addr} (h : p.block ≠ D) : (w.setCell ⟨D, i, none⟩ u).cell? p = w.cell? p :=
  World.cell?_of_block (Below.heap_setCell w ⟨D, i, none⟩ u p.block h)

set_option maxRecDepth 100000 in
set_option maxHeartbeats 1000000 in
theorem swap1_any {base : Nat} {w : World} {D : Nat} {s : DS} {v : Value} (h : DAt DT base w D s v) (ho : s.Ok) {gb gd : Nat} {A : Option Addr} {c : Nat} {b : List UInt8} (hA : By w w.heap.size A b)
    (hb : Bx w D v gb (.slice A b.length c) 40) (hd : Bx w D v gd (ptr D) 25) :
    Calls Try.prog 42 #[ptr gb, ptr gd] w (Num fun n w' =>
      (s.room < b.length ∧ n = 3 ∧ Did DT base w D v w' s) ∨ (¬ s.room < b.length ∧ n = 0 ∧ Did DT base w D v w' { s with bs := b, last := b.length })) := by
  have e0 := h.c0
  have cb := hb.cell
  have cd := hd.cell
  have b2 := ho.r1
  have H := Lib.hid h
  have HB := Lib.hid hb
  have HD := Lib.hid hd
  have HA := Lib.hid hA
  clear h hb hd hA ho
  obtain ⟨r, hr⟩ : ∃ r, r = s.room := ⟨_, rfl⟩
  obtain ⟨m, hm⟩ : ∃ m, m = b.length := ⟨_, rfl⟩
  rw [← hr] at e0 b2
  rw [← hm] at cb
  have HR := Lib.hid hr
  have HM := Lib.hid hm
  clear hr hm
  by_cases hbig : r < m
  · have d : decide ((r : Int) < (m : Int)) = true := decide_eq_true (by omega)
    have HBig := Lib.hid hbig
    have B := Lib.hid b2
    clear hbig b2
    go_enter Try.func42, Try.ntmps42
    go_wp2_with fail
    go_region
    go_wp2
    go_ret
    exact ⟨3, rfl, .inl ⟨by rw [← HR.out, ← HM.out]; exact HBig.out, rfl, _, H.out.drew, (Kp.refl _ _).drew, fun _ hk => .inl hk⟩⟩
  · have d : decide ((r : Int) < (m : Int)) = false := decide_eq_false (by omega)
    have HBig := Lib.hid hbig
    have B := Lib.hid b2
    clear hbig b2
    go_enter Try.func42, Try.ntmps42
    go_wp2_with fail
    go_region
    go_wp2_with fail
    have hH := H.out.drew
    have hHB := HB.out.kp (Kp.refl (Oth w D v) w).drew
    have hHD := HD.out.kp (Kp.refl (Oth w D v) w).drew
    rw [← HM.out] at hHB
    have hHA : By w.drew w.drew.heap.size A b := HA.out.drew
    have hK0 : Kp (Oth w D v) w w.drew := (Kp.refl _ _).drew
    clear e0 cb cd d
    generalize w.drew = W at hH hHB hHD hHA hK0 ⊢
    have cb := hHB.cell
    have cd := hHD.cell
    have ne1 := hHB.ne
    have ne2 := hHD.ne
    have HH := Lib.hid hH
    have HHB := Lib.hid hHB
    have HHD := Lib.hid hHD
    have HK0 := Lib.hid hK0
    have HC := Lib.hid (separate_any A c m b HM.out.symm (by have := HBig.out; have := B.out; omega) W.drew hHA.drew (Nat.le_refl _))
    clear hH hHB hHD hHA hK0
    have HK1 : Hid (∀ w1, Below W.heap.size W.drew w1 → w1.cell? ⟨gd, 0, none⟩ = some (ptr D) ∧ w1.cell? ⟨gb, 0, none⟩ = some (.slice A m c) ∧ (∃ u1, w1.cell? ⟨D, 1, none⟩ = some u1) ∧ w1.frozen? ⟨D, 1, none⟩ = false ∧ (∃ u2, w1.cell? ⟨D, 2, none⟩ = some u2) ∧ w1.frozen? ⟨D, 2, none⟩ = false) := Lib.hid fun w1 hB1 => by
      have hD1 := HH.out.drew.below hB1
      exact ⟨(hB1.cell (p := ⟨gd, 0, none⟩) HHD.out.lt).trans HHD.out.cell, (hB1.cell (p := ⟨gb, 0, none⟩) HHB.out.lt).trans HHB.out.cell, ⟨_, hD1.c1⟩, hD1.free 1, ⟨_, hD1.c2⟩, hD1.free 2⟩
    go_wp2_with fail
    go_region_held3 (fun w' => w'.cell? ⟨gd, 0, none⟩ = some (ptr D) ∧ w'.cell? ⟨gb, 0, none⟩ = some (.slice A m c))
      (first
        | go_keep
        | exact ⟨d1, d2⟩
        | exact ⟨(cell_set _ (p := ⟨gd, 0, none⟩) ne2).trans d1, (cell_set _ (p := ⟨gb, 0, none⟩) ne1).trans d2⟩
        | exact ⟨(cell_set _ (p := ⟨gd, 0, none⟩) ne2).trans ((cell_set _ (p := ⟨gd, 0, none⟩) ne2).trans d1), (cell_set _ (p := ⟨gb, 0, none⟩) ne1).trans ((cell_set _ (p := ⟨gb, 0, none⟩) ne1).trans d2)⟩)
      ((go_at_call 35; refine HC.out.mono ?_; rintro e w1 ⟨v1, rfl, hown1, hob1, hB1⟩; obtain ⟨A1, c1, rfl, _⟩ := own_form hown1; obtain ⟨d1, d2, ⟨u1, d3⟩, d4, ⟨u2, d5⟩, d6⟩ := HK1.out w1 hB1))
    have hfin : Did DT base w D v ((w1.setCell ⟨D, 1, none⟩ (.slice A1 m c1)).setCell ⟨D, 2, none⟩ (.int .i64 (m : Int))) { s with bs := b, last := b.length } := by
      have hD1 := HH.out.drew.below hB1
      have hown2 : w1.ownsRow base 5 1 (.slice A1 m c1) b.length (bcells b) := by
        have := HM.out
        subst this
        refine own_lower hown1 HH.out.size
      have hD2 := (hD1.set1 b hown2).set2 m
      rw [HM.out] at hD2
      refine ⟨.slice A1 m c1, by rw [HM.out]; exact hD2, Oth.set _ _ _ (Oth.set _ _ _ (HK0.out.trans (Kp.of_below ((Below.refl W.heap.size W).drew.trans hB1) fun k hk => ?_))), fun k hk => ?_⟩
      · exact Nat.lt_of_lt_of_le hk.1 HK0.out.size
      · rw [hob1] at hk
        injection hk with hk
        subst hk
        exact .inr HK0.out.size
    have HX := Lib.hid hfin
    clear hown1 hob1 hB1 d1 d2 d3 d4 d5 d6 hfin
    go_wp2
    go_ret
    exact ⟨0, rfl, .inr ⟨by rw [← HR.out, ← HM.out]; exact HBig.out, rfl, HX.out⟩⟩

end Go.Proofs.Ytdeahiccgjldbaa
