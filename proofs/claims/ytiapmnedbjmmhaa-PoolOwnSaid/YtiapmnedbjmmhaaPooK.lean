/- What is asked of the program's pool, whatever it is made of (PoolK); lessorlaw17.plans, awake. -/
import Derived.Test.YtiapmnedbjmmhaaPooA
import Derived.Deep.RegionHeld3
namespace Go.Proofs.Ytiapmnedbjmmhaa
open Go.RowKit Go.Sort Flo

/-- A float is stored as any other cell. -/
theorem run_store_flt {P : Program} {w : World} {a : Addr} {m : Mode} (k : FloatKind) (b : Nat) : (store a (.float k b) m).run P w = stored P w a (.float k b) m := run_store P w a _ m rfl
attribute [local go_sem] run_store_flt

/-- What the program's plan does. -/
structure PoolK : Prop where
  giv : ∀ (p s : Nat) (id f b : Int) (W : World), Calls Try.prog 9 #[f2v p s, .int .i64 id, .int .i64 f, .int .i64 b] W fun e w' => e = .returned (.int .i64 (givV p s id f b)) ∧ Below W.heap.size W w'
  cho : ∀ (p s : Nat) (id : Int) (A : Option Addr) (c : Nat) (L : List LV) (W : World), El ElemL W W.heap.size A L → L.length ≤ 300 →
    Calls Try.prog 12 #[f2v p s, .int .i64 id, .slice A L.length c] W (GivesA W (chV p s id L))

theorem qbk {f : FuncId} {args : Array Value} {v : Value} (h : ∀ V, Calls Try.prog f args V fun e w' => e = .returned v ∧ Below V.heap.size V w') (w : World) (d : Nat) (os : Array Obj) : Calls Try.prog f args (grow (redrawn w d) os) fun e w'' => e = .returned v ∧ ∃ p : Regrown, w'' = grow (redrawn w p.d) p.os :=
  Calls.regrown_of (h _)

/-- A plan is laid into a box, cell by cell. -/
def storeP (W : World) (g p s : Nat) : World := (W.setCell ⟨g, 0, none⟩ (.float .f64 p)).setCell ⟨g, 1, none⟩ (.float .f64 s)
theorem storeP_box {W : World} {t : TypeId} {g p0 s0 : Nat} (h : F2 t W g p0 s0) (p s : Nat) : F2 t (storeP W g p s) g p s := by
  have one : ∀ (V : World) (cs : Array Value) (i : Nat) (u : Value), V.heap[g]? = some (.cells cs t (0, 0)) → (V.setCell ⟨g, i, none⟩ u).heap[g]? = some (.cells (cs.setIfInBounds i u) t (0, 0)) := fun V cs i u hV => by
    show (V.heap.modify g _)[g]? = _
    rw [Array.getElem?_modify, if_pos rfl, hV]
    rfl
  exact one _ _ 1 _ (one _ _ 0 _ h)
theorem F2.storeP {W : World} {t : TypeId} {g k p0 s0 p s : Nat} (h : F2 t W g p0 s0) (hk : g ≠ k) : F2 t (storeP W k p s) g p0 s0 :=
  (Below.heap_setCell _ ⟨k, 1, none⟩ _ g hk).trans ((Below.heap_setCell _ ⟨k, 0, none⟩ _ g hk).trans h)
theorem storeP_low (W : World) (B g : Nat) (hg : B ≤ g) (p s : Nat) : Below B W (storeP W g p s) := ((Below.refl B W).setCell (p := ⟨g, 0, none⟩) hg _).setCell (p := ⟨g, 1, none⟩) hg _

theorem plans_end {w W : World} {g1 g2 p s : Nat} {t : Array Value} (h1 : F2 27 W g1 p s) (h2 : F2 28 W g2 p s) (hB : Below w.heap.size w W) (e1 : t[2]?.getD undef = .pointer (some ⟨g1, 0, none⟩)) (e2 : t[3]?.getD undef = .pointer (some ⟨g2, 0, none⟩)) :
    bodyPost Try.prog Try.f8 (fun e w' => e = .returned (.tuple #[f2v p s, f2v p s]) ∧ Below w.heap.size w w') .ret { tmps := t, defers := [] } W := by
  refine bodyPost_ret (v := .tuple #[f2v p s, f2v p s]) ?_ ?_ ?_
  · have a0 := h1.c0
    have a1 := h1.c1
    have b0 := h2.c0
    have b1 := h2.c1
    simp [results, Try.f8, go_sem, e1, e2, a0, a1, b0, b1]
  · rfl
  · exact ⟨rfl, hB⟩

set_option maxRecDepth 100000 in
set_option maxHeartbeats 2000000 in
theorem plans_any (p s : Nat) (w : World) : Calls Try.prog 8 #[f2v p s] w fun e w' => e = .returned (.tuple #[f2v p s, f2v p s]) ∧ Below w.heap.size w w' := by
  obtain ⟨w0, hw0⟩ : ∃ w0, w0 = ((w.alloc (f2box 23 p s)).alloc (f2box 27 0 0)).alloc (f2box 28 0 0) := ⟨_, rfl⟩
  have HX : Hid (F2 23 w0 w.heap.size p s) := Lib.hid (by rw [hw0]; exact ((F2.new w _ p s).alloc _).alloc _)
  have HA : Hid (F2 27 w0 (w.heap.size + 1) 0 0) := Lib.hid (by rw [hw0]; have h := F2.new (w.alloc (f2box 23 p s)) 27 0 0; rw [show (w.alloc (f2box 23 p s)).heap.size = w.heap.size + 1 by simp] at h; exact h.alloc _)
  have HD : Hid (F2 28 w0 (w.heap.size + 1 + 1) 0 0) := Lib.hid (by rw [hw0]; have h := F2.new ((w.alloc (f2box 23 p s)).alloc (f2box 27 0 0)) 28 0 0; rw [show ((w.alloc (f2box 23 p s)).alloc (f2box 27 0 0)).heap.size = w.heap.size + 1 + 1 by simp] at h; exact h)
  have HB : Hid (Below w.heap.size w w0) := Lib.hid (by rw [hw0]; exact (((Below.refl _ _).alloc (Nat.le_refl _) _).alloc (by simp) _).alloc (by simp; omega) _)
  have HW0 := Lib.hid hw0
  clear hw0
  have x0 := HX.out.c0
  have x1 := HX.out.c1
  have a0 := HA.out.c0
  have a1 := HA.out.c1
  have d0 := HD.out.c0
  have d1 := HD.out.c1
  have fa0 := HA.out.free 0
  have fa1 := HA.out.free 1
  have fd0 := HD.out.free 0
  have fd1 := HD.out.free 1
  go_enter Try.func8, Try.ntmps8
  go_upto_region 1 with fail
  rw [← HW0.out]
  go_region
  go_wp2
  exact plans_end (W := (storeP (storeP w0 (w.heap.size + 1) p s) (w.heap.size + 1 + 1) p s).drew) (((storeP_box HA.out p s).storeP (by omega)).drew) ((storeP_box (HD.out.storeP (by omega)) p s).drew) ((HB.out.trans ((storeP_low w0 _ _ (by omega) p s).trans (storeP_low _ _ _ (by omega) p s))).drew) rfl rfl

/-- Both plans, as a caller of plans lays them. -/
theorem layP_facts (w : World) (p s : Nat) : ∃ w0, w0 = (w.alloc (f2box 27 p s)).alloc (f2box 28 p s) ∧ F2 27 w0 w.heap.size p s ∧ F2 28 w0 (w.heap.size + 1) p s ∧ Below w.heap.size w w0 := by
  refine ⟨_, rfl, (F2.new w _ p s).alloc _, ?_, ((Below.refl _ _).alloc (Nat.le_refl _) _).alloc (by simp) _⟩
  have h := F2.new (w.alloc (f2box 27 p s)) 28 p s
  rw [show (w.alloc (f2box 27 p s)).heap.size = w.heap.size + 1 by simp] at h
  exact h

theorem aw_one : givV HALF TENTH 0 10 0 = 5 := by
  unfold givV unW
  rw [show bnd 10 = 10 from by decide, show bnd 0 = 0 from by decide, un_10_0, gt_half, if_pos rfl, if_pos rfl]
  exact half_share
theorem aw_two : givV HALF TENTH 1 0 10 = 5 := by
  unfold givV unW
  rw [show bnd 10 = 10 from by decide, show bnd 0 = 0 from by decide, un_0_10, gt_half, if_pos rfl, if_neg (by decide), if_pos rfl, show (0 : Int) + 10 = 10 from rfl, half_part10]
  decide
theorem aw_three : givV HALF TENTH 0 5 5 = 0 := by
  unfold givV unW
  rw [show bnd 5 = 5 from by decide, un_5_5, gt_nought]
  rfl

set_option maxRecDepth 100000 in
set_option maxHeartbeats 2000000 in
theorem pawake_any (K : PoolK) (w : World) : Calls Try.prog 7 #[] w fun e w' => e = .returned (.bool true) ∧ Below w.heap.size w w' := by
  have HP := Lib.hid (fun V => plans_any HALF TENTH V)
  have H1 := Lib.hid (fun V => K.giv HALF TENTH 0 10 0 V)
  have H2 := Lib.hid (fun V => K.giv HALF TENTH 1 0 10 V)
  have H3 := Lib.hid (fun V => K.giv HALF TENTH 0 5 5 V)
  rw [aw_one] at H1
  rw [aw_two] at H2
  rw [aw_three] at H3
  clear K
  go_enter Try.func7, Try.ntmps7
  go_wp2_with fail
  refine (HP.out _).mono ?_
  rintro e w1 ⟨rfl, hb1⟩
  obtain ⟨w2, hw2, ha, hd, hb2⟩ := layP_facts w1 HALF TENTH
  have HA := Lib.hid ha
  have HB2 := Lib.hid (hb1.trans (hb2.mono hb1.size))
  have HW2 := Lib.hid hw2
  clear ha hd hb1 hb2 hw2
  go_upto_region 2 with fail
  rw [← HW2.out]
  generalize w1.heap.size = g at *
  clear HW2
  have c0 := HA.out.c0
  have c1 := HA.out.c1
  go_wp2_with fail
  refine (H1.out _).mono ?_
  rintro e w3 ⟨rfl, hb3⟩
  have HA3 := Lib.hid (HA.out.later hb3)
  have HB3 := Lib.hid (HB2.out.trans (hb3.mono HB2.out.size))
  clear hb3 c0 c1
  have c0 := HA3.out.c0
  have c1 := HA3.out.c1
  go_wp2_with fail
  refine (H2.out _).mono ?_
  rintro e w4 ⟨rfl, hb4⟩
  have HA4 := Lib.hid (HA3.out.later hb4)
  have HB4 := Lib.hid (HB3.out.trans (hb4.mono HB3.out.size))
  clear hb4 c0 c1
  have c0 := HA4.out.c0
  have c1 := HA4.out.c1
  go_wp2_with fail
  refine (H3.out _).mono ?_
  rintro e w5 ⟨rfl, hb5⟩
  have HB5 := Lib.hid (HB4.out.trans (hb5.mono HB4.out.size))
  clear hb5
  go_wp2
  go_ret
  exact ⟨rfl, HB5.out⟩
end Go.Proofs.Ytiapmnedbjmmhaa
