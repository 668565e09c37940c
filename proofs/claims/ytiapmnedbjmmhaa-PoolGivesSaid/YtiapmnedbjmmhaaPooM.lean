/- Two floats in a block of their own: an array of two, a plan of either kind; the document's Gives. -/
import Derived.Test.YtiapmnedbjmmhaaPooP
import Derived.Test.YtiapmnedbjmmhaaLeaM
import Derived.BigQuiet
import Derived.Deep.QuietTactic
import Derived.Deep.DeepCutAuto
namespace Go.Proofs.Ytiapmnedbjmmhaa
open Ieee Go.RowKit Go.Sort Flo

/-- Block g holds two floats. -/
def F2 (t : TypeId) (w : World) (g : Nat) (p s : Nat) : Prop := w.heap[g]? = some (.cells #[.float .f64 p, .float .f64 s] t (0, 0))
abbrev f2v (p s : Nat) : Value := .agg #[.float .f64 p, .float .f64 s]
abbrev f2box (t : TypeId) (p s : Nat) : Obj := .cells #[.float .f64 p, .float .f64 s] t
section
variable {w w' : World} {g : Nat} {p s : Nat} {t : TypeId}
theorem F2.new (w : World) (t : TypeId) (p s : Nat) : F2 t (w.alloc (f2box t p s)) w.heap.size p s := heap_alloc_new w _
theorem F2.lt (h : F2 t w g p s) : g < w.heap.size := (Array.getElem?_eq_some_iff.1 h).1
theorem F2.later (h : F2 t w g p s) (hb : Below w.heap.size w w') : F2 t w' g p s := (hb.block g h.lt).trans h
theorem F2.alloc (h : F2 t w g p s) (o : Obj) : F2 t (w.alloc o) g p s := h.later ((Below.refl _ _).alloc (Nat.le_refl _) o)
theorem F2.drew (h : F2 t w g p s) : F2 t w.drew g p s := h
theorem F2.drewN (h : F2 t w g p s) (n : Nat) : F2 t (w.drewN n) g p s := h
theorem F2.at_ (h : F2 t w g p s) (i : Nat) : w.cell? ⟨g, i, none⟩ = (#[.float .f64 p, .float .f64 s] : Array Value)[i]? := cell_of_row w g i _ _ _ h
theorem F2.c0 (h : F2 t w g p s) : w.cell? ⟨g, 0, none⟩ = some (.float .f64 p) := h.at_ 0
theorem F2.c1 (h : F2 t w g p s) : w.cell? ⟨g, 1, none⟩ = some (.float .f64 s) := h.at_ 1
theorem F2.allR (h : F2 t w g p s) : (∀ (d : Nat) (os : Array Obj), (grow (redrawn w d) os).cell? ⟨g, 0, none⟩ = some (.float .f64 p)) ∧ (∀ (d : Nat) (os : Array Obj), (grow (redrawn w d) os).cell? ⟨g, 1, none⟩ = some (.float .f64 s)) := ⟨cell_regrown h.c0, cell_regrown h.c1⟩
theorem F2.free (h : F2 t w g p s) (i : Nat) : w.frozen? ⟨g, i, none⟩ = false := by
  simp [World.frozen?, (show w.heap[g]? = _ from h)]
end

theorem bnd_bnd (n : Int) : bnd (bnd n) = bnd n := by unfold bnd; omega
theorem rbound_any (n : Int) (W : World) : Calls Try.prog 19 #[.int .i64 n] W fun e w' => e = .returned (.int .i64 (bnd n)) ∧ W = w' := by
  go_enter Try.func19, Try.ntmps19
  go_wp2
  all_goals
    go_ret
    refine ⟨?_, rfl⟩
    show Ending.returned (.int .i64 _) = _
    congr 2
    unfold bnd
    omega
theorem quiet_same {f : FuncId} {args : Array Value} {v : Value} (h : ∀ W, Calls Try.prog f args W fun e w' => e = .returned v ∧ W = w') (w : World) (n : Nat) : Calls Try.prog f args (w.drewN n) fun e w'' => e = .returned v ∧ ∃ m, w'' = w.drewN m :=
  Calls.quiet_of_same ((h _).mono fun _ _ ⟨a, b⟩ => ⟨a, b.symm⟩)
theorem drewN_low {w0 w : World} (h : Below w0.heap.size w0 w) (n : Nat) : Below w0.heap.size w0 (w.drewN n) := ⟨h.os, h.tape, h.output, h.size, h.block⟩

set_option maxRecDepth 100000 in
set_option maxHeartbeats 1000000 in
theorem rgives_any (p s : Nat) (id f b : Int) (w : World) : Calls Try.prog 10 #[f2v p s, .int .i64 id, .int .i64 f, .int .i64 b] w fun e w' => e = .returned (.int .i64 (givV p s id f b)) ∧ Below w.heap.size w w' := by
  obtain ⟨Y, hk, hY⟩ := runeven_key f b p
  have HY := Lib.hid (quiet_same hY)
  have hgt : (FloatKind.f64.format.order Y s == some .gt) = gtF (unW f b p) s := by rw [t_gt]; exact hk.gt s
  have HG : Hid (givV p s id f b = if gtF (unW f b p) s = true then (if id = 0 then shareV f b p else if id = 1 then min (max (bnd b - partV (bnd f + bnd b) p) 0) (bnd b) else 0) else 0) := Lib.hid rfl
  have HF := Lib.hid (fun V => rbound_any f V)
  have HB' := Lib.hid (fun V => rbound_any b V)
  have HS : Hid (∀ V, Calls Try.prog 20 #[.int .i64 (bnd f), .int .i64 (bnd b), .float .f64 p] V fun e w' => e = .returned (.int .i64 (shareV f b p)) ∧ V = w') := Lib.hid (fun V => by
    have h := rshare_any (bnd f) (bnd b) p V
    unfold shareV at h ⊢
    rw [bnd_bnd, bnd_bnd] at h
    exact h)
  have HP := Lib.hid (fun V => rpart_any (bnd f + bnd b) p V)
  have hr := part_range (bnd f + bnd b) p
  obtain ⟨f0, f1⟩ := bnd_range f
  obtain ⟨b0, b1⟩ := bnd_range b
  generalize givV p s id f b = r at *
  generalize gtF (unW f b p) s = big at *
  generalize shareV f b p = sh at *
  generalize partV (bnd f + bnd b) p = pt at *
  generalize bnd f = bf at *
  generalize bnd b = bb at *
  obtain ⟨w0, hw0⟩ : ∃ w0, w0 = w.alloc (f2box 28 p s) := ⟨_, rfl⟩
  have HL : Hid (F2 28 w0 w.heap.size p s) := Lib.hid (by rw [hw0]; exact F2.new w _ p s)
  have HB : Hid (Below w.heap.size w w0) := Lib.hid (by rw [hw0]; exact (Below.refl _ _).alloc (Nat.le_refl _) _)
  have HW0 := Lib.hid hw0
  clear hw0 hk hY
  have c0 := HL.out.c0
  have c1 := HL.out.c1
  go_enter Try.func10, Try.ntmps10
  go_upto_region 1 with fail
  rw [← HW0.out]
  go_quiet (exact HY.out _ _)
  obtain ⟨w1, hw1⟩ : ∃ w1, w1 = w0.drewN nq := ⟨_, rfl⟩
  have HL1 : Hid (F2 28 w1 w.heap.size p s) := Lib.hid (by rw [hw1]; exact HL.out)
  have HB1 : Hid (Below w.heap.size w w1) := Lib.hid (by rw [hw1]; exact drewN_low HB.out _)
  rw [← hw1]
  clear hw1 c0 c1
  have c0 := HL1.out.c0
  cases big
  · go_wp2
    go_ret
    rw [HG.out]
    exact ⟨rfl, HB1.out⟩
  go_wp2_with fail
  refine (HF.out _).mono ?_
  rintro e w' ⟨rfl, rfl⟩
  go_wp2_with fail
  refine (HB'.out _).mono ?_
  rintro e w' ⟨rfl, rfl⟩
  by_cases h0 : id = 0
  · have t0 : (id == 0) = true := by rw [h0]; rfl
    have HR : Hid (r = sh) := Lib.hid (by rw [HG.out]; simp [h0])
    clear h0
    go_wp2_with fail
    refine (HS.out _).mono ?_
    rintro e w' ⟨rfl, rfl⟩
    go_wp2
    go_ret
    rw [HR.out]
    exact ⟨rfl, HB1.out⟩
  have t0 : (id == 0) = false := by simpa using h0
  by_cases h1 : id = 1
  · have t1 : (id == 1) = true := by rw [h1]; rfl
    have HR : Hid (r = min (max (bb - pt) 0) bb) := Lib.hid (by rw [HG.out]; simp [h1])
    obtain ⟨k, hk⟩ : ∃ k, k = max (bb - pt) 0 := ⟨_, rfl⟩
    obtain ⟨j, hj⟩ : ∃ j, j = min k bb := ⟨_, rfl⟩
    have e1 : (if bb - pt < 0 then 0 else bb - pt) = k := by split <;> omega
    have e2 : (if bb < k then bb else k) = j := by split <;> omega
    rw [← hk, ← hj] at HR
    clear h0 h1 hk hj
    go_wp2_with fail
    refine (HP.out _).mono ?_
    rintro e w' ⟨rfl, rfl⟩
    go_wp2
    all_goals
      go_ret
      rw [HR.out]
      refine ⟨?_, HB1.out⟩
      show Ending.returned (.int .i64 _) = _
      congr 2
      omega
  have t1 : (id == 1) = false := by simpa using h1
  have HR : Hid (r = 0) := Lib.hid (by rw [HG.out]; simp [h0, h1])
  clear h0 h1
  go_wp2
  go_ret
  rw [HR.out]
  exact ⟨rfl, HB1.out⟩
end Go.Proofs.Ytiapmnedbjmmhaa
