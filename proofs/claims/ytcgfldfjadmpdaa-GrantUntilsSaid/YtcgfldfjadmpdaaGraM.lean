/- Three numbers in memory: an array of three, the rules of either kind; rules; the two Owns; the two Overs. -/
import Derived.Test.YtcgfldfjadmpdaaGraP
import Derived.Test.YtcgfldfjadmpdaaLeaM
import Derived.BigQuiet
import Derived.Deep.QuietTactic
import Derived.Deep.DeepCutAuto
import Derived.Deep.RegionHeld3
namespace Go.Proofs.Ytcgfldfjadmpdaa
open Go.RowKit Go.Sort

/-- Block g holds three numbers. -/
def R3 (t : TypeId) (w : World) (g : Nat) (a b c : Int) : Prop := w.heap[g]? = some (.cells #[.int .i64 a, .int .i64 b, .int .i64 c] t (0, 0))
abbrev r3v (a b c : Int) : Value := .agg #[.int .i64 a, .int .i64 b, .int .i64 c]
abbrev r3box (t : TypeId) (a b c : Int) : Obj := .cells #[.int .i64 a, .int .i64 b, .int .i64 c] t
section
variable {w w' : World} {g : Nat} {a b c : Int} {t : TypeId}
theorem R3.new (w : World) (t : TypeId) (a b c : Int) : R3 t (w.alloc (r3box t a b c)) w.heap.size a b c := heap_alloc_new w _
theorem R3.lt (h : R3 t w g a b c) : g < w.heap.size := (Array.getElem?_eq_some_iff.1 h).1
theorem R3.later (h : R3 t w g a b c) (hb : Below w.heap.size w w') : R3 t w' g a b c := (hb.block g h.lt).trans h
theorem R3.alloc (h : R3 t w g a b c) (o : Obj) : R3 t (w.alloc o) g a b c := h.later ((Below.refl _ _).alloc (Nat.le_refl _) o)
theorem R3.other (h : R3 t w g a b c) {p : Addr} (hp : g ≠ p.block) (v : Value) : R3 t (w.setCell p v) g a b c := (Below.heap_setCell w p v g hp).trans h
theorem R3.drew (h : R3 t w g a b c) : R3 t w.drew g a b c := h
theorem R3.at_ (h : R3 t w g a b c) (i : Nat) : w.cell? ⟨g, i, none⟩ = (#[.int .i64 a, .int .i64 b, .int .i64 c] : Array Value)[i]? := cell_of_row w g i _ _ _ h
theorem R3.c0 (h : R3 t w g a b c) : w.cell? ⟨g, 0, none⟩ = some (.int .i64 a) := h.at_ 0
theorem R3.c1 (h : R3 t w g a b c) : w.cell? ⟨g, 1, none⟩ = some (.int .i64 b) := h.at_ 1
theorem R3.c2 (h : R3 t w g a b c) : w.cell? ⟨g, 2, none⟩ = some (.int .i64 c) := h.at_ 2
theorem R3.all (h : R3 t w g a b c) : w.cell? ⟨g, 0, none⟩ = some (.int .i64 a) ∧ w.cell? ⟨g, 1, none⟩ = some (.int .i64 b) ∧ w.cell? ⟨g, 2, none⟩ = some (.int .i64 c) := ⟨h.c0, h.c1, h.c2⟩
theorem R3.allR (h : R3 t w g a b c) : (∀ (d : Nat) (os : Array Obj), (grow (redrawn w d) os).cell? ⟨g, 0, none⟩ = some (.int .i64 a)) ∧ (∀ (d : Nat) (os : Array Obj), (grow (redrawn w d) os).cell? ⟨g, 1, none⟩ = some (.int .i64 b)) ∧ (∀ (d : Nat) (os : Array Obj), (grow (redrawn w d) os).cell? ⟨g, 2, none⟩ = some (.int .i64 c)) :=
  ⟨cell_regrown h.c0, cell_regrown h.c1, cell_regrown h.c2⟩
theorem R3.free (h : R3 t w g a b c) (i : Nat) : w.frozen? ⟨g, i, none⟩ = false := by
  simp [World.frozen?, (show w.heap[g]? = _ from h)]
theorem R3.allF (h : R3 t w g a b c) : w.frozen? ⟨g, 0, none⟩ = false ∧ w.frozen? ⟨g, 1, none⟩ = false ∧ w.frozen? ⟨g, 2, none⟩ = false := ⟨h.free 0, h.free 1, h.free 2⟩
theorem R3.store {a' b' c' : Int} (h : R3 t w g a b c) (i : Nat) (u : Value) (hu : (#[.int .i64 a, .int .i64 b, .int .i64 c] : Array Value).setIfInBounds i u = #[.int .i64 a', .int .i64 b', .int .i64 c']) : R3 t (w.setCell ⟨g, i, none⟩ u) g a' b' c' := by
  unfold R3 at h ⊢
  rw [← hu]
  show (w.heap.modify g _)[g]? = _
  rw [Array.getElem?_modify, if_pos rfl, h]
  rfl
end
/-- Three numbers are laid into a box, cell by cell. -/
def store3 (W : World) (g : Nat) (a b c : Int) : World := ((W.setCell ⟨g, 0, none⟩ (.int .i64 a)).setCell ⟨g, 1, none⟩ (.int .i64 b)).setCell ⟨g, 2, none⟩ (.int .i64 c)
theorem store3_box {W : World} {t : TypeId} {g : Nat} {a b c : Int} (h : R3 t W g a b c) (a' b' c' : Int) : R3 t (store3 W g a' b' c') g a' b' c' := by
  unfold store3
  exact ((h.store (a' := a') (b' := b) (c' := c) 0 (.int .i64 a') rfl).store (a' := a') (b' := b') (c' := c) 1 (.int .i64 b') rfl).store (a' := a') (b' := b') (c' := c') 2 (.int .i64 c') rfl
theorem store3_low (W : World) (B g : Nat) (hg : B ≤ g) (a b c : Int) : Below B W (store3 W g a b c) := by
  unfold store3
  exact (((Below.refl B W).setCell (p := ⟨g, 0, none⟩) hg _).setCell (p := ⟨g, 1, none⟩) hg _).setCell (p := ⟨g, 2, none⟩) hg _
theorem R3.others {W : World} {t : TypeId} {g k : Nat} {a b c a' b' c' : Int} (h : R3 t W g a b c) (hk : g ≠ k) : R3 t (store3 W k a' b' c') g a b c := by
  unfold store3
  exact ((h.other (p := ⟨k, 0, none⟩) hk _).other (p := ⟨k, 1, none⟩) hk _).other (p := ⟨k, 2, none⟩) hk _

theorem rules_end {w W : World} {g k : Nat} {a b c : Int} {t : Array Value} (hg : R3 25 W g a b c) (hk : R3 26 W k a b c) (hB : Below w.heap.size w W) (h2 : t[2]?.getD undef = .pointer (some ⟨g, 0, none⟩)) (h3 : t[3]?.getD undef = .pointer (some ⟨k, 0, none⟩)) :
    bodyPost Try.prog Try.f9 (fun e w' => e = .returned (.tuple #[r3v a b c, r3v a b c]) ∧ Below w.heap.size w w') .ret { tmps := t, defers := [] } W := by
  refine bodyPost_ret (v := .tuple #[r3v a b c, r3v a b c]) ?_ ?_ ?_
  · obtain ⟨r0, r1, r2⟩ := hg.all
    obtain ⟨s0, s1, s2⟩ := hk.all
    simp [results, Try.f9, go_sem, h2, h3, r0, r1, r2, s0, s1, s2]
  · rfl
  · exact ⟨rfl, hB⟩

set_option maxRecDepth 100000 in
set_option maxHeartbeats 1000000 in
theorem rules_any (a b c : Int) (w : World) : Calls Try.prog 9 #[r3v a b c] w fun e w' => e = .returned (.tuple #[r3v a b c, r3v a b c]) ∧ Below w.heap.size w w' := by
  obtain ⟨w0, hw0⟩ : ∃ w0, w0 = ((w.alloc (r3box 22 a b c)).alloc (r3box 25 0 0 0)).alloc (r3box 26 0 0 0) := ⟨_, rfl⟩
  have HA : Hid (R3 22 w0 w.heap.size a b c) := Lib.hid (by rw [hw0]; exact ((R3.new w _ a b c).alloc _).alloc _)
  have HG : Hid (R3 25 w0 (w.heap.size + 1) 0 0 0) := Lib.hid (by rw [hw0]; have h := R3.new (w.alloc (r3box 22 a b c)) 25 0 0 0; rw [show (w.alloc (r3box 22 a b c)).heap.size = w.heap.size + 1 by simp] at h; exact h.alloc _)
  have HK : Hid (R3 26 w0 (w.heap.size + 1 + 1) 0 0 0) := Lib.hid (by rw [hw0]; have h := R3.new ((w.alloc (r3box 22 a b c)).alloc (r3box 25 0 0 0)) 26 0 0 0; rw [show ((w.alloc (r3box 22 a b c)).alloc (r3box 25 0 0 0)).heap.size = w.heap.size + 1 + 1 by simp] at h; exact h)
  have HB : Hid (Below w.heap.size w w0) := Lib.hid (by rw [hw0]; exact (((Below.refl _ _).alloc (Nat.le_refl _) _).alloc (by simp) _).alloc (by simp; omega) _)
  have HW0 := Lib.hid hw0
  clear hw0
  obtain ⟨a0, a1, a2⟩ := HA.out.all
  obtain ⟨g0, g1, g2⟩ := HG.out.all
  obtain ⟨k0, k1, k2⟩ := HK.out.all
  obtain ⟨e0, e1, e2⟩ := HG.out.allF
  obtain ⟨f0, f1, f2⟩ := HK.out.allF
  go_enter Try.func9, Try.ntmps9
  go_upto_region 1 with fail
  rw [← HW0.out]
  go_region
  go_wp2
  exact rules_end (W := (store3 (store3 w0 (w.heap.size + 1) a b c) (w.heap.size + 1 + 1) a b c).drew) ((store3_box HG.out a b c).others (by omega)).drew (store3_box (HK.out.others (by omega)) a b c).drew (((HB.out.trans (store3_low _ _ _ (by omega) _ _ _)).trans (store3_low _ _ _ (by omega) _ _ _)).drew) rfl rfl

def ownV (a : Int) : Int := if a = 0 then 0 else 1
theorem own_any (a b c : Int) (w : World) : Calls Try.prog 12 #[r3v a b c] w fun e w' => e = .returned (.int .i64 (ownV a)) ∧ Below w.heap.size w w' := by
  have hB : Below w.heap.size w (w.alloc (r3box 25 a b c)) := (Below.refl _ _).alloc (Nat.le_refl _) _
  obtain ⟨c0, c1, c2⟩ := (R3.new w 25 a b c).all
  unfold ownV
  by_cases h : a = 0
  · subst h
    go_enter Try.func12, Try.ntmps12
    go_wp2
    go_ret
    exact ⟨rfl, hB⟩
  · rw [if_neg h]
    have hd : (a == 0) = false := by simpa using h
    clear h
    go_enter Try.func12, Try.ntmps12
    go_wp2
    go_ret
    exact ⟨rfl, hB⟩
theorem rown_any (a b c : Int) (w : World) : Calls Try.prog 13 #[r3v a b c] w fun e w' => e = .returned (.int .i64 (ownV a)) ∧ Below w.heap.size w w' := by
  have hB : Below w.heap.size w (w.alloc (r3box 26 a b c)) := (Below.refl _ _).alloc (Nat.le_refl _) _
  obtain ⟨c0, c1, c2⟩ := (R3.new w 26 a b c).all
  unfold ownV
  by_cases h : a = 0
  · subst h
    go_enter Try.func13, Try.ntmps13
    go_wp2
    go_ret
    exact ⟨rfl, hB⟩
  · rw [if_neg h]
    have hd : (a == 0) = false := by simpa using h
    clear h
    go_enter Try.func13, Try.ntmps13
    go_wp2
    go_ret
    exact ⟨rfl, hB⟩

theorem over_any (m : LV) (w : World) : Calls Try.prog 31 #[m.v] w fun e w' => e = .returned (.int .i64 (overL m)) ∧ Below w.heap.size w w' := by
  have hB : Below w.heap.size w (w.alloc (lbox m)) := (Below.refl _ _).alloc (Nat.le_refl _) _
  have HX := LBox.new w m
  have c3 := HX.c3
  have c5 := HX.c5
  clear HX
  go_enter Try.func31, Try.ntmps31
  go_wp2
  all_goals
    go_ret
    refine ⟨?_, hB⟩
    show Ending.returned (.int .i64 _) = _
    congr 2
    unfold overL
    split <;> omega
theorem rover_any (m : LV) (w : World) : Calls Try.prog 26 #[m.v] w fun e w' => e = .returned (.int .i64 (overL m)) ∧ Below w.heap.size w w' := by
  have hB : Below w.heap.size w (w.alloc (lbox m)) := (Below.refl _ _).alloc (Nat.le_refl _) _
  have HX := LBox.new w m
  have c3 := HX.c3
  have c5 := HX.c5
  clear HX
  go_enter Try.func26, Try.ntmps26
  go_wp2
  all_goals
    go_ret
    refine ⟨?_, hB⟩
    show Ending.returned (.int .i64 _) = _
    congr 2
    unfold overL
    split <;> omega
end Go.Proofs.Ytcgfldfjadmpdaa
