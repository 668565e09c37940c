/- Joined texts: GraM, GraA, GraB. -/
import Derived.Test.YtmaohnbddlccdaaGreatMrgCloM
import Derived.Test.YtmaohnbddlccdaaGreatMrgLeaP
import Derived.BigQuiet
import Derived.Deep.QuietTactic
import Derived.Deep.DeepCutAuto
import Derived.Deep.RegionHeld3
import Derived.Deep.RegionLaw

/- Three numbers in memory: an array of three, the rules of either kind; rules; the two Owns; the two Overs. -/
section
namespace Go.Proofs.YtmaohnbddlccdaaGreat.NC
open Go.RowKit Go.Sort

/-- Block g holds three numbers. -/
def R3 (t : TypeId) (w : World) (g : Nat) (a b c : Int) : Prop := w.heap[g]? = some (.cells #[.int .i64 a, .int .i64 b, .int .i64 c] t (0, 0))
abbrev r3v (a b c : Int) : Value := .agg #[.int .i64 a, .int .i64 b, .int .i64 c]
abbrev r3box (t : TypeId) (a b c : Int) : Obj := .cells #[.int .i64 a, .int .i64 b, .int .i64 c] t
section
variable {w w' : World} {g : Nat} {a b c : Int} {t : TypeId}
theorem R3.new (w : World) (t : TypeId) (a b c : Int) : R3 t (w.alloc (r3box t a b c)) w.heap.size a b c := heap_alloc_new w _
theorem R3.lt (h : R3 t w g a b c) : g < w.heap.size := (Array.getElem?_eq_some_iff.1 h).1
theorem R3.later (h : R3 t w g a b c) (hb : Below w.heap.size w w') : R3 t w' g a b c := (hb.block g h.lt).trans h
theorem R3.alloc (h : R3 t w g a b c) (o : Obj) : R3 t (w.alloc o) g a b c := h.later ((Below.refl _ _).alloc (Nat.le_refl _) o)
theorem R3.other (h : R3 t w g a b c) {p : Addr} (hp : g ≠ p.block) (v : Value) : R3 t (w.setCell p v) g a b c := (Below.heap_setCell w p v g hp).trans h
theorem R3.drew (h : R3 t w g a b c) : R3 t w.drew g a b c := h
theorem R3.at_ (h : R3 t w g a b c) (i : Nat) : w.cell? ⟨g, i, none⟩ = (#[.int .i64 a, .int .i64 b, .int .i64 c] : Array Value)[i]? := cell_of_row w g i _ _ _ h
theorem R3.c0 (h : R3 t w g a b c) : w.cell? ⟨g, 0, none⟩ = some (.int .i64 a) := h.at_ 0
theorem R3.c1 (h : R3 t w g a b c) : w.cell? ⟨g, 1, none⟩ = some (.int .i64 b) := h.at_ 1
theorem R3.c2 (h : R3 t w g a b c) : w.cell? ⟨g, 2, none⟩ = some (.int .i64 c) := h.at_ 2
theorem R3.all (h : R3 t w g a b c) : w.cell? ⟨g, 0, none⟩ = some (.int .i64 a) ∧ w.cell? ⟨g, 1, none⟩ = some (.int .i64 b) ∧ w.cell? ⟨g, 2, none⟩ = some (.int .i64 c) := ⟨h.c0, h.c1, h.c2⟩
theorem R3.allR (h : R3 t w g a b c) : (∀ (d : Nat) (os : Array Obj), (grow (redrawn w d) os).cell? ⟨g, 0, none⟩ = some (.int .i64 a)) ∧ (∀ (d : Nat) (os : Array Obj), (grow (redrawn w d) os).cell? ⟨g, 1, none⟩ = some (.int .i64 b)) ∧ (∀ (d : Nat) (os : Array Obj), (grow (redrawn w d) os).cell? ⟨g, 2, none⟩ = some (.int .i64 c)) :=
  ⟨cell_regrown h.c0, cell_regrown h.c1, cell_regrown h.c2⟩
theorem R3.free (h : R3 t w g a b c) (i : Nat) : w.frozen? ⟨g, i, none⟩ = false := by
  simp [World.frozen?, (show w.heap[g]? = _ from h)]
theorem R3.allF (h : R3 t w g a b c) : w.frozen? ⟨g, 0, none⟩ = false ∧ w.frozen? ⟨g, 1, none⟩ = false ∧ w.frozen? ⟨g, 2, none⟩ = false := ⟨h.free 0, h.free 1, h.free 2⟩
theorem R3.store {a' b' c' : Int} (h : R3 t w g a b c) (i : Nat) (u : Value) (hu : (#[.int .i64 a, .int .i64 b, .int .i64 c] : Array Value).setIfInBounds i u = #[.int .i64 a', .int .i64 b', .int .i64 c']) : R3 t (w.setCell ⟨g, i, none⟩ u) g a' b' c' := by
  unfold R3 at h ⊢
  rw [← hu]
  show (w.heap.modify g _)[g]? = _
  rw [Array.getElem?_modify, if_pos rfl, h]
  rfl
end
/-- Three numbers are laid into a box, cell by cell. -/
def store3 (W : World) (g : Nat) (a b c : Int) : World := ((W.setCell ⟨g, 0, none⟩ (.int .i64 a)).setCell ⟨g, 1, none⟩ (.int .i64 b)).setCell ⟨g, 2, none⟩ (.int .i64 c)
theorem store3_box {W : World} {t : TypeId} {g : Nat} {a b c : Int} (h : R3 t W g a b c) (a' b' c' : Int) : R3 t (store3 W g a' b' c') g a' b' c' := by
  unfold store3
  exact ((h.store (a' := a') (b' := b) (c' := c) 0 (.int .i64 a') rfl).store (a' := a') (b' := b') (c' := c) 1 (.int .i64 b') rfl).store (a' := a') (b' := b') (c' := c') 2 (.int .i64 c') rfl
theorem store3_low (W : World) (B g : Nat) (hg : B ≤ g) (a b c : Int) : Below B W (store3 W g a b c) := by
  unfold store3
  exact (((Below.refl B W).setCell (p := ⟨g, 0, none⟩) hg _).setCell (p := ⟨g, 1, none⟩) hg _).setCell (p := ⟨g, 2, none⟩) hg _
theorem R3.others {W : World} {t : TypeId} {g k : Nat} {a b c a' b' c' : Int} (h : R3 t W g a b c) (hk : g ≠ k) : R3 t (store3 W k a' b' c') g a b c := by
  unfold store3
  exact ((h.other (p := ⟨k, 0, none⟩) hk _).other (p := ⟨k, 1, none⟩) hk _).other (p := ⟨k, 2, none⟩) hk _

def ownV (a : Int) : Int := if a = 0 then 0 else 1
theorem own_any (a b c : Int) (w : World) : Calls Tryz.prog 55 #[r3v a b c] w fun e w' => e = .returned (.int .i64 (ownV a)) ∧ Below w.heap.size w w' := by
  have hB : Below w.heap.size w (w.alloc (r3box 61 a b c)) := (Below.refl _ _).alloc (Nat.le_refl _) _
  obtain ⟨c0, c1, c2⟩ := (R3.new w 61 a b c).all
  unfold ownV
  by_cases h : a = 0
  · subst h
    go_enter Tryz.func55, Tryz.ntmps55
    go_wp2
    go_ret
    exact ⟨rfl, hB⟩
  · rw [if_neg h]
    have hd : (a == 0) = false := by simpa using h
    clear h
    go_enter Tryz.func55, Tryz.ntmps55
    go_wp2
    go_ret
    exact ⟨rfl, hB⟩
theorem rown_any (a b c : Int) (w : World) : Calls Tryz.prog 137 #[r3v a b c] w fun e w' => e = .returned (.int .i64 (ownV a)) ∧ Below w.heap.size w w' := by
  have hB : Below w.heap.size w (w.alloc (r3box 124 a b c)) := (Below.refl _ _).alloc (Nat.le_refl _) _
  obtain ⟨c0, c1, c2⟩ := (R3.new w 124 a b c).all
  unfold ownV
  by_cases h : a = 0
  · subst h
    go_enter Tryz.func137, Tryz.ntmps137
    go_wp2
    go_ret
    exact ⟨rfl, hB⟩
  · rw [if_neg h]
    have hd : (a == 0) = false := by simpa using h
    clear h
    go_enter Tryz.func137, Tryz.ntmps137
    go_wp2
    go_ret
    exact ⟨rfl, hB⟩

theorem over_any (m : LV) (w : World) : Calls Tryz.prog 104 #[m.v] w fun e w' => e = .returned (.int .i64 (overL m)) ∧ Below w.heap.size w w' := by
  have hB : Below w.heap.size w (w.alloc (lbox m)) := (Below.refl _ _).alloc (Nat.le_refl _) _
  have HX := LBox.new w m
  have c3 := HX.c3
  have c5 := HX.c5
  clear HX
  go_enter Tryz.func104, Tryz.ntmps104
  go_wp2
  all_goals
    go_ret
    refine ⟨?_, hB⟩
    show Ending.returned (.int .i64 _) = _
    congr 2
    unfold overL
    split <;> omega
theorem rover_any (m : LV) (w : World) : Calls Tryz.prog 140 #[m.v] w fun e w' => e = .returned (.int .i64 (overL m)) ∧ Below w.heap.size w w' := by
  have hB : Below w.heap.size w (w.alloc (lbox m)) := (Below.refl _ _).alloc (Nat.le_refl _) _
  have HX := LBox.new w m
  have c3 := HX.c3
  have c5 := HX.c5
  clear HX
  go_enter Tryz.func140, Tryz.ntmps140
  go_wp2
  all_goals
    go_ret
    refine ⟨?_, hB⟩
    show Ending.returned (.int .i64 _) = _
    congr 2
    unfold overL
    split <;> omega
end Go.Proofs.YtmaohnbddlccdaaGreat.NC
end

/- grant: Until, of the code and of the document. -/
section
namespace Go.Proofs.YtmaohnbddlccdaaGreat.NC
open Go.RowKit Go.Sort

set_option maxRecDepth 100000 in
set_option maxHeartbeats 1000000 in
theorem until_any (a b c now want acked : Int) (w : World) : Calls Tryz.prog 123 #[r3v a b c, .int .i64 now, .int .i64 want, .int .i64 acked] w fun e w' => e = .returned (.int .i64 (untV b now want acked)) ∧ Below w.heap.size w w' := by
  have H1 := Lib.hid (fun V => after_any now want V)
  have H2 := Lib.hid (fun (V : World) b (h : V.heap.size = b) => latest_two_d h now acked)
  have H3 := Lib.hid (fun V => after_any (max (moV now) (moV acked)) b V)
  unfold untV
  generalize aftV (max (moV now) (moV acked)) b = y at *
  generalize max (moV now) (moV acked) = m at *
  generalize aftV now want = x at *
  obtain ⟨w0, hw0⟩ : ∃ w0, w0 = w.alloc (r3box 61 a b c) := ⟨_, rfl⟩
  have HR : Hid (R3 61 w0 w.heap.size a b c) := Lib.hid (by rw [hw0]; exact R3.new w _ a b c)
  have HB : Hid (Below w.heap.size w w0) := Lib.hid (by rw [hw0]; exact (Below.refl _ _).alloc (Nat.le_refl _) _)
  have HW0 := Lib.hid hw0
  clear hw0
  have c1 := HR.out.c1
  go_enter Tryz.func123, Tryz.ntmps123
  go_upto_region 1 with fail
  rw [← HW0.out]
  go_region_held3 (fun w' => w'.cell? ⟨w.heap.size, 1, none⟩ = some (.int .i64 b))
    (first | go_keep)
    (first
      | (go_at_call 101; (with_reducible refine (H1.out _).mono ?_); rintro e w2 ⟨rfl, rfl⟩)
      | (go_at_call 101; (with_reducible refine (H3.out _).mono ?_); rintro e w2 ⟨rfl, rfl⟩)
      | (go_at_call 103; (with_reducible refine (H2.out _ _ rfl).mono ?_); rintro e w2 ⟨rfl, rfl⟩))
  all_goals
    go_wp2
    all_goals
      go_ret
      refine ⟨?_, (HB.out.trans ((Below.refl _ _).alloc HB.out.size _)).drew⟩
      show Ending.returned (.int .i64 _) = _
      congr 2
      omega

/-- A contract that leaves what lay as it was, met in a quiet region. -/
theorem qb {f : FuncId} {args : Array Value} {v : Value} (h : ∀ V, Calls Tryz.prog f args V fun e w' => e = .returned v ∧ Below V.heap.size V w') (w : World) (d : Nat) (os : Array Obj) : Calls Tryz.prog f args (grow (redrawn w d) os) fun e w'' => e = .returned v ∧ ∃ p : Regrown, w'' = grow (redrawn w p.d) p.os :=
  Calls.regrown_of (h _)
theorem max_if (x y : Int) : max x y = if x < y then y else x := by split <;> omega
set_option maxRecDepth 100000 in
set_option maxHeartbeats 1000000 in
theorem runtil_any (a b c now want acked : Int) (w : World) : Calls Tryz.prog 135 #[r3v a b c, .int .i64 now, .int .i64 want, .int .i64 acked] w fun e w' => e = .returned (.int .i64 (untV b now want acked)) ∧ Below w.heap.size w w' := by
  have H1 := Lib.hid (fun V => radd_any now (max want 0) V)
  have H2 := Lib.hid (fun V => rbounded_any now V)
  have H3 := Lib.hid (fun V => rbounded_any acked V)
  have H4 := Lib.hid (fun V => radd_any (max (moV now) (moV acked)) (max b 0) V)
  unfold untV aftV
  generalize addV (max (moV now) (moV acked)) (max b 0) = y at *
  generalize addV now (max want 0) = x at *
  generalize moV now = m at *
  generalize moV acked = n at *
  obtain ⟨q, hq⟩ : ∃ q, q = max want 0 := ⟨_, rfl⟩
  rw [← hq] at H1
  obtain ⟨w0, hw0⟩ : ∃ w0, w0 = w.alloc (r3box 124 a b c) := ⟨_, rfl⟩
  have HR : Hid (R3 124 w0 w.heap.size a b c) := Lib.hid (by rw [hw0]; exact R3.new w _ a b c)
  have HB : Hid (Below w.heap.size w w0) := Lib.hid (by rw [hw0]; exact (Below.refl _ _).alloc (Nat.le_refl _) _)
  have HW0 := Lib.hid hw0
  clear hw0
  rw [max_if m n, max_if b 0] at H4
  obtain ⟨d1, d2, d3⟩ := HR.out.allR
  have D2 := Lib.hid d2
  clear d1 d2 d3
  have C2 := Lib.hid (qb (fun V => same_below (H2.out V)) w0)
  have C3 := Lib.hid (qb (fun V => same_below (H3.out V)) w0)
  have C4 := Lib.hid (qb (fun V => same_below (H4.out V)) w0)
  obtain hw | hw : want < 0 ∨ 0 ≤ want := by omega
  · obtain rfl : q = 0 := by omega
    clear hq
    go_enter Tryz.func135, Tryz.ntmps135
    go_wp2_with fail
    rw [← HW0.out]
    refine (H1.out _).mono ?_
    rintro e w' ⟨rfl, rfl⟩
    have c1 := D2.out
    clear hw
    go_upto_region 2 with fail
    refine wp_region_quiet_below (by kernel_rfl) (by kernel_rfl) ?_
    repeat (go_big_quiet_step (first | with_reducible exact C2.out _ _ | with_reducible exact C3.out _ _ | with_reducible exact C4.out _ _))
    refine wpQuiet_nil ?_
    intro _ hw'
    obtain ⟨⟨dq, osq⟩, hw''⟩ := hw'
    subst hw''
    go_wp2
    all_goals
      go_ret
      refine ⟨?_, HB.out.trans ((below_regrown w0 dq osq).mono HB.out.size)⟩
      show Ending.returned (.int .i64 _) = _
      congr 2
      omega
  · obtain rfl : q = want := by omega
    clear hq
    go_enter Tryz.func135, Tryz.ntmps135
    go_wp2_with fail
    rw [← HW0.out]
    refine (H1.out _).mono ?_
    rintro e w' ⟨rfl, rfl⟩
    have c1 := D2.out
    clear hw
    go_upto_region 2 with fail
    refine wp_region_quiet_below (by kernel_rfl) (by kernel_rfl) ?_
    repeat (go_big_quiet_step (first | with_reducible exact C2.out _ _ | with_reducible exact C3.out _ _ | with_reducible exact C4.out _ _))
    refine wpQuiet_nil ?_
    intro _ hw'
    obtain ⟨⟨dq, osq⟩, hw''⟩ := hw'
    subst hw''
    go_wp2
    all_goals
      go_ret
      refine ⟨?_, HB.out.trans ((below_regrown w0 dq osq).mono HB.out.size)⟩
      show Ending.returned (.int .i64 _) = _
      congr 2
      omega
end Go.Proofs.YtmaohnbddlccdaaGreat.NC
end

/- grant: over, May; the document's May. -/
section
namespace Go.Proofs.YtmaohnbddlccdaaGreat.NC
open Go.RowKit Go.Sort

theorem pastV_max (n x y g : Int) : pastV n (max (moV x) (moV y)) g = pastV n (max x y) g := by
  have : moV (max (moV x) (moV y)) = moV (max x y) := by unfold moV limV; omega
  unfold pastV
  rw [this]
theorem aftV_max (x y : Int) : addV (max x 0) (max y 0) = aftV x y := by
  unfold aftV
  have : moV (max x 0) = moV x := by unfold moV limV; omega
  unfold addV
  rw [this]
/-- Is all over that may have been promised? -/
def ovrB (m : LV) (b c now entry : Int) : Bool := pastV now (max entry (overL m)) (aftV b c)
theorem latest_two_n {X : World} {b : Nat} (hb : X.heap.size = b) (x y : Int) :
    Calls Tryz.prog 103 #[.slice (some ⟨b, 0, none⟩) 2 2] (X.alloc (.cells #[.int .i64 x, .int .i64 y] 3)) fun e w' => e = .returned (.int .i64 (max (moV x) (moV y))) ∧ Below X.heap.size X w' :=
  (latest_two hb x y).mono fun _ _ ⟨h, e⟩ => ⟨h, e ▸ (Below.refl _ _).alloc (Nat.le_refl _) _⟩

set_option maxRecDepth 100000 in
set_option maxHeartbeats 1000000 in
theorem over_b (a b c now entry : Int) (m : LV) (w : World) : Calls Tryz.prog 56 #[r3v a b c, m.v, .int .i64 now, .int .i64 entry] w fun e w' => e = .returned (.bool (ovrB m b c now entry)) ∧ Below w.heap.size w w' := by
  have H1 := Lib.hid (fun V => after_any b c V)
  have H2 := Lib.hid (fun V => over_any m V)
  have H3 := Lib.hid (fun (V : World) b (h : V.heap.size = b) => latest_two_n h entry (overL m))
  have H4 := Lib.hid (fun V => past_any now (max (moV entry) (moV (overL m))) (aftV b c) V)
  rw [pastV_max] at H4
  unfold ovrB
  generalize pastV now (max entry (overL m)) (aftV b c) = z at *
  generalize max (moV entry) (moV (overL m)) = y at *
  generalize overL m = k at *
  generalize aftV b c = x at *
  obtain ⟨w0, hw0⟩ : ∃ w0, w0 = (w.alloc (r3box 61 a b c)).alloc (lbox m) := ⟨_, rfl⟩
  have HR : Hid (R3 61 w0 w.heap.size a b c) := Lib.hid (by rw [hw0]; exact (R3.new w _ a b c).alloc _)
  have HL : Hid (LBox w0 (w.heap.size + 1) m) := Lib.hid (by rw [hw0]; have h := LBox.new (w.alloc (r3box 61 a b c)) m; rw [show (w.alloc (r3box 61 a b c)).heap.size = w.heap.size + 1 by simp] at h; exact h)
  have HB : Hid (Below w.heap.size w w0) := Lib.hid (by rw [hw0]; exact ((Below.refl _ _).alloc (Nat.le_refl _) _).alloc (by simp) _)
  have HW0 := Lib.hid hw0
  clear hw0
  obtain ⟨c0, c1, c2⟩ := HR.out.all
  obtain ⟨l0, l1, l2, l3, l4, l5, l6, l7⟩ := HL.out.all
  go_enter Tryz.func56, Tryz.ntmps56
  go_upto_region 1 with fail
  rw [← HW0.out]
  go_wp2_with fail
  refine (H1.out _).mono ?_
  rintro e w' ⟨rfl, rfl⟩
  go_wp2_with fail
  refine (H2.out _).mono ?_
  rintro e w1 ⟨rfl, hb1⟩
  have HB1 := Lib.hid (HB.out.trans (hb1.mono HB.out.size))
  clear hb1
  go_wp2_with fail
  refine (H3.out _ _ rfl).mono ?_
  rintro e w2 ⟨rfl, hb2⟩
  have HB2 := Lib.hid (HB1.out.trans (hb2.mono HB1.out.size))
  clear hb2
  go_wp2_with fail
  refine (H4.out _).mono ?_
  rintro e w' ⟨rfl, rfl⟩
  go_wp2
  go_ret
  exact ⟨rfl, HB2.out⟩

/-- May an address be given to somebody new? -/
def mayV (a b c : Int) (m : LV) (s now entry : Int) : Bool := decide (ServesI s) && (m.bind == ownV a || (s == 3 && m.bind != 5 && ovrB m b c now entry))

set_option maxRecDepth 100000 in
set_option maxHeartbeats 1000000 in
theorem may_any (a b c s now entry : Int) (m : LV) (w : World) : Calls Tryz.prog 22 #[r3v a b c, m.v, .int .i64 s, .int .i64 now, .int .i64 entry] w fun e w' => e = .returned (.bool (mayV a b c m s now entry)) ∧ Below w.heap.size w w' := by
  have H1 := Lib.hid (fun V => serves_any s V)
  have H3 := Lib.hid (fun V => over_b a b c now entry m V)
  unfold mayV
  generalize decide (ServesI s) = x at *
  generalize ovrB m b c now entry = z at *
  obtain ⟨w0, hw0⟩ : ∃ w0, w0 = (w.alloc (r3box 61 a b c)).alloc (lbox m) := ⟨_, rfl⟩
  have HR : Hid (R3 61 w0 w.heap.size a b c) := Lib.hid (by rw [hw0]; exact (R3.new w _ a b c).alloc _)
  have HL : Hid (LBox w0 (w.heap.size + 1) m) := Lib.hid (by rw [hw0]; have h := LBox.new (w.alloc (r3box 61 a b c)) m; rw [show (w.alloc (r3box 61 a b c)).heap.size = w.heap.size + 1 by simp] at h; exact h)
  have HB : Hid (Below w.heap.size w w0) := Lib.hid (by rw [hw0]; exact ((Below.refl _ _).alloc (Nat.le_refl _) _).alloc (by simp) _)
  have HW0 := Lib.hid hw0
  clear hw0
  have C2 := Lib.hid (qb (fun V => own_any a b c V) w0)
  generalize ownV a = k at *
  cases x
  · go_enter Tryz.func22, Tryz.ntmps22
    go_wp2_with fail
    rw [← HW0.out]
    refine (H1.out _).mono ?_
    rintro e w' ⟨rfl, rfl⟩
    go_wp2
    go_ret
    exact ⟨rfl, HB.out⟩
  · obtain ⟨c0, c1, c2⟩ := HR.out.allR
    obtain ⟨l0, l1, l2, l3, l4, l5, l6, l7⟩ := HL.out.allR
    go_enter Tryz.func22, Tryz.ntmps22
    go_wp2_with fail
    rw [← HW0.out]
    refine (H1.out _).mono ?_
    rintro e w' ⟨rfl, rfl⟩
    go_upto_region 3 with fail
    refine wp_region_quiet_below (by kernel_rfl) (by kernel_rfl) ?_
    repeat (go_big_quiet_step (with_reducible exact C2.out _ _))
    refine wpQuiet_nil ?_
    intro _ hw'
    obtain ⟨⟨dq, osq⟩, hw''⟩ := hw'
    subst hw''
    have HB1 := Lib.hid (HB.out.trans ((below_regrown w0 dq osq).mono HB.out.size))
    have HR1 := Lib.hid (HR.out.later (below_regrown w0 dq osq))
    have HL1 := Lib.hid (HL.out.later (below_regrown w0 dq osq))
    clear c0 c1 c2 l0 l1 l2 l3 l4 l5 l6 l7 C2
    generalize grow (redrawn w0 dq) osq = w1 at *
    obtain ⟨c0, c1, c2⟩ := HR1.out.all
    obtain ⟨l0, l1, l2, l3, l4, l5, l6, l7⟩ := HL1.out.all
    cases hk : m.bind == k
    · cases h3 : s == 3
      · go_wp2
        go_ret
        refine ⟨?_, HB1.out⟩
        rw [hk, h3]
        rfl
      · by_cases h5 : m.bind = 5
        · go_wp2
          go_ret
          refine ⟨?_, HB1.out⟩
          rw [hk, h3, h5]
          rfl
        · go_wp2_with fail
          refine (H3.out _).mono ?_
          rintro e w2 ⟨rfl, hb2⟩
          have HB2 := Lib.hid (HB1.out.trans (hb2.mono HB1.out.size))
          clear hb2
          go_wp2
          go_ret
          refine ⟨?_, HB2.out⟩
          rw [hk, h3, show (m.bind != 5) = true by simpa using h5]
          rfl
    · go_wp2
      go_ret
      refine ⟨?_, HB1.out⟩
      rw [hk]
      rfl
end Go.Proofs.YtmaohnbddlccdaaGreat.NC
end
