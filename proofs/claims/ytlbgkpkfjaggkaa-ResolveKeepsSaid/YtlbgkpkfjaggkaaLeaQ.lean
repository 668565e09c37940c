/- lessorref11.Right. -/
import Derived.Test.YtlbgkpkfjaggkaaLeaB
namespace Go.Proofs.Ytlbgkpkfjaggkaa
open Go.RowKit Go.Sort
set_option maxRecDepth 100000 in
set_option maxHeartbeats 2000000 in
theorem rright_low (m : LV) (w : World) (h : m.bind < 0) :
    Calls Try.prog 12 #[m.v] w fun e w' => e = .returned (.bool (decide (RightL m))) ∧ Below w.heap.size w w' := by
  have HR : Hid (decide (RightL m) = false) := Lib.hid (decide_eq_false fun r => by have := r.b0; omega)
  have hB : Below w.heap.size w (w.alloc (lbox m)) := (Below.refl _ _).alloc (Nat.le_refl _) _
  obtain ⟨c0, c1, c2, c3, c4, c5, c6, c7⟩ := (LBox.new w m).all
  have hd : decide (m.bind < 0) = true := decide_eq_true h
  clear h
  go_enter Try.func12, Try.ntmps12
  go_wp2_with (go_at_call 24; refine (time_any _ _).mono ?_; rintro e w' ⟨rfl, rfl⟩)
  go_ret
  rw [HR.out]
  exact ⟨rfl, hB⟩
set_option maxRecDepth 100000 in
set_option maxHeartbeats 2000000 in
theorem rright_high (m : LV) (w : World) (h0 : ¬ m.bind < 0) (h : 5 < m.bind) :
    Calls Try.prog 12 #[m.v] w fun e w' => e = .returned (.bool (decide (RightL m))) ∧ Below w.heap.size w w' := by
  have HR : Hid (decide (RightL m) = false) := Lib.hid (decide_eq_false fun r => by have := r.b1; omega)
  have hB : Below w.heap.size w (w.alloc (lbox m)) := (Below.refl _ _).alloc (Nat.le_refl _) _
  obtain ⟨c0, c1, c2, c3, c4, c5, c6, c7⟩ := (LBox.new w m).all
  have hd0 : decide (m.bind < 0) = false := decide_eq_false h0
  have hd : decide (5 < m.bind) = true := decide_eq_true h
  clear h h0
  go_enter Try.func12, Try.ntmps12
  go_wp2_with (go_at_call 24; refine (time_any _ _).mono ?_; rintro e w' ⟨rfl, rfl⟩)
  go_ret
  rw [HR.out]
  exact ⟨rfl, hB⟩
set_option maxRecDepth 100000 in
set_option maxHeartbeats 2000000 in
theorem rright_t0 (m : LV) (w : World) (h0 : ¬ m.bind < 0) (h1 : ¬ 5 < m.bind) (h : ¬ TimeL m.unt) :
    Calls Try.prog 12 #[m.v] w fun e w' => e = .returned (.bool (decide (RightL m))) ∧ Below w.heap.size w w' := by
  have HR : Hid (decide (RightL m) = false) := Lib.hid (decide_eq_false fun r => h r.unt)
  have hB : Below w.heap.size w (w.alloc (lbox m)) := (Below.refl _ _).alloc (Nat.le_refl _) _
  obtain ⟨c0, c1, c2, c3, c4, c5, c6, c7⟩ := (LBox.new w m).all
  have hd0 : decide (m.bind < 0) = false := decide_eq_false h0
  have hd1 : decide (5 < m.bind) = false := decide_eq_false h1
  have d0 : decide (TimeL m.unt) = false := decide_eq_false h
  clear h0 h1 h
  go_enter Try.func12, Try.ntmps12
  go_wp2_with (go_at_call 24; refine (time_any _ _).mono ?_; rintro e w' ⟨rfl, rfl⟩)
  go_ret
  rw [HR.out]
  exact ⟨rfl, hB⟩
set_option maxRecDepth 100000 in
set_option maxHeartbeats 2000000 in
theorem rright_t1 (m : LV) (w : World) (h0 : ¬ m.bind < 0) (h1 : ¬ 5 < m.bind) (t0 : TimeL m.unt) (h : ¬ TimeL m.acked) :
    Calls Try.prog 12 #[m.v] w fun e w' => e = .returned (.bool (decide (RightL m))) ∧ Below w.heap.size w w' := by
  have HR : Hid (decide (RightL m) = false) := Lib.hid (decide_eq_false fun r => h r.acked)
  have hB : Below w.heap.size w (w.alloc (lbox m)) := (Below.refl _ _).alloc (Nat.le_refl _) _
  obtain ⟨c0, c1, c2, c3, c4, c5, c6, c7⟩ := (LBox.new w m).all
  have hd0 : decide (m.bind < 0) = false := decide_eq_false h0
  have hd1 : decide (5 < m.bind) = false := decide_eq_false h1
  have d0 : decide (TimeL m.unt) = true := decide_eq_true t0
  have d1 : decide (TimeL m.acked) = false := decide_eq_false h
  clear h0 h1 h t0
  go_enter Try.func12, Try.ntmps12
  go_wp2_with (go_at_call 24; refine (time_any _ _).mono ?_; rintro e w' ⟨rfl, rfl⟩)
  go_ret
  rw [HR.out]
  exact ⟨rfl, hB⟩
set_option maxRecDepth 100000 in
set_option maxHeartbeats 2000000 in
theorem rright_t2 (m : LV) (w : World) (h0 : ¬ m.bind < 0) (h1 : ¬ 5 < m.bind) (t0 : TimeL m.unt) (t1 : TimeL m.acked) (h : ¬ TimeL m.told) :
    Calls Try.prog 12 #[m.v] w fun e w' => e = .returned (.bool (decide (RightL m))) ∧ Below w.heap.size w w' := by
  have HR : Hid (decide (RightL m) = false) := Lib.hid (decide_eq_false fun r => h r.told)
  have hB : Below w.heap.size w (w.alloc (lbox m)) := (Below.refl _ _).alloc (Nat.le_refl _) _
  obtain ⟨c0, c1, c2, c3, c4, c5, c6, c7⟩ := (LBox.new w m).all
  have hd0 : decide (m.bind < 0) = false := decide_eq_false h0
  have hd1 : decide (5 < m.bind) = false := decide_eq_false h1
  have d0 : decide (TimeL m.unt) = true := decide_eq_true t0
  have d1 : decide (TimeL m.acked) = true := decide_eq_true t1
  have d2 : decide (TimeL m.told) = false := decide_eq_false h
  clear h0 h1 h t0 t1
  go_enter Try.func12, Try.ntmps12
  go_wp2_with (go_at_call 24; refine (time_any _ _).mono ?_; rintro e w' ⟨rfl, rfl⟩)
  go_ret
  rw [HR.out]
  exact ⟨rfl, hB⟩
set_option maxRecDepth 100000 in
set_option maxHeartbeats 2000000 in
theorem rright_t3 (m : LV) (w : World) (h0 : ¬ m.bind < 0) (h1 : ¬ 5 < m.bind) (t0 : TimeL m.unt) (t1 : TimeL m.acked) (t2 : TimeL m.told) (h : ¬ TimeL m.at_) :
    Calls Try.prog 12 #[m.v] w fun e w' => e = .returned (.bool (decide (RightL m))) ∧ Below w.heap.size w w' := by
  have HR : Hid (decide (RightL m) = false) := Lib.hid (decide_eq_false fun r => h r.at_)
  have hB : Below w.heap.size w (w.alloc (lbox m)) := (Below.refl _ _).alloc (Nat.le_refl _) _
  obtain ⟨c0, c1, c2, c3, c4, c5, c6, c7⟩ := (LBox.new w m).all
  have hd0 : decide (m.bind < 0) = false := decide_eq_false h0
  have hd1 : decide (5 < m.bind) = false := decide_eq_false h1
  have d0 : decide (TimeL m.unt) = true := decide_eq_true t0
  have d1 : decide (TimeL m.acked) = true := decide_eq_true t1
  have d2 : decide (TimeL m.told) = true := decide_eq_true t2
  have d3 : decide (TimeL m.at_) = false := decide_eq_false h
  clear h0 h1 h t0 t1 t2
  go_enter Try.func12, Try.ntmps12
  go_wp2_with (go_at_call 24; refine (time_any _ _).mono ?_; rintro e w' ⟨rfl, rfl⟩)
  go_ret
  rw [HR.out]
  exact ⟨rfl, hB⟩
set_option maxRecDepth 100000 in
set_option maxHeartbeats 2000000 in
theorem rright_t4 (m : LV) (w : World) (h0 : ¬ m.bind < 0) (h1 : ¬ 5 < m.bind) (t0 : TimeL m.unt) (t1 : TimeL m.acked) (t2 : TimeL m.told) (t3 : TimeL m.at_) (h : ¬ TimeL m.ver) :
    Calls Try.prog 12 #[m.v] w fun e w' => e = .returned (.bool (decide (RightL m))) ∧ Below w.heap.size w w' := by
  have HR : Hid (decide (RightL m) = false) := Lib.hid (decide_eq_false fun r => h r.ver)
  have hB : Below w.heap.size w (w.alloc (lbox m)) := (Below.refl _ _).alloc (Nat.le_refl _) _
  obtain ⟨c0, c1, c2, c3, c4, c5, c6, c7⟩ := (LBox.new w m).all
  have hd0 : decide (m.bind < 0) = false := decide_eq_false h0
  have hd1 : decide (5 < m.bind) = false := decide_eq_false h1
  have d0 : decide (TimeL m.unt) = true := decide_eq_true t0
  have d1 : decide (TimeL m.acked) = true := decide_eq_true t1
  have d2 : decide (TimeL m.told) = true := decide_eq_true t2
  have d3 : decide (TimeL m.at_) = true := decide_eq_true t3
  have d4 : decide (TimeL m.ver) = false := decide_eq_false h
  clear h0 h1 h t0 t1 t2 t3
  go_enter Try.func12, Try.ntmps12
  go_wp2_with (go_at_call 24; refine (time_any _ _).mono ?_; rintro e w' ⟨rfl, rfl⟩)
  go_ret
  rw [HR.out]
  exact ⟨rfl, hB⟩
theorem cb_toList (m : LV) : m.cb.toList = m.client := by rw [ByteArray.toList_eq, m.cb_data]
theorem rright_eq_held {m : LV} (h0 : ¬ m.bind < 0) (h1 : ¬ 5 < m.bind) (t0 : TimeL m.unt) (t1 : TimeL m.acked) (t2 : TimeL m.told) (t3 : TimeL m.at_) (t4 : TimeL m.ver) (hh : HeldL m.bind) : decide (RightL m) = decide (1 ≤ m.client.length ∧ m.client.length ≤ 32) := by
  rw [decide_eq_decide]
  exact ⟨fun r => r.held hh, fun r => ⟨by omega, by omega, t0, t1, t2, t3, t4, fun _ => r, fun n => absurd hh n⟩⟩
theorem rright_eq_free {m : LV} (h0 : ¬ m.bind < 0) (h1 : ¬ 5 < m.bind) (t0 : TimeL m.unt) (t1 : TimeL m.acked) (t2 : TimeL m.told) (t3 : TimeL m.at_) (t4 : TimeL m.ver) (hh : ¬ HeldL m.bind) : decide (RightL m) = decide (m.client = [] ∧ m.unt = 0 ∧ m.acked = 0 ∧ m.told = 0 ∧ m.at_ = 0) := by
  rw [decide_eq_decide]
  exact ⟨fun r => r.bare hh, fun r => ⟨by omega, by omega, t0, t1, t2, t3, t4, fun n => absurd n hh, fun _ => r⟩⟩
set_option maxRecDepth 100000 in
set_option maxHeartbeats 2000000 in
theorem rright_held (m : LV) (w : World) (h0 : ¬ m.bind < 0) (h1 : ¬ 5 < m.bind) (t0 : TimeL m.unt) (t1 : TimeL m.acked) (t2 : TimeL m.told) (t3 : TimeL m.at_) (t4 : TimeL m.ver) (hh : HeldL m.bind) :
    Calls Try.prog 12 #[m.v] w fun e w' => e = .returned (.bool (decide (RightL m))) ∧ Below w.heap.size w w' := by
  have HR : Hid (decide (RightL m) = decide (1 ≤ m.client.length ∧ m.client.length ≤ 32)) := Lib.hid (rright_eq_held h0 h1 t0 t1 t2 t3 t4 hh)
  have hB : Below w.heap.size w (w.alloc (lbox m)) := (Below.refl _ _).alloc (Nat.le_refl _) _
  obtain ⟨c0, c1, c2, c3, c4, c5, c6, c7⟩ := (LBox.new w m).all
  have hd0 : decide (m.bind < 0) = false := decide_eq_false h0
  have hd1 : decide (5 < m.bind) = false := decide_eq_false h1
  have d0 : decide (TimeL m.unt) = true := decide_eq_true t0
  have d1 : decide (TimeL m.acked) = true := decide_eq_true t1
  have d2 : decide (TimeL m.told) = true := decide_eq_true t2
  have d3 : decide (TimeL m.at_) = true := decide_eq_true t3
  have d4 : decide (TimeL m.ver) = true := decide_eq_true t4
  clear h0 h1 t0 t1 t2 t3 t4
  have hcs := m.cb_size
  by_cases hl1 : 1 ≤ m.client.length
  · have hd : decide ((1 : Int) ≤ (m.cb.size : Int)) = true := by simp; omega
    have HF : Hid (decide (1 ≤ m.client.length ∧ m.client.length ≤ 32) = decide ((m.cb.size : Int) ≤ 32)) := Lib.hid (by rw [decide_eq_decide]; omega)
    rw [HF.out] at HR
    clear hl1 hcs
    rcases hh with hb | hb | hb
    · have b2 : (m.bind == 2) = true := by rw [hb]; rfl
      clear hb
      go_enter Try.func12, Try.ntmps12
      go_wp2_with (go_at_call 24; refine (time_any _ _).mono ?_; rintro e w' ⟨rfl, rfl⟩)
      go_ret
      rw [HR.out]
      exact ⟨rfl, hB⟩
    · have b2 : (m.bind == 2) = false := by rw [hb]; rfl
      have b3 : (m.bind == 3) = true := by rw [hb]; rfl
      clear hb
      go_enter Try.func12, Try.ntmps12
      go_wp2_with (go_at_call 24; refine (time_any _ _).mono ?_; rintro e w' ⟨rfl, rfl⟩)
      go_ret
      rw [HR.out]
      exact ⟨rfl, hB⟩
    · have b2 : (m.bind == 2) = false := by rw [hb]; rfl
      have b3 : (m.bind == 3) = false := by rw [hb]; rfl
      have b4 : (m.bind == 4) = true := by rw [hb]; rfl
      clear hb
      go_enter Try.func12, Try.ntmps12
      go_wp2_with (go_at_call 24; refine (time_any _ _).mono ?_; rintro e w' ⟨rfl, rfl⟩)
      go_ret
      rw [HR.out]
      exact ⟨rfl, hB⟩
  · have hd : decide ((1 : Int) ≤ (m.cb.size : Int)) = false := by simp; omega
    have HF : Hid (decide (1 ≤ m.client.length ∧ m.client.length ≤ 32) = false) := Lib.hid (decide_eq_false (fun h => hl1 h.1))
    rw [HF.out] at HR
    clear hl1 hcs
    rcases hh with hb | hb | hb
    · have b2 : (m.bind == 2) = true := by rw [hb]; rfl
      clear hb
      go_enter Try.func12, Try.ntmps12
      go_wp2_with (go_at_call 24; refine (time_any _ _).mono ?_; rintro e w' ⟨rfl, rfl⟩)
      go_ret
      rw [HR.out]
      exact ⟨rfl, hB⟩
    · have b2 : (m.bind == 2) = false := by rw [hb]; rfl
      have b3 : (m.bind == 3) = true := by rw [hb]; rfl
      clear hb
      go_enter Try.func12, Try.ntmps12
      go_wp2_with (go_at_call 24; refine (time_any _ _).mono ?_; rintro e w' ⟨rfl, rfl⟩)
      go_ret
      rw [HR.out]
      exact ⟨rfl, hB⟩
    · have b2 : (m.bind == 2) = false := by rw [hb]; rfl
      have b3 : (m.bind == 3) = false := by rw [hb]; rfl
      have b4 : (m.bind == 4) = true := by rw [hb]; rfl
      clear hb
      go_enter Try.func12, Try.ntmps12
      go_wp2_with (go_at_call 24; refine (time_any _ _).mono ?_; rintro e w' ⟨rfl, rfl⟩)
      go_ret
      rw [HR.out]
      exact ⟨rfl, hB⟩
set_option maxRecDepth 100000 in
set_option maxHeartbeats 2000000 in
theorem rright_free (m : LV) (w : World) (h0 : ¬ m.bind < 0) (h1 : ¬ 5 < m.bind) (t0 : TimeL m.unt) (t1 : TimeL m.acked) (t2 : TimeL m.told) (t3 : TimeL m.at_) (t4 : TimeL m.ver) (hh : ¬ HeldL m.bind) :
    Calls Try.prog 12 #[m.v] w fun e w' => e = .returned (.bool (decide (RightL m))) ∧ Below w.heap.size w w' := by
  have HR : Hid (decide (RightL m) = decide (m.client = [] ∧ m.unt = 0 ∧ m.acked = 0 ∧ m.told = 0 ∧ m.at_ = 0)) := Lib.hid (rright_eq_free h0 h1 t0 t1 t2 t3 t4 hh)
  have hB : Below w.heap.size w (w.alloc (lbox m)) := (Below.refl _ _).alloc (Nat.le_refl _) _
  obtain ⟨c0, c1, c2, c3, c4, c5, c6, c7⟩ := (LBox.new w m).all
  have hd0 : decide (m.bind < 0) = false := decide_eq_false h0
  have hd1 : decide (5 < m.bind) = false := decide_eq_false h1
  have d0 : decide (TimeL m.unt) = true := decide_eq_true t0
  have d1 : decide (TimeL m.acked) = true := decide_eq_true t1
  have d2 : decide (TimeL m.told) = true := decide_eq_true t2
  have d3 : decide (TimeL m.at_) = true := decide_eq_true t3
  have d4 : decide (TimeL m.ver) = true := decide_eq_true t4
  clear h0 h1 t0 t1 t2 t3 t4
  have b2 : (m.bind == 2) = false := by unfold HeldL at hh; simp; omega
  have b3 : (m.bind == 3) = false := by unfold HeldL at hh; simp; omega
  have b4 : (m.bind == 4) = false := by unfold HeldL at hh; simp; omega
  clear hh
  by_cases e0 : m.client = []
  rotate_left
  · have s0 : (m.cb.toList == []) = false := by rw [cb_toList]; simpa using e0
    rw [show decide (m.client = [] ∧ m.unt = 0 ∧ m.acked = 0 ∧ m.told = 0 ∧ m.at_ = 0) = false from decide_eq_false fun h => e0 h.1] at HR
    clear e0
    go_enter Try.func12, Try.ntmps12
    go_wp2_with (go_at_call 24; refine (time_any _ _).mono ?_; rintro e w' ⟨rfl, rfl⟩)
    go_ret
    rw [HR.out]
    exact ⟨rfl, hB⟩
  have s0 : (m.cb.toList == []) = true := by rw [cb_toList]; simpa using e0
  by_cases e1 : m.unt = 0
  rotate_left
  · have s1 : (m.unt == 0) = false := by simpa using e1
    rw [show decide (m.client = [] ∧ m.unt = 0 ∧ m.acked = 0 ∧ m.told = 0 ∧ m.at_ = 0) = false from decide_eq_false fun h => e1 h.2.1] at HR
    clear e0 e1
    go_enter Try.func12, Try.ntmps12
    go_wp2_with (go_at_call 24; refine (time_any _ _).mono ?_; rintro e w' ⟨rfl, rfl⟩)
    go_ret
    rw [HR.out]
    exact ⟨rfl, hB⟩
  have s1 : (m.unt == 0) = true := by simpa using e1
  by_cases e2 : m.acked = 0
  rotate_left
  · have s2 : (m.acked == 0) = false := by simpa using e2
    rw [show decide (m.client = [] ∧ m.unt = 0 ∧ m.acked = 0 ∧ m.told = 0 ∧ m.at_ = 0) = false from decide_eq_false fun h => e2 h.2.2.1] at HR
    clear e0 e1 e2
    go_enter Try.func12, Try.ntmps12
    go_wp2_with (go_at_call 24; refine (time_any _ _).mono ?_; rintro e w' ⟨rfl, rfl⟩)
    go_ret
    rw [HR.out]
    exact ⟨rfl, hB⟩
  have s2 : (m.acked == 0) = true := by simpa using e2
  by_cases e3 : m.told = 0
  rotate_left
  · have s3 : (m.told == 0) = false := by simpa using e3
    rw [show decide (m.client = [] ∧ m.unt = 0 ∧ m.acked = 0 ∧ m.told = 0 ∧ m.at_ = 0) = false from decide_eq_false fun h => e3 h.2.2.2.1] at HR
    clear e0 e1 e2 e3
    go_enter Try.func12, Try.ntmps12
    go_wp2_with (go_at_call 24; refine (time_any _ _).mono ?_; rintro e w' ⟨rfl, rfl⟩)
    go_ret
    rw [HR.out]
    exact ⟨rfl, hB⟩
  have s3 : (m.told == 0) = true := by simpa using e3
  by_cases e4 : m.at_ = 0
  rotate_left
  · have s4 : (m.at_ == 0) = false := by simpa using e4
    rw [show decide (m.client = [] ∧ m.unt = 0 ∧ m.acked = 0 ∧ m.told = 0 ∧ m.at_ = 0) = false from decide_eq_false fun h => e4 h.2.2.2.2] at HR
    clear e0 e1 e2 e3 e4
    go_enter Try.func12, Try.ntmps12
    go_wp2_with (go_at_call 24; refine (time_any _ _).mono ?_; rintro e w' ⟨rfl, rfl⟩)
    go_ret
    rw [HR.out]
    exact ⟨rfl, hB⟩
  have s4 : (m.at_ == 0) = true := by simpa using e4
  rw [show decide (m.client = [] ∧ m.unt = 0 ∧ m.acked = 0 ∧ m.told = 0 ∧ m.at_ = 0) = true from decide_eq_true ⟨e0, e1, e2, e3, e4⟩] at HR
  clear e0 e1 e2 e3 e4
  go_enter Try.func12, Try.ntmps12
  go_wp2_with (go_at_call 24; refine (time_any _ _).mono ?_; rintro e w' ⟨rfl, rfl⟩)
  go_ret
  rw [HR.out]
  exact ⟨rfl, hB⟩
theorem rright_any (m : LV) (w : World) :
    Calls Try.prog 12 #[m.v] w fun e w' => e = .returned (.bool (decide (RightL m))) ∧ Below w.heap.size w w' := by
  by_cases h0 : m.bind < 0
  · exact rright_low m w h0
  by_cases h1 : 5 < m.bind
  · exact rright_high m w h0 h1
  by_cases t0 : TimeL m.unt
  rotate_left
  · exact rright_t0 m w h0 h1 t0
  by_cases t1 : TimeL m.acked
  rotate_left
  · exact rright_t1 m w h0 h1 t0 t1
  by_cases t2 : TimeL m.told
  rotate_left
  · exact rright_t2 m w h0 h1 t0 t1 t2
  by_cases t3 : TimeL m.at_
  rotate_left
  · exact rright_t3 m w h0 h1 t0 t1 t2 t3
  by_cases t4 : TimeL m.ver
  rotate_left
  · exact rright_t4 m w h0 h1 t0 t1 t2 t3 t4
  by_cases hh : HeldL m.bind
  · exact rright_held m w h0 h1 t0 t1 t2 t3 t4 hh
  · exact rright_free m w h0 h1 t0 t1 t2 t3 t4 hh
end Go.Proofs.Ytlbgkpkfjaggkaa
