/- The document's disk: fails, New, Fail, Sync, Swap, Append. -/
import Derived.Test.YtdeahiccgjldbaaDskH
namespace Go.Proofs.Ytdeahiccgjldbaa
open Go.RowKit

theorem rnew_any (w : World) (n : Int) : Calls Try.prog 11 #[.int .i64 n] w (News RT w n) := by
  by_cases hn : 1 ≤ n ∧ n ≤ 1048576
  · obtain ⟨k, rfl⟩ := Int.eq_ofNat_of_zero_le (show 0 ≤ n by omega)
    have d1 : decide ((k : Int) < 1) = false := decide_eq_false (by omega)
    have d2 : decide (1048576 < (k : Int)) = false := decide_eq_false (by omega)
    have HN := Lib.hid hn
    clear hn
    go_enter Try.func11, Try.ntmps11
    go_wp2
    go_ret2
    have hn := HN.out
    exact .inl ⟨k, rfl, by omega, by omega, rfl, new_ds w k _ _ rfl, (Below.refl _ _).alloc (Nat.le_refl _) _, Array.size_push _⟩
  · have h : (decide (n < 1) = true) ∨ (decide (n < 1) = false ∧ decide (1048576 < n) = true) := by
      simp only [decide_eq_true_eq, decide_eq_false_iff_not]; omega
    have HN := Lib.hid hn
    clear hn
    rcases h with d1 | ⟨d1, d2⟩
    all_goals
      go_enter Try.func11, Try.ntmps11
      go_wp2
      go_ret2
      exact .inr ⟨HN.out, rfl, rfl⟩

set_option maxRecDepth 100000 in
theorem rfail_any {base : Nat} {w : World} {D : Nat} {s : DS} {v : Value} (h : DAt RT base w D s v) (n : Int) :
    Calls Try.prog 33 #[ptr D, .int .i64 n] w fun e w' => e = .returned (.tuple #[]) ∧ Did RT base w D v w' (failD s n) := by
  have h3 := h.c3
  have hf := h.free 3
  have H := Lib.hid h
  clear h
  go_enter Try.func33, Try.ntmps33
  go_wp2
  · go_end0
    have e : failD s n = { s with left := -1 } := by rw [failD, if_pos (by omega)]
    rw [e]
    exact ⟨rfl, _, H.out.set3 (-1), Oth.set _ _ _ (Kp.refl _ _), fun _ hk => .inl hk⟩
  · go_end0
    have e : failD s n = { s with left := n } := by rw [failD, if_neg (by omega)]
    rw [e]
    exact ⟨rfl, _, H.out.set3 n, Oth.set _ _ _ (Kp.refl _ _), fun _ hk => .inl hk⟩

/-- Is a change not made? It is counted. -/
def Fails (base : Nat) (w : World) (D : Nat) (s : DS) (v : Value) (e : Ending) (w' : World) : Prop :=
  (s.left = 0 ∧ e = .returned (.bool true) ∧ w' = w) ∨ (s.left ≠ 0 ∧ e = .returned (.bool false) ∧ DAt RT base w' D s.count v ∧ Kp (Oth w D v) w w' ∧ w'.heap.size = w.heap.size)

set_option maxRecDepth 100000 in
theorem fails_any {base : Nat} {w : World} {D : Nat} {s : DS} {v : Value} (h : DAt RT base w D s v) (ho : s.Ok) :
    Calls Try.prog 43 #[ptr D] w (Fails base w D s v) := by
  have h3 := h.c3
  have hf := h.free 3
  have b1 := ho.left
  have b2 := ho.top
  obtain ⟨n, hn⟩ : ∃ n, n = s.left := ⟨_, rfl⟩
  rw [← hn] at h3 b1 b2
  have H := Lib.hid h
  have HN := Lib.hid hn
  clear h hn ho
  rcases (show (n = 0) ∨ (n = -1) ∨ (0 < n) by omega) with e0 | e0 | e0
  · have d : (n == 0) = true := by simpa using e0
    have E := Lib.hid e0
    clear e0 b1 b2
    go_enter Try.func43, Try.ntmps43
    go_wp2
    go_ret
    exact .inl ⟨by rw [← HN.out]; exact E.out, rfl, rfl⟩
  · have d : (n == 0) = false := by simp [e0]
    have d2 : decide (0 < n) = false := decide_eq_false (by omega)
    have E := Lib.hid e0
    clear e0 b1 b2
    go_enter Try.func43, Try.ntmps43
    go_wp2
    go_ret
    have hl := HN.out.symm.trans E.out
    have hc : s.count = s := by unfold DS.count; rw [if_pos hl]
    exact .inr ⟨by omega, rfl, by rw [hc]; exact H.out, Kp.refl _ _, rfl⟩
  · have d : (n == 0) = false := by simp; omega
    have d2 : decide (0 < n) = true := decide_eq_true (by omega)
    have hw : IntKind.i64.wrap (n - 1) = n - 1 := IntWalk.i64_in _ (by omega)
    have E := Lib.hid e0
    clear e0 b1 b2
    go_enter Try.func43, Try.ntmps43
    go_wp2
    go_ret
    have hl := HN.out
    have he := E.out
    have hc : s.count = { s with left := n - 1 } := by unfold DS.count; rw [if_neg (by omega), ← hl]
    exact .inr ⟨by omega, rfl, by rw [hc]; exact H.out.set3 (n - 1), Oth.set _ _ _ (Kp.refl _ _), World.size_setCell _ _ _⟩

set_option maxRecDepth 100000 in
theorem rsync_any {base : Nat} {w : World} {D : Nat} {s : DS} {v : Value} (h : DAt RT base w D s v) (ho : s.Ok) :
    Calls Try.prog 30 #[ptr D] w (Ans RT base w D v (syncD s)) := by
  have HC := Lib.hid (fails_any h ho)
  obtain ⟨A, c, rfl, hc, _⟩ := h.form
  have H := Lib.hid h
  clear h hc
  go_enter Try.func30, Try.ntmps30
  go_wp2_with fail
  refine HC.out.mono ?_
  rintro e w' (⟨h0, rfl, rfl⟩ | ⟨h0, rfl, hd, hk, hz⟩)
  · have H0 := Lib.hid h0
    clear h0
    go_wp2
    go_ret
    have e1 : syncD s = (7, s) := by unfold syncD; rw [if_pos H0.out]
    rw [e1]
    exact ⟨rfl, Did.refl H.out⟩
  · have H0 := Lib.hid h0
    have c1 := hd.c1
    have c2 := hd.c2
    have cf := hd.free 2
    have HD := Lib.hid hd
    have HK := Lib.hid hk
    have HZ := Lib.hid hz
    clear h0 hd hk hz
    go_wp2
    go_ret
    have e1 : syncD s = (0, { s.count with last := s.bs.length }) := by unfold syncD; rw [if_neg H0.out]
    rw [e1]
    exact ⟨rfl, _, HD.out.set2 _, Oth.set _ _ _ HK.out, fun _ hk => .inl hk⟩

end Go.Proofs.Ytdeahiccgjldbaa
