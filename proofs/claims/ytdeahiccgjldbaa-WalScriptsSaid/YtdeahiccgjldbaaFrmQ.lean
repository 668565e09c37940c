/- Frames, pure: what logs need of them. (Not beside LawFBack and FrmX, which have some of these names for stage 9.) -/
import Derived.Test.YtdeahiccgjldbaaFrmP
namespace Go.Proofs.Ytdeahiccgjldbaa

theorem scan_take (b : List UInt8) : b.take (tot (scanL b)) = frs (scanL b) := by
  have h := (scan_back b).2.1
  have h2 : (frs (scanL b) ++ b.drop (tot (scanL b))).take (tot (scanL b)) = frs (scanL b) := List.take_left' (frs_length _)
  rw [← h] at h2
  exact h2
theorem scan_tot (b : List UInt8) : tot (scanL b) ≤ b.length := by
  have h2 := congrArg List.length (scan_back b).2.1
  rw [List.length_append, frs_length] at h2
  omega
theorem scan_all {b : List UInt8} (h : tot (scanL b) = b.length) : b = frs (scanL b) := by
  have h2 := scan_take b
  rw [h, List.take_length] at h2
  exact h2
theorem scan_self {l : List (List UInt8)} (h : ∀ r ∈ l, GoodF r) : scanL (frs l) = l := by
  have h2 := scan_frs l [] h
  rw [List.append_nil] at h2
  rw [h2]
  have : scanL [] = [] := rfl
  rw [this, List.append_nil]
theorem frs_take (ds : List (List UInt8)) (wh : Nat) : (frs ds).take (tot (ds.take wh)) = frs (ds.take wh) := by
  have e : frs ds = frs (ds.take wh) ++ frs (ds.drop wh) := by rw [← frs_append, List.take_append_drop]
  rw [e, List.take_left' (frs_length _)]
theorem frs_take_snoc {L : List (List UInt8)} {k : Nat} {r : List UInt8} (h : L[k]? = some r) : frs (L.take (k + 1)) = frs (L.take k) ++ fr r := by
  rw [List.take_add_one, h]
  exact frs_snoc _ _
theorem tot_take_le (L : List (List UInt8)) (k : Nat) : tot (L.take k) ≤ tot L := by
  have h := congrArg tot (List.take_append_drop k L)
  rw [tot_append] at h
  omega
theorem tot_take_mono (L : List (List UInt8)) {j k : Nat} (h : j ≤ k) : tot (L.take j) ≤ tot (L.take k) := by
  have h2 := tot_take_le (L.take k) j
  rw [List.take_take, Nat.min_eq_left h] at h2
  exact h2
theorem tot_good {ds : List (List UInt8)} (hg : ∀ r ∈ ds, GoodF r) : tot ds ≤ ds.length * 1003 := by
  induction ds with
  | nil => simp [tot_nil]
  | cons r l ih =>
    have h1 := ih fun x hx => hg x (by simp [hx])
    have h2 := (hg r (by simp)).2
    rw [tot_cons, List.length_cons]
    omega

/-- Of frames that are cut off at a place, some are whole: those that end ahead of it. -/
theorem cut_some (l : List (List UInt8)) (h : ∀ r ∈ l, GoodF r) (cut : Nat) : ∃ wh, wh ≤ l.length ∧ tot (l.take wh) ≤ cut ∧ scanL ((frs l).take cut) = l.take wh ∧ ∀ j, j ≤ l.length → tot (l.take j) ≤ cut → j ≤ wh := by
  induction hn : l.length with
  | zero =>
    obtain rfl := List.eq_nil_of_length_eq_zero hn
    exact ⟨0, Nat.le_refl _, Nat.zero_le _, by simp [frs_nil]; rfl, fun j hj _ => hj⟩
  | succ n _ =>
    -- the greatest one
    have pick : ∀ m, m ≤ l.length → ∃ wh, wh ≤ m ∧ tot (l.take wh) ≤ cut ∧ ∀ j, j ≤ m → tot (l.take j) ≤ cut → j ≤ wh := by
      intro m
      induction m with
      | zero => exact fun _ => ⟨0, Nat.le_refl _, by simp [tot_nil], fun j hj _ => hj⟩
      | succ m ih =>
        intro hm
        by_cases hc : tot (l.take (m + 1)) ≤ cut
        · exact ⟨m + 1, Nat.le_refl _, hc, fun j hj _ => hj⟩
        · obtain ⟨wh, h1, h2, h3⟩ := ih (by omega)
          refine ⟨wh, by omega, h2, fun j hj hj2 => ?_⟩
          by_cases e : j = m + 1
          · subst e; exact absurd hj2 hc
          · exact h3 j (by omega) hj2
    obtain ⟨wh, h1, h2, h3⟩ := pick l.length (Nat.le_refl _)
    rw [← hn]
    refine ⟨wh, h1, h2, scan_cut l h wh cut h2 fun r hr => ?_, h3⟩
    have hlt := (List.getElem?_eq_some_iff.1 hr).1
    rcases Nat.lt_or_ge cut (tot (l.take wh) + (r.length + 3)) with hh | hh
    · exact hh
    · have h4 := h3 (wh + 1) (by omega) (by rw [List.take_add_one, hr]; show tot (l.take wh ++ [r]) ≤ cut; rw [tot_snoc]; exact hh)
      omega
end Go.Proofs.Ytdeahiccgjldbaa
