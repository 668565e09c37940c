/- The document's Decode of a packet: on lists. -/
import Derived.Test.YtmlckjccgdmknaaBackP
namespace Go.Proofs.Ytmlckjccgdmknaa

theorem skipL_ne (l : List UInt8) : ∀ {x : UInt8} {t : List UInt8}, skipL l = x :: t → x ≠ 0 := by
  induction l with
  | nil => intro x t h; rw [skipL_nil] at h; cases h
  | cons y r ih =>
    intro x t h
    by_cases hy : y = 0
    · subst hy; rw [skipL_zero] at h; exact ih h
    · rw [skipL_other r hy] at h; injection h with h1 h2; rw [← h1]; exact hy
theorem decL_ok (n : Nat) : ∀ (l : List UInt8) (os : List (Int × List UInt8)), l.length ≤ n → decL l = some os → os.all okO = true := by
  induction n with
  | zero =>
    intro l os hl h
    obtain rfl : l = [] := List.length_eq_zero_iff.1 (by omega)
    rw [decL_nil (show skipL [] = [] from rfl)] at h
    cases h
  | succ n ih =>
    intro l os hl h
    have hsk := skipL_length l
    match hs : skipL l with
    | [] => rw [decL_nil hs] at h; cases h
    | x :: t =>
      have hx0 := skipL_ne l hs
      rw [hs, List.length_cons] at hsk
      by_cases hx : x = 255
      · subst hx
        rw [decL_end hs] at h
        split at h
        · injection h with h; subst h; rfl
        · cases h
      · match hp : splitL (x :: t) with
        | none => rw [decL_cut hs hx hp] at h; cases h
        | some (d, b) =>
          rw [decL_one hs hx hp] at h
          obtain ⟨os', ho, rfl⟩ := Option.map_eq_some_iff.1 h
          have hlt := splitL_lt hp
          simp only [List.length_cons] at hlt
          have hd : d.length ≤ 255 := by
            match t, hp with
            | y :: r, hp =>
              simp only [splitL] at hp
              split at hp
              · simp only [Option.some.injEq, Prod.mk.injEq] at hp
                obtain ⟨rfl, rfl⟩ := hp
                have := y.toNat_lt
                simp only [List.length_take]
                omega
              · cases hp
          have h1 := ih b os' (by omega) ho
          have h2 : x.toNat ≠ 0 := fun e => hx0 (UInt8.toNat_inj.1 (by simpa using e))
          have h3 : x.toNat ≠ 255 := fun e => hx (UInt8.toNat_inj.1 (by simpa using e))
          have h4 := x.toNat_lt
          simp only [List.all_cons, Bool.and_eq_true]
          exact ⟨(okO_iff _).2 ⟨by simp only; omega, by simp only; omega, hd⟩, h1⟩
theorem decR_enc {b : List UInt8} (h : (decR b).2 = 0) : (encL (decR b).1).2 = 0 := by
  unfold decR at h ⊢
  split at h
  · simp at h
  · rename_i hnb
    rw [if_neg hnb]
    split at h
    · rename_i l hl
      have h1 := decL_ok _ b l (Nat.le_refl _) hl
      have h2 := decL_flat_len _ b l (Nat.le_refl _) hl
      simp only
      rw [encL_ok h1 (by omega)]
    · simp at h

/-- The packet without its options is one, and has these bytes. -/
def refH (b : List UInt8) : Prop := 240 ≤ b.length ∧ 1 ≤ numL ((b.drop 2).take 1) ∧ numL ((b.drop 2).take 1) ≤ 16 ∧ rightA (hdrA b []) = true ∧ headL (hdrA b []) = b.take 240
theorem decP_ref {b : List UInt8} (h : refH b) (h2 : (decR (b.drop 240)).2 = 0) : decP b = (hdrA b (decR (b.drop 240)).1, 0) := by
  obtain ⟨h1, h3, h4, h5, h6⟩ := h
  refine decP_ok ⟨h1, h4⟩ h2 ?_
  unfold beginsB
  have e1 : headL (hdrA b (decR (b.drop 240)).1) = headL (hdrA b []) := rfl
  rw [e1, h6]
  unfold rightA at h5 ⊢
  have e2 : headA (hdrA b (decR (b.drop 240)).1) = headA (hdrA b []) := rfl
  rw [Bool.and_eq_true] at h5
  rw [e2, h5.2]
  have e3 : (hdrA b (decR (b.drop 240)).1).opts = (decR (b.drop 240)).1 := rfl
  rw [e3, decR_enc h2]
  simp
theorem decP_refbad {b : List UInt8} (h : ¬ refH b) : decP b = (zeroP.abs, 2) := by
  refine decP_bad fun ⟨h1, h2, h3⟩ => h ?_
  unfold beginsB at h3
  simp only [Bool.and_eq_true, beq_iff_eq] at h3
  obtain ⟨hr, hb⟩ := h3
  unfold rightA at hr
  rw [Bool.and_eq_true] at hr
  have hA : headA (hdrA b []) = true := hr.2
  have hh := (headA_iff _).1 hA
  have h5 : 1 ≤ (List.take (numL ((b.drop 2).take 1)) ((b.drop 28).take 16)).length := hh.2.2.2.1
  rw [List.length_take] at h5
  refine ⟨h1.1, by omega, h1.2, ?_, hb⟩
  unfold rightA
  rw [hA]
  show ((encL []).2 == 0 && true) = true
  decide
theorem decP_refopt {b : List UInt8} (h2 : (decR (b.drop 240)).2 ≠ 0) : decP b = (zeroP.abs, 2) := decP_bad fun h => h2 h.2.1
theorem decP_short {b : List UInt8} (h : b.length < 240) : decP b = (zeroP.abs, 2) := decP_refbad fun h' => by have := h'.1; omega
theorem num_at {b : List UInt8} {x : UInt8} (h : b[2]? = some x) : numL ((b.drop 2).take 1) = x.toNat := by
  have e : (b.drop 2).take 1 = [x] := by
    obtain ⟨h1, h2⟩ := List.getElem?_eq_some_iff.1 h
    rw [List.drop_eq_getElem_cons h1, h2]; rfl
  rw [e]; simp [numL]
end Go.Proofs.Ytmlckjccgdmknaa
