/- pool, pure: how many are given (givV); at most one of the two gives, and behind that nothing more is given. -/
import Derived.Test.YtiapmnedbjmmhaaRatV
import Derived.Test.YtiapmnedbjmmhaaPooL
namespace Go.Proofs.Ytiapmnedbjmmhaa
open Flo

/-- How many the server id gives the other one. -/
def givV (p s : Nat) (id f b : Int) : Int :=
  if gtF (unW f b p) s = true then (if id = 0 then shareV f b p else if id = 1 then min (max (bnd b - partV (bnd f + bnd b) p) 0) (bnd b) else 0) else 0
theorem giv_range (p s : Nat) (id f b : Int) : 0 ≤ givV p s id f b ∧ givV p s id f b ≤ 1073741824 ∧ (id = 0 → 0 ≤ f → givV p s id f b ≤ f) ∧ (id = 1 → 0 ≤ b → givV p s id f b ≤ b) ∧ (id ≠ 0 → id ≠ 1 → givV p s id f b = 0) := by
  have h1 := bnd_range f
  have h2 := bnd_range b
  have h3 : 0 ≤ f → bnd f ≤ f := fun h => by unfold bnd; omega
  have h4 : 0 ≤ b → bnd b ≤ b := fun h => by unfold bnd; omega
  unfold givV shareV
  generalize partV (bnd f + bnd b) p = x
  split
  · split
    · refine ⟨by omega, by omega, fun _ h => ?_, fun h => by omega, fun h => absurd (by assumption) h⟩
      have := h3 h; omega
    · split
      · refine ⟨by omega, by omega, fun h => absurd h (by assumption), fun _ h => ?_, fun _ h => absurd (by assumption) h⟩
        have := h4 h; omega
      · exact ⟨by omega, by omega, fun h => absurd h (by assumption), fun h => absurd h (by assumption), fun _ _ => rfl⟩
  · exact ⟨by omega, by omega, fun _ h => h, fun _ h => h, fun _ _ => rfl⟩
theorem bnd_id {n : Int} (h0 : 0 ≤ n) (h1 : n ≤ 1073741824) : bnd n = n := by unfold bnd; omega
/-- Both, of the same numbers: at most one gives; behind that neither does. -/
theorem giv_once (p s : Nat) {f b : Int} (hf : 0 ≤ f) (hb : 0 ≤ b) (ht : f + b ≤ 1073741824) :
    ¬ (0 < givV p s 0 f b ∧ 0 < givV p s 1 f b) ∧ givV p s 0 (f - givV p s 0 f b + givV p s 1 f b) (b + givV p s 0 f b - givV p s 1 f b) = 0 ∧ givV p s 1 (f - givV p s 0 f b + givV p s 1 f b) (b + givV p s 0 f b - givV p s 1 f b) = 0 := by
  have hP := partV_range (f + b) p
  have ef := bnd_id hf (by omega)
  have eb := bnd_id hb (by omega)
  obtain ⟨P, hPd⟩ : ∃ P, P = partV (f + b) p := ⟨_, rfl⟩
  rw [← hPd] at hP
  have hP1 : P ≤ f + b := by omega
  have key : ∀ f' b' : Int, 0 ≤ f' → 0 ≤ b' → f' + b' = f + b → b' = P → givV p s 0 f' b' = 0 ∧ givV p s 1 f' b' = 0 := by
    intro f' b' h0 h1 h2 h3
    have ef' := bnd_id h0 (by omega)
    have eb' := bnd_id h1 (by omega)
    unfold givV shareV
    rw [ef', eb', h2, ← hPd]
    constructor <;> split <;> first | rfl | (rw [if_pos rfl]; omega) | (rw [if_neg (by decide), if_pos rfl]; omega)
  cases hg : gtF (unW f b p) s
  · have e0 : givV p s 0 f b = 0 := by unfold givV; rw [hg]; rfl
    have e1 : givV p s 1 f b = 0 := by unfold givV; rw [hg]; rfl
    rw [e0, e1, show f - 0 + 0 = f by omega, show b + 0 - 0 = b by omega]
    exact ⟨by omega, e0, e1⟩
  · have e0 : givV p s 0 f b = min (max (P - b) 0) f := by unfold givV shareV; rw [hg, if_pos rfl, if_pos rfl, ef, eb, ← hPd]
    have e1 : givV p s 1 f b = min (max (b - P) 0) b := by unfold givV; rw [hg, if_pos rfl, if_neg (by decide), if_pos rfl, ef, eb, ← hPd]
    rw [e0, e1]
    obtain ⟨k0, k1⟩ := key (f - min (max (P - b) 0) f + min (max (b - P) 0) b) (b + min (max (P - b) 0) f - min (max (b - P) 0) b) (by omega) (by omega) (by omega) (by omega)
    exact ⟨by omega, k0, k1⟩
/-- One behind the other: the second one counts what the first one gave; then neither gives. -/
theorem giv_turns (p s : Nat) {f b : Int} (hf : 0 ≤ f) (hb : 0 ≤ b) (ht : f + b ≤ 1073741824) (a c : Int) (ha : a = givV p s 0 f b) (hc : c = givV p s 1 (f - a) (b + a)) :
    givV p s 0 (f - a + c) (b + a - c) = 0 ∧ givV p s 1 (f - a + c) (b + a - c) = 0 := by
  obtain ⟨_, o0, o1⟩ := giv_once p s hf hb ht
  obtain ⟨a0, _, a1, _⟩ := giv_range p s 0 f b
  have a1 := a1 rfl hf
  obtain ⟨c0, _, _, c1, _⟩ := giv_range p s 1 (f - a) (b + a)
  rw [← ha] at a0 a1
  have c1 := c1 rfl (by omega)
  rw [← hc] at c0 c1
  obtain ⟨d0, _⟩ := giv_range p s 1 f b
  by_cases h : a = 0
  · have e : givV p s 1 f b = c := by rw [hc, h, show f - 0 = f by omega, show b + 0 = b by omega]
    rw [← ha, e] at o0 o1
    exact ⟨o0, o1⟩
  · obtain ⟨n, _, _⟩ := giv_once p s hf hb ht
    have e : givV p s 1 f b = 0 := by
      rw [← ha] at n
      omega
    rw [← ha, e] at o0 o1
    rw [show f - a + 0 = f - a by omega, show b + a - 0 = b + a by omega] at o0 o1
    have hc0 : c = 0 := by rw [hc]; exact o1
    rw [hc0, show f - a + 0 = f - a by omega, show b + a - 0 = b + a by omega]
    exact ⟨o0, o1⟩
/-- Which addresses the server id gives. -/
def chV (p s : Nat) (id : Int) (L : List LV) : List Nat :=
  topA (givV p s id ((L.countP fun y => y.bind == 0 : Nat) : Int) ((L.countP fun y => y.bind == 1 : Nat) : Int)).toNat (if id = 0 ∨ id = 1 then ownA id L else [])
/-- How many: never more than there are. -/
theorem ch_fits (p s : Nat) (id : Int) (L : List LV) : (givV p s id ((L.countP fun y => y.bind == 0 : Nat) : Int) ((L.countP fun y => y.bind == 1 : Nat) : Int)).toNat ≤ (if id = 0 ∨ id = 1 then ownA id L else []).length := by
  obtain ⟨h0, _, h1, h2, h3⟩ := giv_range p s id ((L.countP fun y => y.bind == 0 : Nat) : Int) ((L.countP fun y => y.bind == 1 : Nat) : Int)
  by_cases i0 : id = 0
  · rw [if_pos (.inl i0), ownA_length, i0]
    have := h1 i0 (Int.natCast_nonneg _)
    rw [i0] at this h0
    omega
  · by_cases i1 : id = 1
    · rw [if_pos (.inr i1), ownA_length, i1]
      have := h2 i1 (Int.natCast_nonneg _)
      rw [i1] at this h0
      omega
    · rw [h3 i0 i1]
      exact Nat.zero_le _
theorem ch_length (p s : Nat) (id : Int) (L : List LV) : (chV p s id L).length = (givV p s id ((L.countP fun y => y.bind == 0 : Nat) : Int) ((L.countP fun y => y.bind == 1 : Nat) : Int)).toNat := topA_length (ch_fits p s id L)
theorem ch_own {p s : Nat} {id : Int} {L : List LV} (h : id = 0 ∨ id = 1) : ∃ n, chV p s id L = topA n (ownA id L) := ⟨_, by unfold chV; rw [if_pos h]⟩
end Go.Proofs.Ytiapmnedbjmmhaa
