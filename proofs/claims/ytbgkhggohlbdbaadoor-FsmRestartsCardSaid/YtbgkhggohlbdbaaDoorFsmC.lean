/- fsm's table of rows, pure: the first row that is met tells the next state. (Names no function of the program but by FsmA's sets.) -/
import Derived.Test.YtbgkhggohlbdbaaDoorFsmA
namespace Go.Proofs.YtbgkhggohlbdbaaDoor
open Go.RowKit

/-- A row: a state, what happens, the set of the other one's states, the next state. -/
structure RowF where
  s : Int
  e : Int
  k : Int
  n : Int
def rowsF : List RowF := [⟨0, 0, 8, 6⟩, ⟨0, 0, 48, 4⟩, ⟨0, 0, 263, 1⟩, ⟨0, 2, -1, 3⟩, ⟨1, 0, 56, 4⟩, ⟨1, 1, -1, 2⟩, ⟨2, 0, 56, 4⟩, ⟨2, 0, 263, 1⟩, ⟨2, 2, -1, 3⟩, ⟨3, 0, 62, 4⟩, ⟨3, 3, 256, 1⟩, ⟨4, 3, 18, 1⟩, ⟨4, 1, -1, 5⟩, ⟨5, 0, -1, 4⟩, ⟨5, 2, -1, 3⟩, ⟨6, 3, -1, 7⟩, ⟨7, 4, -1, 8⟩, ⟨8, 0, 2, 1⟩, ⟨8, 0, 48, 4⟩]
def hitF (r : RowF) (s e o : Int) : Bool := r.s == s && r.e == e && hasV r.k o
def nextF (s e o : Int) : List RowF → Int
  | [] => s
  | r :: l => if hitF r s e o then r.n else nextF s e o l

theorem out_of {k : Nat} (l : List Int) (hl : ∀ x ∈ l, 0 ≤ x ∧ x ≤ 8) (_ : k = 0) {s : Int} (h : isStB s = false) : l.contains s = false := by
  unfold isStB at h
  simp at h
  rw [Bool.eq_false_iff]
  intro hc
  have := hl s (by simpa using hc)
  omega
theorem has_list (k : Int) (l : List Int) (hl : ∀ x ∈ l, 0 ≤ x ∧ x ≤ 8) (hk : k ≠ -1) (h : (List.range 9).all (fun (i : Nat) => bitB k (i : Int) == l.contains (i : Int)) = true) (s : Int) : hasV k s = l.contains s :=
  has_of (p := fun s => l.contains s) hk (fun _ hs => out_of (k := 0) l hl rfl hs) h s
theorem has_all (s : Int) : hasV (-1) s = true := by simp [hasV]
theorem has8 (s : Int) : hasV 8 s = [3].contains s := has_list 8 [3] (by decide) (by decide) (by decide +kernel) s
theorem has48 (s : Int) : hasV 48 s = [4, 5].contains s := has_list 48 [4, 5] (by decide) (by decide) (by decide +kernel) s
theorem has263 (s : Int) : hasV 263 s = [0, 1, 2, 8].contains s := has_list 263 [0, 1, 2, 8] (by decide) (by decide) (by decide +kernel) s
theorem has56 (s : Int) : hasV 56 s = [3, 4, 5].contains s := has_list 56 [3, 4, 5] (by decide) (by decide) (by decide +kernel) s
theorem has62 (s : Int) : hasV 62 s = [1, 2, 3, 4, 5].contains s := has_list 62 [1, 2, 3, 4, 5] (by decide) (by decide) (by decide +kernel) s
theorem has256 (s : Int) : hasV 256 s = [8].contains s := has_list 256 [8] (by decide) (by decide) (by decide +kernel) s
theorem has18 (s : Int) : hasV 18 s = [1, 4].contains s := has_list 18 [1, 4] (by decide) (by decide) (by decide +kernel) s
theorem has2 (s : Int) : hasV 2 s = [1].contains s := has_list 2 [1] (by decide) (by decide) (by decide +kernel) s

theorem s_any (s : Int) : s = 0 ∨ s = 1 ∨ s = 2 ∨ s = 3 ∨ s = 4 ∨ s = 5 ∨ s = 6 ∨ s = 7 ∨ s = 8 ∨ (¬ 0 = s ∧ ¬ 1 = s ∧ ¬ 2 = s ∧ ¬ 3 = s ∧ ¬ 4 = s ∧ ¬ 5 = s ∧ ¬ 6 = s ∧ ¬ 7 = s ∧ ¬ 8 = s) := by omega
theorem e_any (s : Int) : s = 0 ∨ s = 1 ∨ s = 2 ∨ s = 3 ∨ s = 4 ∨ (¬ 0 = s ∧ ¬ 1 = s ∧ ¬ 2 = s ∧ ¬ 3 = s ∧ ¬ 4 = s) := by omega
theorem nextF_out (s e o : Int) : ∀ (l : List RowF), (∀ r ∈ l, r.s ≠ s ∨ r.e ≠ e) → nextF s e o l = s
  | [], _ => rfl
  | r :: l, h => by
    unfold nextF
    rw [if_neg, nextF_out s e o l (fun x hx => h x (by simp [hx]))]
    have := h r (by simp)
    simp only [hitF, Bool.and_eq_true, beq_iff_eq]
    intro hh
    rcases this with a | a
    · exact a hh.1.1
    · exact a hh.1.2
set_option maxHeartbeats 4000000 in
theorem nextF_eq (s e o : Int) : nextF s e o rowsF = nextI ⟨0, 1, 2, 3, 4⟩ s e o := by
  rcases s_any s with rfl | rfl | rfl | rfl | rfl | rfl | rfl | rfl | rfl | ⟨h0, h1, h2, h3, h4, h5, h6, h7, h8⟩
  case inr.inr.inr.inr.inr.inr.inr.inr.inr =>
    rw [nextF_out]
    · unfold nextI heardI syncedI
      simp only
      rw [if_neg (show ¬ s = 0 by omega), if_neg (show ¬ s = 1 by omega), if_neg (show ¬ s = 2 by omega), if_neg (show ¬ s = 3 by omega), if_neg (show ¬ s = 5 by omega), if_neg (show ¬ s = 8 by omega), if_neg (show ¬ s = 3 by omega), if_neg (show ¬ s = 4 by omega), if_neg (show ¬ s = 6 by omega), if_neg (show ¬ s = 1 by omega), if_neg (show ¬ s = 4 by omega), if_neg (show ¬ (s = 0 ∨ s = 2 ∨ s = 5) by omega), if_neg (show ¬ s = 7 by omega)]
      simp
    · intro r hr
      refine .inl ?_
      simp only [rowsF, List.mem_cons, List.not_mem_nil, or_false] at hr
      rcases hr with rfl | rfl | rfl | rfl | rfl | rfl | rfl | rfl | rfl | rfl | rfl | rfl | rfl | rfl | rfl | rfl | rfl | rfl | rfl <;> assumption
  all_goals
    rcases e_any e with rfl | rfl | rfl | rfl | rfl | ⟨h0, h1, h2, h3, h4⟩
    all_goals
      simp [rowsF, nextF, hitF, has_all, has8, has48, has263, has56, has62, has256, has18, has2, nextI, heardI, syncedI, TornI, CalmI, *]
    all_goals
      try omega
    all_goals
      (repeat' split) <;> omega
end Go.Proofs.YtbgkhggohlbdbaaDoor
