/- A set of addresses as a map of them, in the program's memory. -/
import Derived.Test.YtiapmnedbjmmhaaPooA
import Derived.Test.YtiapmnedbjmmhaaMapG
namespace Go.Proofs.Ytiapmnedbjmmhaa
open Go.RowKit Go.Sort Go.Maps

/-- Maps of addresses to truths, all true. -/
def KA : MapKd Try.prog Nat where
  t := 39
  k := 41
  e := 4
  q := .u32
  key := fun a => (a : Int)
  val := fun _ => .bool true
  zero := .bool false
  und := Try.underlying39
  uk := Try.underlying41
  hz := fun w => by simp [go_sem]
theorem ka_is (L : List Nat) (a : Nat) : KA.isM L (a : Int) = decide (a ∈ L) := by
  unfold MapKd.isM
  rw [Bool.eq_iff_iff, List.any_eq_true, decide_eq_true_eq]
  constructor
  · rintro ⟨x, hx, h⟩
    have h : (x : Int) = (a : Int) := of_decide_eq_true h
    have : x = a := by omega
    rwa [← this]
  · intro h
    exact ⟨a, h, decide_eq_true rfl⟩
theorem ka_at (L : List Nat) (a : Nat) : KA.at_ L (a : Int) = .bool (decide (a ∈ L)) := by
  unfold MapKd.at_ MapKd.findM
  by_cases h : a ∈ L
  · cases hf : L.find? (fun x => decide (KA.key x = (a : Int))) with
    | none => exact absurd (decide_eq_true (rfl : KA.key a = (a : Int))) (List.find?_eq_none.1 hf a h)
    | some x => rw [decide_eq_true h]; rfl
  · rw [List.find?_eq_none.2 ?_, decide_eq_false h]
    · rfl
    · intro x hx he
      have he : (x : Int) = (a : Int) := of_decide_eq_true he
      have : x = a := by omega
      exact h (this ▸ hx)
theorem ka_put {L : List Nat} {x y : Nat} : y ∈ KA.putM L x ↔ y = x ∨ y ∈ L := by
  unfold MapKd.putM
  rw [MapKd.mem_insM, List.mem_filter]
  constructor
  · rintro (h | ⟨h, _⟩)
    · exact .inl h
    · exact .inr h
  · rintro (h | h)
    · exact .inl h
    · by_cases e : y = x
      · exact .inl e
      · refine .inr ⟨h, decide_eq_true ?_⟩
        show ¬ (y : Int) = (x : Int)
        omega
theorem ka_put_len (L : List Nat) (x : Nat) : (KA.putM L x).length ≤ L.length + 1 := by
  have h : ∀ l : List Nat, (KA.insM x l).length = l.length + 1 := by
    intro l
    induction l with
    | nil => rfl
    | cons y r ih =>
      rw [MapKd.insM]
      split
      · rfl
      · rw [List.length_cons, ih, List.length_cons]
  unfold MapKd.putM
  rw [h]
  have := List.length_filter_le (fun y => decide (KA.key y ≠ KA.key x)) L
  omega
/-- Block b holds the set of the addresses that P tells, n at most. -/
structure SetA (w : World) (b : Nat) (l : List Nat) : Prop where
  ex : ∃ S, KA.Has w b S ∧ S.length ≤ l.length ∧ ∀ a, a ∈ S ↔ a ∈ l
theorem SetA.made (w : World) : SetA (w.alloc (.map #[] 0)) w.heap.size [] := ⟨[], MapKd.Has.made w, Nat.le_refl _, fun _ => Iff.rfl⟩
theorem SetA.drewN {w : World} {b : Nat} {l : List Nat} (h : SetA w b l) (n : Nat) : SetA (w.drewN n) b l := by
  obtain ⟨S, h1, h2, h3⟩ := h.ex
  exact ⟨S, h1.block rfl, h2, h3⟩
theorem SetA.later {w w' : World} {b : Nat} {l : List Nat} (h : SetA w b l) (hb : Below w.heap.size w w') : SetA w' b l := by
  obtain ⟨S, h1, h2, h3⟩ := h.ex
  exact ⟨S, h1.block (hb.block b h1.lt), h2, h3⟩
theorem SetA.lt {w : World} {b : Nat} {l : List Nat} (h : SetA w b l) : b < w.heap.size := by
  obtain ⟨S, h1, _⟩ := h.ex
  exact h1.lt
theorem wf32 {a : Nat} (h : a < 4294967296) : (Lit.int IntKind.u32 (a : Int)).wf = true := by
  simp [Lit.wf, IntKind.min, IntKind.max, IntKind.bits, IntKind.signed]; omega
/-- What is looked up. -/
theorem SetA.look {w : World} {b : Nat} {l : List Nat} (h : SetA w b l) {a : Nat} (ha : a < 4294967296) : (Instr.lookup 39 (.map (some b)) (.int .u32 (a : Int)) false).run Try.prog w = .ok (.bool (decide (a ∈ l))) w := by
  obtain ⟨S, h1, _, h3⟩ := h.ex
  have h4 := h1.look (a : Int) (wf32 ha)
  rw [ka_at, decide_eq_decide.2 (h3 a)] at h4
  exact h4
/-- What is put. -/
theorem SetA.put {w : World} {b : Nat} {l : List Nat} (h : SetA w b l) {a : Nat} (ha : a < 4294967296) (hl : l.length ≤ 100000) : ∃ w', (Instr.mapUpdate 39 (.map (some b)) (.int .u32 (a : Int)) (.bool true)).run Try.prog w = .ok () w' ∧ SetA w' b (l ++ [a]) ∧ w.grownBy w' (some b) := by
  obtain ⟨S, h1, h2, h3⟩ := h.ex
  obtain ⟨w', r1, r2, r3⟩ := h1.store (by unfold maxLen; omega) a (wf32 ha)
  refine ⟨w', r1, ⟨KA.putM S a, r2, ?_, fun x => ?_⟩, r3⟩
  · have := ka_put_len S a
    rw [List.length_append, List.length_singleton]
    omega
  · rw [ka_put, h3, List.mem_append, List.mem_singleton]
    exact Or.comm
end Go.Proofs.Ytiapmnedbjmmhaa
