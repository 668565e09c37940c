/- The program's table: a map by addresses behind a pointer: how it lies, as a list of leases. -/
import Derived.Test.YtjkkdmfpekkfhaaMapI
import Derived.Test.YtjkkdmfpekkfhaaTabP
import Derived.Test.YtjkkdmfpekkfhaaTabM
import Derived.Carry
namespace Go.Proofs.Ytjkkdmfpekkfhaa
open Go.RowKit Go.Sort Go.Maps

/-- Leases by their addresses. -/
def KL : MapKd Try.prog LV where
  t := 64
  k := 32
  e := 34
  q := .u32
  key := fun x => (x.addr : Int)
  val := LV.v
  zero := zeroL.v
  und := Try.underlying64
  uk := Try.underlying32
  hz := fun w => by kernel_rfl
theorem wf_u32 {n : Nat} (h : n < 4294967296) : (Lit.int .u32 (n : Int)).wf = true := by
  simp [Lit.wf, IntKind.min, IntKind.max, IntKind.bits, IntKind.signed]
  omega
theorem kl_is (L : List LV) (a : Nat) : KL.isM L (a : Int) = (L.any fun y => y.addr == a) := by
  unfold MapKd.isM
  congr 1
  funext y
  show decide (((y.addr : Nat) : Int) = (a : Int)) = _
  by_cases h : y.addr = a
  · rw [h, decide_eq_true rfl, beq_self_eq_true]
  · rw [decide_eq_false (by omega), beq_false_of_ne h]
theorem kl_find (L : List LV) (a : Nat) : KL.findM L (a : Int) = L.find? fun y => y.addr == a := by
  unfold MapKd.findM
  congr 1
  funext y
  show decide (((y.addr : Nat) : Int) = (a : Int)) = _
  by_cases h : y.addr = a
  · rw [h, decide_eq_true rfl, beq_self_eq_true]
  · rw [decide_eq_false (by omega), beq_false_of_ne h]
theorem kl_get (L : List LV) (a : Nat) : (KL.at_ L (a : Int) = (getL L a).1.v) ∧ (getL L a).2 = (if KL.isM L (a : Int) = true then 0 else 4) := by
  unfold MapKd.at_
  rw [kl_find, kl_is]
  unfold getL
  cases h : L.find? fun y => y.addr == a with
  | none =>
    refine ⟨rfl, ?_⟩
    rw [if_neg]
    intro h2
    obtain ⟨y, hy, he⟩ := List.any_eq_true.1 h2
    exact (List.find?_eq_none.1 h y hy) he
  | some x =>
    refine ⟨rfl, ?_⟩
    rw [if_pos]
    exact List.any_eq_true.2 ⟨x, List.mem_of_find?_eq_some h, List.find?_some (p := fun y : LV => y.addr == a) h⟩

/-- Block g is the program's table: it points to a map of the leases L. -/
def TT (w : World) (Q : Nat → Prop) (g : Nat) (L : List LV) : Prop :=
  ∃ b, w.heap[g]? = some (.cells #[.map (some b)] 66 (0, 0)) ∧ KL.Has w b L ∧ TabL L ∧ L.length ≤ 256 ∧ (∀ x ∈ L, x.addr < 4294967296) ∧ Q = fun k => k = g ∨ k = b

theorem kl_set {L : List LV} (hT : TabL L) (x : LV) (hr : RightL x) : (KL.isM L (x.addr : Int) = true → setL L x = (KL.putM L x, 0)) ∧ (KL.isM L (x.addr : Int) = false → setL L x = (L, 4)) := by
  rw [kl_is]
  unfold setL
  rw [if_pos hr]
  cases hk : idxT L x.addr with
  | none =>
    have := idx_none hk
    refine ⟨fun h => ?_, fun _ => rfl⟩
    obtain ⟨y, hy, he⟩ := List.any_eq_true.1 h
    exact absurd (eq_of_beq he) (this y hy)
  | some k =>
    obtain ⟨y, hy, he⟩ := idx_some hk
    refine ⟨fun _ => ?_, fun h => ?_⟩
    · rw [MapKd.putM_at (K := KL) x L k y (hT.up.imp fun h => Int.ofNat_lt.2 h) hy (congrArg Int.ofNat he)]
    · rw [List.any_eq_false] at h
      exact absurd (beq_iff_eq.2 he) (h y (List.mem_of_getElem? hy))
theorem setL_len (L : List LV) (x : LV) : (setL L x).1.length = L.length := by
  unfold setL
  split
  · split
    · rfl
    · simp
  · rfl
theorem setL_mem {L : List LV} {x y : LV} (h : y ∈ (setL L x).1) : y ∈ L ∨ y = x := by
  unfold setL at h
  split at h
  · split at h
    · exact .inl h
    · rcases List.mem_or_eq_of_mem_set h with h | h
      · exact .inl h
      · exact .inr h
  · exact .inl h
end Go.Proofs.Ytjkkdmfpekkfhaa
