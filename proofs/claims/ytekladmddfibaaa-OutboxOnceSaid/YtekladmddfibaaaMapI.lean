/- A range over a map with integer keys inside a fence: the iterator and its steps; what a loop's round keeps of some blocks and of all walks. (Names no function and no type of the program.) -/
import Derived.Test.YtekladmddfibaaaMapG
import Derived.Maps.OwnIn
import Derived.RangeFuncNested
import Derived.RangeFuncBound
import Derived.RangeFuncCalls
import Derived.RangeFuncLeaves
import Derived.RangeFuncBox
import Derived.Shelf.Abstract
import Derived.Shelf.RegionOpen
import Derived.OwnWalkIn
import Derived.TacticsInMore
import Derived.LoopNIn
import Derived.LoopIn
namespace Go.Proofs.Ytekladmddfibaaa
open Go.Maps Go.RowKit

section
variable {P : Program} {V : Type} (K : MapKd P V) {w w' : World} {b r : Nat} {L R : List V}
theorem MapKd.Goes.walks (h : K.Goes w b r L R) (hk : KeepsWalks w w') : K.Goes w' b r L R := by
  obtain ⟨⟨cnt, h1⟩, h2, h3, h4⟩ := h
  exact ⟨⟨cnt, h1.of_walks hk⟩, h2, h3, h4⟩
theorem MapKd.Goes.walk (h : K.Goes w b r L R) : ∃ o : Obj, w.heap[r]? = some o ∧ o.isWalk = true := by
  obtain ⟨⟨cnt, h1⟩, _⟩ := h
  exact h1.iter_walk
theorem MapKd.Goes.left_walks (h : K.Goes w b r L R) (hk : KeepsWalks w w') : w'.rangeLeft b r = w.rangeLeft b r := by
  obtain ⟨⟨cnt, h1⟩, _⟩ := h
  rw [h1.left_eq, (h1.of_walks hk).left_eq]

section
variable {F : Fence} {n : Nat} {ops : Array Oper} {rest : List Oper} {o : Oper} {a : Act} {Q : Exit → Act → World → Prop}
theorem wpListIn_rangeM (h : K.Has w b L) (hg : o.guard = none) (m : Operand) (hop : o.op = Op.range K.t m) (hm : a.eval m = .map (some b))
    (hK : ∀ w', K.Goes w' b w.heap.size L L → w.grownBy w' none → w'.heap.size = w.heap.size + 1 → wpListIn F n P ops Q rest (a.put o.dst (.pointer (some ⟨w.heap.size, 0, none⟩))) w') : wpListIn F n P ops Q (o :: rest) a w :=
  wpListIn_range_own w hg m K.t hop K.k K.e K.keyed K.und rdV b L.length (K.dat L) hm h.1 (fun w' h1 h2 h3 => by
    have e : Maps.has (K.dat L) = K.leftM L := by
      funext z
      unfold MapKd.dat MapKd.leftM
      rw [Maps.has_eq, List.any_map]
      rfl
    rw [e] at h1
    exact hK w' ⟨⟨_, h1⟩, h.2, fun _ hx => hx, h.2.up.imp fun h => Int.ne_of_lt h⟩ h2 h3)
theorem wpListIn_nextM (h : K.Goes w b r L R) (hg : o.guard = none) (it : Operand) (hop : o.op = Op.next it false) (hit : a.eval it = .pointer (some ⟨r, 0, none⟩))
    (hDone : R = [] → wpListIn F n P ops Q rest (a.put o.dst (.tuple #[.bool false])) w)
    (hMore : ∀ (x : V) (R1 R2 : List V) (w' : World), R = R1 ++ x :: R2 → K.Goes w' b r L (R1 ++ R2) → w.grownBy w' (some r) → w'.heap.size = w.heap.size → (Instr.entry (.pointer (some ⟨r, 0, none⟩))).run P w' = .ok (.tuple #[.int K.q (K.key x), K.val x]) w' → w'.rangeLeft b r < w.rangeLeft b r →
      wpListIn F n P ops Q rest (a.put o.dst (.tuple #[.bool true, .int K.q (K.key x), K.val x])) w') : wpListIn F n P ops Q (o :: rest) a w := by
  obtain ⟨⟨cnt, hr⟩, hu, hsub, hnd⟩ := h
  refine wpListIn_next_ranges w hg it hop K.k K.keyed rdV (Value.int K.q) id (fun key kl hkey => by obtain ⟨x, rfl, _⟩ := Maps.keyOf_int_inv K.uk hkey; exact ⟨x, rfl⟩) (fun v y _ => ⟨v, rfl⟩) b r L.length (K.dat L) (K.leftM R) cnt hit hr ?_ ?_
  · intro _ h0
    refine hDone ?_
    cases R with
    | nil => rfl
    | cons x s =>
      have := h0 (K.lit (K.key x))
      simp [MapKd.leftM, K.same] at this
  · intro n v kl y w' cnt' hkey hl hv hat hrg hlt hg2 hsz hen
    obtain ⟨n', en, rfl, hwn⟩ := Maps.keyOf_int_inv K.uk hkey
    injection en with _ en
    subst en
    obtain ⟨x, hx, hxk⟩ := List.any_eq_true.1 hl
    have hxn : K.key x = n := by
      rw [show Lit.int K.q n = K.lit n from rfl, K.same] at hxk
      exact of_decide_eq_true hxk
    subst hxn
    have hval : v = K.val x := by
      have h1 := hat (.held K.zero)
      rw [show Lit.int K.q (K.key x) = K.lit (K.key x) from rfl, K.at_dat] at h1
      have h2 : y.1 = .held v := by
        simp only [rdV, id, Option.some.injEq] at hv
        rw [← hv]
      rw [h2] at h1
      injection h1 with h1
      rw [← h1]
      unfold MapKd.at_ MapKd.findM
      cases hf : L.find? fun y => decide (K.key y = K.key x) with
      | none => exact absurd (List.find?_eq_none.1 hf x (hsub x hx)) (by simp)
      | some z =>
        have hz := List.find?_some hf
        simp at hz
        rw [MapKd.key_inj hu (List.mem_of_find?_eq_some hf) (hsub x hx) hz]
    subst hval
    obtain ⟨R1, R2, hR⟩ := List.append_of_mem hx
    subst hR
    refine hMore x R1 R2 w' rfl ⟨⟨cnt', ?_⟩, hu, fun z hz => hsub z (by rcases List.mem_append.1 hz with h | h <;> simp [h]), ?_⟩ hg2 hsz hen (by rw [hr.left_eq, hrg.left_eq]; exact hlt)
    · have e : (fun z => K.leftM (R1 ++ x :: R2) z && !z.sameKey (Lit.int K.q (K.key x))) = K.leftM (R1 ++ R2) := by
        rw [List.pairwise_append, List.pairwise_cons] at hnd
        obtain ⟨_, ⟨h2, _⟩, h3⟩ := hnd
        funext z
        unfold MapKd.leftM
        simp only [List.any_append, List.any_cons]
        by_cases hz : z = K.lit (K.key x)
        · subst hz
          rw [show Lit.int K.q (K.key x) = K.lit (K.key x) from rfl]
          simp only [K.same]
          have a1 : (R1.any fun y => decide (K.key y = K.key x)) = false := by
            rw [List.any_eq_false]
            intro y hy
            have := h3 y hy x (by simp)
            simpa using this
          have a2 : (R2.any fun y => decide (K.key y = K.key x)) = false := by
            rw [List.any_eq_false]
            intro y hy
            have := h2 y hy
            simpa using fun e => this e.symm
          rw [a1, a2]
          simp
        · rw [Maps.sameKey_ne (show z ≠ Lit.int K.q (K.key x) from hz), Maps.sameKey_ne (show K.lit (K.key x) ≠ z from fun e => hz e.symm)]
          simp
      rw [← e]
      exact hrg
    · rw [List.pairwise_append, List.pairwise_cons] at hnd
      obtain ⟨h1, ⟨h2, h3⟩, h4⟩ := hnd
      exact List.pairwise_append.2 ⟨h1, h3, fun y hy z hz => h4 y hy z (by simp [hz])⟩
end
end

/-! ### what a round keeps: some blocks, and all walks -/
/-- The blocks of S, and all maps and their iterators, lie as they lay. -/
structure KpI (S : Nat → Prop) (V V' : World) : Prop where
  walks : KeepsWalks V V'
  block : ∀ k, S k → V'.heap[k]? = V.heap[k]?
section
variable {S : Nat → Prop} {A B C V V' : World}
theorem KpI.refl (V : World) : KpI S V V := ⟨KeepsWalks.refl _, fun _ _ => rfl⟩
theorem kpi_t (h : KpI S A B) (k : KpI S B C) : KpI S A C := ⟨h.walks.trans k.walks, fun i hi => (k.block i hi).trans (h.block i hi)⟩
theorem kpi_b {w : World} (hS : ∀ k, S k → k < w.heap.size) (W : World) (l : Nat) (o o' : Obj) (hl : w.heap.size ≤ l) (h : W.heap[l]? = some o) (_ : o.isCells = false) (hw : o.isWalk = false) : KpI S W (W.putObj l o') :=
  ⟨KeepsWalks.putObj _ h hw, fun k hk => World.putObj_heap_other (by have := hS k hk; omega)⟩
theorem KpI.grown {row : Option Nat} (h : KpI S V V') (hg : V'.grownBy C row) (hS : ∀ k, S k → k < V'.heap.size) (hr : ∀ g, row = some g → ¬ S g ∧ ∀ o : Obj, V'.heap[g]? = some o → o.isWalk = false) : KpI S V C :=
  ⟨h.walks.trans (KeepsWalks.of_grownBy hg fun j o e ho => (hr j e).2 o ho), fun k hk => (hg.block k (hS k hk) (fun e => (hr k e.symm).1 hk)).trans (h.block k hk)⟩
theorem KpI.lt (h : KpI S V V') (hS : ∀ k, S k → k < V.heap.size) : ∀ k, S k → k < V'.heap.size := fun k hk => Nat.lt_of_lt_of_le (hS k hk) h.walks.size
end
theorem grown_of_belowI {V V' : World} (hb : Below V.heap.size V V') : V.grownBy V' none := ⟨hb.os, hb.tape, hb.output, hb.size, fun i hi _ => hb.block i hi⟩
theorem wideI {m : Nat} {P : Program} {f : FuncId} {args : Array Value} {w : World} {R : Ending → World → Prop} (h : Calls P f args w R) : CallsIn Fence.wide m P f args w R := callsIn_wide.2 h
end Go.Proofs.Ytekladmddfibaaa
