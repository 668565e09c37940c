/- The steps: limit, Encode's closure, Decode's closure. -/
import Derived.Test.YtfikdocpcepmmaaMsgG
import Derived.Deep.RegionLaw
import Derived.Deep.RegionHeld3
import Derived.StillTailTactics
import Derived.Shelf.Abstract
import Derived.BigRegion
namespace Go.Proofs.Ytfikdocpcepmmaa
open Go.RowKit

/-- limit as a step. -/
def limS : StepF Unit := fun s n _ lo hi => (limI n lo hi, s)
def limV : Nat → (Nat → Prop) → Unit → World → Prop := fun _ P _ W => ∀ k, P k → k < W.heap.size
theorem limit_steps (base : Nat) : Steps base 28 #[] limS (fun _ => True) limV where
  enters := fun args w => enters_of Try.func28 (by kernel_rfl) rfl args w
  lt := fun h => h
  ext := fun o h k hk => by
    rcases hk with hk | hk
    · have := h k hk; simp; omega
    · simp; omega
  keep := fun h hs _ k hk => Nat.lt_of_lt_of_le (h k hk) hs
  weak := fun h hP k hk => h k (hP k hk)
  less := fun h _ => h
  call := fun {n P s W} x size lo hi h _ _ => (limit_any x size lo hi W).mono fun e w' ⟨he, hw⟩ => by
    subst hw
    exact ⟨he, h, Kp.refl _ _⟩

/-- Encode's closure as a step: the bytes of a number are put behind those that are there. -/
def encS : StepF (List UInt8) := fun l n size _ _ => (n, l ++ beL n.toNat size)
def encW (base g : Nat) (P : Nat → Prop) (l : List UInt8) (W : World) : Prop :=
  ∃ v, W.heap[g]? = some (.cells #[v] 72 (0, 0)) ∧ W.ownsRow base 5 1 v l.length (bcells l) ∧ g < base ∧ base ≤ W.heap.size ∧ ¬ P g ∧ (∀ k, P k → k < W.heap.size) ∧ (∀ k, v.ownBlock = some k → ¬ P k)
def encV (base g : Nat) : Nat → (Nat → Prop) → List UInt8 → World → Prop := fun n P l W => l.length + 8 * n ≤ 100000 ∧ encW base g P l W

theorem own_apart {w : World} {base g : Nat} {e : TypeId} {size n : Nat} {v : Value} {xs : List Value} (h : w.ownsRow base e size v n xs) (hg : g < base) : some g ≠ v.ownBlock := by
  rcases h.2 with ⟨rfl, _⟩ | ⟨b, _, _, rfl, hb, _⟩
  · simp [Value.ownBlock]
  · intro he
    injection he with he
    subst he
    omega
theorem box_grown {W w1 : World} {row : Option Nat} {g : Nat} {o : Obj} (hg : W.grownBy w1 row) (hb : W.heap[g]? = some o) (hne : some g ≠ row) : w1.heap[g]? = some o :=
  (hg.block g (Array.getElem?_eq_some_iff.1 hb).1 hne).trans hb

theorem Kp.grown {P : Nat → Prop} {w w' w'' : World} {row : Option Nat} (h : Kp P w w') (hg : w'.grownBy w'' row) (hP : ∀ k, P k → k < w'.heap.size ∧ some k ≠ row) : Kp P w w'' :=
  h.trans ⟨hg.os, hg.tape, hg.output, hg.size, fun k hk => hg.block k (hP k hk).1 (hP k hk).2⟩

theorem cell_grownBy (W : World) (g i : Nat) (u : Value) : W.grownBy (W.setCell ⟨g, i, none⟩ u) (some g) :=
  ⟨rfl, rfl, rfl, by rw [World.size_setCell]; exact Nat.le_refl _, fun k _ hk => Below.heap_setCell W _ u k (fun e => hk (by rw [e]))⟩

/-- What the closure's state is behind one byte. -/
theorem enc_next {base g : Nat} {P : Nat → Prop} {d : List UInt8} {b : UInt8} {W wr w1 : World} {v : Value} {A : Option Addr} {k : Nat} {o : Obj} (HK : Kp P W wr) (hgb : g < base) (hbs : base ≤ wr.heap.size) (hPg : ¬ P g) (hPlt : ∀ k, P k → k < wr.heap.size) (hPo : ∀ k, v.ownBlock = some k → ¬ P k)
    (hc1 : w1.heap[g]? = some (.cells #[v] 72 (0, 0))) (hown1 : w1.ownsRow base 5 1 (.slice A (d.length + 1) k) (d.length + 1) (bcells d ++ bcells [b])) (hg1 : (wr.drew.alloc o).grownBy w1 v.ownBlock) (hv1 : (Value.slice A (d.length + 1) k).ownBlock = v.ownBlock ∨ (Value.slice A (d.length + 1) k).ownBlock = some (wr.drew.alloc o).heap.size) :
    encW base g P (d ++ [b]) (w1.setCell ⟨g, 0, none⟩ (.slice A (d.length + 1) k)) ∧ Kp P W (w1.setCell ⟨g, 0, none⟩ (.slice A (d.length + 1) k)) := by
  have hsz : wr.heap.size ≤ w1.heap.size := by have := hg1.size; simp at this; omega
  have hg0 : wr.grownBy (wr.drew.alloc o) none := ⟨rfl, rfl, rfl, by simp, fun k hk _ => Below.heap_alloc wr.drew o k hk⟩
  have K1 : Kp P W w1 := (HK.grown hg0 fun k hk => ⟨hPlt k hk, by simp⟩).grown hg1 fun k hk => ⟨by have := hPlt k hk; simp; omega, fun e => hPo k e.symm hk⟩
  refine ⟨⟨.slice A (d.length + 1) k, ?_, ?_, hgb, by rw [World.size_setCell]; omega, hPg, fun k hk => by rw [World.size_setCell]; have := hPlt k hk; omega, fun k hk => ?_⟩, K1.set hPg _⟩
  · exact heap_setCell_same w1 g 0 _ _ _ hc1
  · have h := hown1.kept (cell_grownBy w1 g 0 (.slice A (d.length + 1) k)) (.inr (fun e => own_apart hown1 hgb e.symm))
    rw [List.length_append, bcells_append]
    exact h
  · rcases hv1 with h | h
    · exact hPo k (h.symm.trans hk)
    · intro hp
      have := hPlt k hp
      rw [h] at hk
      injection hk with hk
      simp at hk
      omega

/-- Decode's closure as a step: a number is taken off the bytes that are left. -/
def decS : StepF (List UInt8) := fun l _ size _ _ => if l.length < size then (0, l) else (((numL (l.take size) : Nat) : Int), l.drop size)
def decV (base g : Nat) : Nat → (Nat → Prop) → List UInt8 → World → Prop := fun _ P l W =>
  ∃ A c, W.heap[g]? = some (.cells #[.slice A l.length c] 72 (0, 0)) ∧ By W g A l ∧ l.length ≤ c ∧ g < base ∧ base ≤ W.heap.size ∧ ¬ P g ∧ (∀ k, P k → k < W.heap.size)

end Go.Proofs.Ytfikdocpcepmmaa
