/- What a call leaves alone: sets of blocks that are changed (OthT), that are kept (KpT); a call that changes its own blocks alone, or what it makes (Way). (Names no function and no type of the program. Cut out of TabK and StoM, which import it.) -/
import Derived.Test.YtfikdocpcepmmaaGenR
namespace Go.Proofs.Ytfikdocpcepmmaa
open Go.RowKit

/-- A change of the blocks P, or of what is made by it, alone. -/
structure OthT (P : Nat → Prop) (w w' : World) : Prop where
  os : w'.os = w.os
  tape : w'.tape = w.tape
  output : w'.output = w.output
  size : w.heap.size ≤ w'.heap.size
  block : ∀ k, k < w.heap.size → ¬ P k → w'.heap[k]? = w.heap[k]?
/-- What keeps the blocks P. -/
structure KpT (P : Nat → Prop) (w w' : World) : Prop where
  os : w'.os = w.os
  tape : w'.tape = w.tape
  output : w'.output = w.output
  size : w.heap.size ≤ w'.heap.size
  block : ∀ k, P k → w'.heap[k]? = w.heap[k]?
section
variable {wB w w' : World} {P P' : Nat → Prop}
theorem OthT.below (h : OthT P w w') (hlo : ∀ k, P k → wB.heap.size ≤ k) (hb : Below wB.heap.size wB w) : Below wB.heap.size wB w' :=
  ⟨h.os.trans hb.os, h.tape.trans hb.tape, h.output.trans hb.output, Nat.le_trans hb.size h.size, fun k hk => (h.block k (Nat.lt_of_lt_of_le hk hb.size) (fun hp => by have := hlo k hp; omega)).trans (hb.block k hk)⟩
theorem KpT.of_below (h : Below w.heap.size w w') (hlt : ∀ k, P k → k < w.heap.size) : KpT P w w' := ⟨h.os, h.tape, h.output, h.size, fun k hk => h.block k (hlt k hk)⟩
theorem KpT.of_grown {row : Option Nat} (h : w.grownBy w' row) (hlt : ∀ k, P k → k < w.heap.size) (hr : ∀ k, row = some k → ¬ P k) : KpT P w w' := ⟨h.os, h.tape, h.output, h.size, fun k hk => h.block k (hlt k hk) (fun e => hr k e.symm hk)⟩
end

/-! ## What a call leaves alone -/
/-- A call changes the blocks Q alone, or what it makes; they are Q' then. -/
structure Way (Q : Nat → Prop) (w : World) (Q' : Nat → Prop) (w' : World) : Prop where
  oth : OthT Q w w'
  new : ∀ b, Q' b → Q b ∨ w.heap.size ≤ b
section
variable {Q Q' Q'' : Nat → Prop} {w w' w'' : World}
theorem OthT.trans' (h : OthT Q w w') (hn : ∀ b, Q' b → Q b ∨ w.heap.size ≤ b) (k : OthT Q' w' w'') : OthT Q w w'' :=
  ⟨k.os.trans h.os, k.tape.trans h.tape, k.output.trans h.output, Nat.le_trans h.size k.size, fun b hb hq => (k.block b (Nat.lt_of_lt_of_le hb h.size) (fun hq' => by
    rcases hn b hq' with h1 | h1
    · exact hq h1
    · omega)).trans (h.block b hb hq)⟩
theorem Way.trans (h : Way Q w Q' w') (k : Way Q' w' Q'' w'') : Way Q w Q'' w'' :=
  ⟨h.oth.trans' h.new k.oth, fun b hb => by
    rcases k.new b hb with h1 | h1
    · exact h.new b h1
    · exact .inr (Nat.le_trans h.oth.size h1)⟩
theorem OthT.of_low (h : Below w.heap.size w w') : OthT Q w w' := ⟨h.os, h.tape, h.output, h.size, fun b hb _ => h.block b hb⟩
theorem Way.of_below (h : Below w.heap.size w w') : Way Q w Q w' := ⟨OthT.of_low h, fun _ hb => .inl hb⟩
theorem Way.refl (Q : Nat → Prop) (w : World) : Way Q w Q w := Way.of_below (Below.refl _ _)
theorem Way.size (h : Way Q w Q' w') : w.heap.size ≤ w'.heap.size := h.oth.size
/-- All below is as it was, if the blocks lie above. -/
theorem Way.below {B : Nat} (h : Way Q w Q' w') (hB : B ≤ w.heap.size) (hQ : ∀ b, Q b → B ≤ b) : Below B w w' :=
  ⟨h.oth.os, h.oth.tape, h.oth.output, h.oth.size, fun b hb => h.oth.block b (Nat.lt_of_lt_of_le hb hB) (fun hq => by have := hQ b hq; omega)⟩
theorem Way.low {B : Nat} (h : Way Q w Q' w') (hB : B ≤ w.heap.size) (hQ : ∀ b, Q b → B ≤ b) : ∀ b, Q' b → B ≤ b := fun b hb => by
  rcases h.new b hb with h1 | h1
  · exact hQ b h1
  · omega
/-- What lies apart is kept, and stays apart. -/
theorem Way.kp {P : Nat → Prop} (h : Way Q w Q' w') (hP : ∀ b, P b → b < w.heap.size) (ha : ∀ b, P b → ¬ Q b) : KpT P w w' :=
  ⟨h.oth.os, h.oth.tape, h.oth.output, h.oth.size, fun b hb => h.oth.block b (hP b hb) (ha b hb)⟩
theorem Way.apart {P : Nat → Prop} (h : Way Q w Q' w') (hP : ∀ b, P b → b < w.heap.size) (ha : ∀ b, P b → ¬ Q b) : ∀ b, P b → ¬ Q' b := fun b hb hq => by
  rcases h.new b hq with h1 | h1
  · exact ha b hb h1
  · have := hP b hb; omega
theorem Way.wide {Q0 Q1 : Nat → Prop} (h : Way Q w Q' w') (h0 : ∀ b, Q b → Q0 b) (h1 : ∀ b, Q1 b → Q0 b ∨ w.heap.size ≤ b) : Way Q0 w Q1 w' :=
  ⟨⟨h.oth.os, h.oth.tape, h.oth.output, h.oth.size, fun b hb hq => h.oth.block b hb (fun hq' => hq (h0 b hq'))⟩, h1⟩
end

theorem way_set (w : World) {Q : Nat → Prop} (b i : Nat) (u : Value) (hQ : Q b) : Way Q w Q (w.setCell ⟨b, i, none⟩ u) :=
  ⟨⟨rfl, rfl, rfl, by rw [World.size_setCell]; exact Nat.le_refl _, fun k _ hk => Below.heap_setCell w ⟨b, i, none⟩ u k (fun e => hk (e ▸ hQ))⟩, fun _ h => .inl h⟩
end Go.Proofs.Ytfikdocpcepmmaa
