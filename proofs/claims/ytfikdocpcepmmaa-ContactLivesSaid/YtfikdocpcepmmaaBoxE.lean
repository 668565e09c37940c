/- Messages as elements of slices; a slice's elements where other blocks are changed. -/
import Derived.Test.YtfikdocpcepmmaaMsgM
import Derived.Test.YtfikdocpcepmmaaWayM
import Derived.Lib.QuietBelow
import Derived.BigQuiet
import Derived.Deep.QuietTactic
import Derived.BigRegion
namespace Go.Proofs.Ytfikdocpcepmmaa
open Go.RowKit

/-- Messages as elements of slices. -/
def ElemM : Elem Try.prog MsgV where
  e := 34
  ty := 45
  m := 11
  bytes := 96
  zero := .agg #[.int .i64 0, .int .i64 0, .int .i64 0, .int .i64 0, .int .i64 0, .int .u32 0, .int .i64 0, .string ⟨#[]⟩, .int .i64 0, .int .i64 0, .bool false]
  cells := fun x => x.cells.toList
  hm := by decide
  hb0 := by decide
  hb := by decide
  len := fun _ => rfl
  one := fun v u hu => by
    simp at hu
    rcases hu with rfl | rfl | rfl | rfl | rfl | rfl | rfl | rfl | rfl | rfl | rfl <;> rfl
  und := Try.underlying45
  info := by kernel_rfl
  hz := rfl

/-- A message's cells from o on in block b. -/
def MAt (w : World) (b o : Nat) (m : MsgV) : Prop :=
  w.cell? ⟨b, o, none⟩ = some (.int .i64 m.kind) ∧ w.cell? ⟨b, o + 1, none⟩ = some (.int .i64 m.life) ∧ w.cell? ⟨b, o + 2, none⟩ = some (.int .i64 m.seen) ∧ w.cell? ⟨b, o + 3, none⟩ = some (.int .i64 m.xid) ∧ w.cell? ⟨b, o + 4, none⟩ = some (.int .i64 m.state) ∧ w.cell? ⟨b, o + 5, none⟩ = some (.int .u32 (m.addr : Int)) ∧ w.cell? ⟨b, o + 6, none⟩ = some (.int .i64 m.bind) ∧ w.cell? ⟨b, o + 7, none⟩ = some (.string m.client) ∧ w.cell? ⟨b, o + 8, none⟩ = some (.int .i64 m.pot) ∧ w.cell? ⟨b, o + 9, none⟩ = some (.int .i64 m.at_) ∧ w.cell? ⟨b, o + 10, none⟩ = some (.bool m.ok)
section
variable {w w' : World} {B : Nat} {A : Option Addr} {l : List MsgV}
theorem El.at11 (h : El ElemM w B A l) (i : Nat) (x : MsgV) (hx : l[i]? = some x) : ∃ b o, A = some ⟨b, o, none⟩ ∧ b < B ∧ MAt w b (o + i * 11) x := by
  obtain ⟨b, o, h1, h2, h3⟩ := h.at_ i x hx
  exact ⟨b, o, h1, h2, h3 0 _ rfl, h3 1 _ rfl, h3 2 _ rfl, h3 3 _ rfl, h3 4 _ rfl, h3 5 _ rfl, h3 6 _ rfl, h3 7 _ rfl, h3 8 _ rfl, h3 9 _ rfl, h3 10 _ rfl⟩
end
section
variable {P : Program} {V : Type} {E : Elem P V} {w w' : World} {B : Nat} {A : Option Addr} {l : List V} {Q : Nat → Prop}
/-- A slice's elements are kept where other blocks are changed. -/
theorem El.oth_ (h : El E w B A l) (hB : B ≤ w.heap.size) (ho : OthT Q w w') (ha : ∀ b o, A = some ⟨b, o, none⟩ → ¬ Q b) : El E w' B A l :=
  ⟨fun i x hx => by
    obtain ⟨b, o, e, hb, h1⟩ := h.at_ i x hx
    exact ⟨b, o, e, hb, fun k u hu => (World.cell?_of_block (ho.block b (Nat.lt_of_lt_of_le hb hB) (ha b o e))).trans (h1 k u hu)⟩⟩
/-- A row of its own is kept where its block is. -/
theorem own_keep {base : Nat} {e : TypeId} {m n : Nat} {v : Value} {xs : List Value} (h : w.ownsRow base e m v n xs) (hk : ∀ b, v.ownBlock = some b → w'.heap[b]? = w.heap[b]?) : w'.ownsRow base e m v n xs := by
  refine ⟨h.1, ?_⟩
  rcases h.2 with h1 | ⟨g, cap, cur, rfl, hb, hh, r⟩
  · exact .inl h1
  · exact .inr ⟨g, cap, cur, rfl, hb, (hk g rfl).trans hh, r⟩
theorem own_less {base b' : Nat} {e : TypeId} {m n : Nat} {v : Value} {xs : List Value} (h : w.ownsRow base e m v n xs) (hb : b' ≤ base) : w.ownsRow b' e m v n xs := by
  refine ⟨h.1, ?_⟩
  rcases h.2 with h1 | ⟨g, cap, cur, rfl, hb', r⟩
  · exact .inl h1
  · exact .inr ⟨g, cap, cur, rfl, Nat.le_trans hb hb', r⟩
/-- A block of another type is not the row's. -/
theorem own_other {base : Nat} {e : TypeId} {m n : Nat} {v : Value} {xs : List Value} (h : w.ownsRow base e m v n xs) {g : Nat} {cs : Array Value} {t : TypeId} {fr : Nat × Nat} (hg : w.heap[g]? = some (.cells cs t fr)) (ht : t ≠ e) : v.ownBlock ≠ some g := by
  rcases h.2 with ⟨rfl, _⟩ | ⟨g1, _, _, rfl, _, hh1, _⟩
  · simp [Value.ownBlock]
  · intro e
    simp [Value.ownBlock] at e
    subst e
    rw [hh1] at hg
    injection hg with hg
    injection hg with _ h2
    exact ht h2.symm
/-- Two rows of unlike types lie apart. -/
theorem own_apart2 {b1 b2 : Nat} {e1 e2 : TypeId} {m1 m2 n1 n2 : Nat} {v1 v2 : Value} {x1 x2 : List Value} (h1 : w.ownsRow b1 e1 m1 v1 n1 x1) (h2 : w.ownsRow b2 e2 m2 v2 n2 x2) (ht : e1 ≠ e2) : ∀ b, v1.ownBlock = some b → v2.ownBlock ≠ some b := by
  intro b hb
  rcases h1.2 with ⟨rfl, _⟩ | ⟨g1, _, _, rfl, _, hh1, _⟩
  · simp [Value.ownBlock] at hb
  · simp [Value.ownBlock] at hb
    subst hb
    exact own_other h2 hh1 ht
end
end Go.Proofs.Ytfikdocpcepmmaa
