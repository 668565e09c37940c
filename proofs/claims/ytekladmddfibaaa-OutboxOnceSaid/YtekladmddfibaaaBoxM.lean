/- The document's box in memory. -/
import Derived.Test.YtekladmddfibaaaBoxE
import Derived.Test.YtekladmddfibaaaBoxP
namespace Go.Proofs.Ytekladmddfibaaa
open Go.RowKit Go.Sort

abbrev OutV.cells (o : OutV) : Array Value := #[.int .i64 o.m.kind, .int .i64 o.m.life, .int .i64 o.m.seen, .int .i64 o.m.xid, .int .i64 o.m.state, .int .u32 (o.m.addr : Int), .int .i64 o.m.bind, .string o.m.client, .int .i64 o.m.pot, .int .i64 o.m.at_, .bool o.m.ok, .int .i64 o.sent]
/-- What is out, as elements of slices. -/
def ElemO : Elem Try.prog OutV where
  e := 92
  ty := 36
  m := 12
  bytes := 104
  zero := .agg #[.int .i64 0, .int .i64 0, .int .i64 0, .int .i64 0, .int .i64 0, .int .u32 0, .int .i64 0, .string ⟨#[]⟩, .int .i64 0, .int .i64 0, .bool false, .int .i64 0]
  cells := fun x => x.cells.toList
  hm := by decide
  hb0 := by decide
  hb := by decide
  len := fun _ => rfl
  one := fun v u hu => by
    simp at hu
    rcases hu with rfl | rfl | rfl | rfl | rfl | rfl | rfl | rfl | rfl | rfl | rfl | rfl <;> rfl
  und := Try.underlying36
  info := by kernel_rfl
  hz := rfl
theorem El.at12 {w : World} {B : Nat} {A : Option Addr} {l : List OutV} (h : El ElemO w B A l) (i : Nat) (x : OutV) (hx : l[i]? = some x) : ∃ b o, A = some ⟨b, o, none⟩ ∧ b < B ∧ MAt w b (o + i * 12) x.m ∧ w.cell? ⟨b, o + i * 12 + 11, none⟩ = some (.int .i64 x.sent) := by
  obtain ⟨b, o, h1, h2, h3⟩ := h.at_ i x hx
  exact ⟨b, o, h1, h2, ⟨h3 0 _ rfl, h3 1 _ rfl, h3 2 _ rfl, h3 3 _ rfl, h3 4 _ rfl, h3 5 _ rfl, h3 6 _ rfl, h3 7 _ rfl, h3 8 _ rfl, h3 9 _ rfl, h3 10 _ rfl⟩, h3 11 _ rfl⟩

/-- Block r is the document's box: its slices are vL and vW. -/
structure DAtB (w : World) (r : Nat) (vL vW : Value) (B : BxV) : Prop where
  box : w.heap[r]? = some (.cells #[vL, vW, .int .i64 B.xid] 39 (0, 0))
  rl : w.ownsRow (r + 1) ElemO.e ElemO.m vL B.l.length (ecells ElemO B.l)
  rw_ : w.ownsRow (r + 1) ElemM.e ElemM.m vW B.w.length (ecells ElemM B.w)
def DQ (r : Nat) (vL vW : Value) (b : Nat) : Prop := b = r ∨ vL.ownBlock = some b ∨ vW.ownBlock = some b
/-- The document's box, in the blocks Q. -/
def DB (w : World) (Q : Nat → Prop) (r : Nat) (B : BxV) : Prop := ∃ vL vW, DAtB w r vL vW B ∧ B.Ok ∧ Q = DQ r vL vW
section
variable {w w' : World} {Q : Nat → Prop} {r : Nat} {vL vW : Value} {B : BxV}
theorem DAtB.rlt (h : DAtB w r vL vW B) : r < w.heap.size := (Array.getElem?_eq_some_iff.1 h.box).1
theorem DAtB.lt (h : DAtB w r vL vW B) : ∀ b, DQ r vL vW b → b < w.heap.size := by
  rintro b (rfl | hb | hb)
  · exact h.rlt
  · exact (h.rl.lt b hb).2
  · exact (h.rw_.lt b hb).2
theorem DAtB.ge (h : DAtB w r vL vW B) : ∀ b, DQ r vL vW b → r ≤ b := by
  rintro b (rfl | hb | hb)
  · exact Nat.le_refl _
  · have := (h.rl.lt b hb).1; omega
  · have := (h.rw_.lt b hb).1; omega
theorem DAtB.keep (h : DAtB w r vL vW B) (hk : KpT (DQ r vL vW) w w') : DAtB w' r vL vW B :=
  ⟨(hk.block r (.inl rfl)).trans h.box, own_keep h.rl fun b hb => hk.block b (.inr (.inl hb)), own_keep h.rw_ fun b hb => hk.block b (.inr (.inr hb))⟩
theorem DAtB.later (h : DAtB w r vL vW B) (hb : Below w.heap.size w w') : DAtB w' r vL vW B := h.keep (KpT.of_below hb h.lt)
theorem DAtB.xid (h : DAtB w r vL vW B) : w.cell? ⟨r, 2, none⟩ = some (.int .i64 B.xid) := cell_of_row w r 2 _ _ _ h.box
theorem DAtB.free (h : DAtB w r vL vW B) (i : Nat) : w.frozen? ⟨r, i, none⟩ = false := by
  simp [World.frozen?, h.box]
/-- What is read of it. -/
theorem DAtB.readL (h : DAtB w r vL vW B) : ∃ A c, vL = .slice A B.l.length c ∧ w.cell? ⟨r, 0, none⟩ = some (.slice A B.l.length c) ∧ B.l.length ≤ c ∧ El ElemO w w.heap.size A B.l := by
  obtain ⟨A, c, rfl, hc⟩ := own_form h.rl
  have := cell_of_row w r 0 _ _ _ h.box
  exact ⟨A, c, rfl, by simpa using this, hc, El.of_own h.rl⟩
theorem DAtB.readW (h : DAtB w r vL vW B) : ∃ A c, vW = .slice A B.w.length c ∧ w.cell? ⟨r, 1, none⟩ = some (.slice A B.w.length c) ∧ B.w.length ≤ c ∧ El ElemM w w.heap.size A B.w := by
  obtain ⟨A, c, rfl, hc⟩ := own_form h.rw_
  have := cell_of_row w r 1 _ _ _ h.box
  exact ⟨A, c, rfl, by simpa using this, hc, El.of_own h.rw_⟩
theorem DB.lt (h : DB w Q r B) : ∀ b, Q b → b < w.heap.size := by
  obtain ⟨vL, vW, h, _, rfl⟩ := h
  exact h.lt
theorem DB.keep (h : DB w Q r B) (hk : KpT Q w w') : DB w' Q r B := by
  obtain ⟨vL, vW, h, hok, rfl⟩ := h
  exact ⟨vL, vW, h.keep hk, hok, rfl⟩
theorem DB.later (h : DB w Q r B) (hb : Below w.heap.size w w') : DB w' Q r B := h.keep (KpT.of_below hb h.lt)
theorem DB.ok (h : DB w Q r B) : B.Ok := by
  obtain ⟨vL, vW, _, hok, _⟩ := h
  exact hok
end
end Go.Proofs.Ytekladmddfibaaa
