/- A contact: pure (ConV, and what each call makes of it), and in memory: the program's (PAt) and the document's (RAt), each a block of seven cells. -/
import Derived.Test.YtfikdocpcepmmaaMsgR
import Derived.Test.YtfikdocpcepmmaaBoxE
import Derived.Deep.RegionHeld3
import Derived.Deep.RegionLaw
import Derived.Deep.DeepCutAuto
namespace Go.Proofs.Ytfikdocpcepmmaa
open Go.RowKit Go.Sort

/-- A contact: the own life, the one known; the last hello said, and heard; the state that it told; when something was heard; whether it is up. -/
structure ConV where
  life : Int
  known : Int
  said : Int
  heard : Int
  s : Int
  at_ : Int
  up : Bool
def newC (life : Int) : ConV := ⟨life, 0, 0, 0, 0, 0, false⟩
def ConV.mark (c : ConV) (m : MsgV) : MsgV := { m with life := c.life, seen := c.known }
/-- The next hello. -/
def ConV.hm (c : ConV) (n : Int) : MsgV := ⟨1, c.life, c.known, c.said + 1, n, 0, 0, ⟨#[]⟩, 0, 0, false⟩
def ConV.hello (c : ConV) (n : Int) : ConV × MsgV × Int :=
  if 0 ≤ n ∧ n ≤ 8 then if c.said = 1073741824 then (c, zeroM, 3) else ({ c with said := c.said + 1 }, c.hm n, 0) else (c, zeroM, 1)
def ConV.old (c : ConV) (m : MsgV) : Bool :=
  if m.kind = 1 then decide (m.life < c.known) || (m.life == c.known && decide (m.xid ≤ c.heard)) else m.life != c.known || (m.seen != c.life || !c.up)
/-- A hello was taken. -/
def ConV.hears (c : ConV) (m : MsgV) (now : Int) : ConV := ⟨c.life, m.life, c.said, m.xid, m.state, now, m.seen == c.life || (c.up && !decide (c.known < m.life))⟩
def inTime (now : Int) : Bool := decide (0 ≤ now) && decide (now ≤ 1099511627776)
def ConV.take (c : ConV) (m : MsgV) (now : Int) : ConV × Bool × Int :=
  if inTime now = true then
    if rightM m = true then
      if c.old m = true then (c, false, 8)
      else if m.kind = 1 then (c.hears m now, decide (c.known < m.life), 0) else ({ c with at_ := now }, false, 0)
    else (c, false, 2)
  else (c, false, 1)
def ConV.tick (c : ConV) (now : Int) : ConV × Bool × Int :=
  if inTime now = true then if (c.up && decide (6 ≤ now - c.at_)) = true then ({ c with up := false }, true, 0) else (c, false, 0) else (c, false, 1)
/-- What holds of every contact. -/
structure ConV.Ok (c : ConV) : Prop where
  s0 : 0 ≤ c.said
  s1 : c.said ≤ 1073741824
  a0 : 0 ≤ c.at_
  a1 : c.at_ ≤ 1099511627776
theorem inTime_iff (n : Int) : inTime n = true ↔ 0 ≤ n ∧ n ≤ 1099511627776 := by simp [inTime]
theorem new_okC (n : Int) : (newC n).Ok := ⟨Int.le_refl 0, (by decide : (0 : Int) ≤ 1073741824), Int.le_refl 0, (by decide : (0 : Int) ≤ 1099511627776)⟩
theorem hello_okC {c : ConV} (h : c.Ok) (n : Int) : (c.hello n).1.Ok := by
  obtain ⟨h1, h2, h3, h4⟩ := h
  unfold ConV.hello
  split
  · split
    · exact ⟨h1, h2, h3, h4⟩
    · exact ⟨by show 0 ≤ c.said + 1; omega, by show c.said + 1 ≤ _; omega, h3, h4⟩
  · exact ⟨h1, h2, h3, h4⟩
theorem take_okC {c : ConV} (h : c.Ok) (m : MsgV) (now : Int) : (c.take m now).1.Ok := by
  obtain ⟨h1, h2, h3, h4⟩ := h
  unfold ConV.take
  split
  · rename_i ht
    obtain ⟨t1, t2⟩ := (inTime_iff now).1 ht
    split
    · split
      · exact ⟨h1, h2, h3, h4⟩
      · split
        · exact ⟨h1, h2, t1, t2⟩
        · exact ⟨h1, h2, t1, t2⟩
    · exact ⟨h1, h2, h3, h4⟩
  · exact ⟨h1, h2, h3, h4⟩
theorem tick_okC {c : ConV} (h : c.Ok) (now : Int) : (c.tick now).1.Ok := by
  obtain ⟨h1, h2, h3, h4⟩ := h
  unfold ConV.tick
  split
  · split
    · exact ⟨h1, h2, h3, h4⟩
    · exact ⟨h1, h2, h3, h4⟩
  · exact ⟨h1, h2, h3, h4⟩

/-! ## In memory -/
abbrev ptrV (g : Nat) : Value := .pointer (some ⟨g, 0, none⟩)
abbrev ConV.pc (c : ConV) : Array Value := #[.int .i64 c.known, .int .i64 c.heard, .int .i64 c.s, .int .i64 c.life, .int .i64 c.said, .int .i64 c.at_, .bool c.up]
abbrev ConV.rc (c : ConV) : Array Value := #[.int .i64 c.life, .int .i64 c.known, .int .i64 c.said, .int .i64 c.heard, .int .i64 c.s, .int .i64 c.at_, .bool c.up]
/-- Block g holds these cells, of this type. -/
def CAt (t : TypeId) (w : World) (g : Nat) (cs : Array Value) : Prop := w.heap[g]? = some (.cells cs t (0, 0))
abbrev PAt (w : World) (g : Nat) (c : ConV) : Prop := CAt 61 w g c.pc
abbrev RAt (w : World) (g : Nat) (c : ConV) : Prop := CAt 39 w g c.rc
abbrev One (g : Nat) (b : Nat) : Prop := b = g
section
variable {t t' : TypeId} {w w' : World} {g k : Nat} {cs cs' : Array Value} {Q Q' : Nat → Prop}
theorem CAt.new (w : World) (t : TypeId) (cs : Array Value) : CAt t (w.alloc (.cells cs t)) w.heap.size cs := heap_alloc_new w _
theorem CAt.lt (h : CAt t w g cs) : g < w.heap.size := (Array.getElem?_eq_some_iff.1 h).1
theorem CAt.later (h : CAt t w g cs) (hb : Below w.heap.size w w') : CAt t w' g cs := (hb.block g h.lt).trans h
theorem CAt.way (h : CAt t w g cs) (hw : Way Q w Q' w') (hn : ¬ Q g) : CAt t w' g cs := (hw.oth.block g h.lt hn).trans h
theorem CAt.drew (h : CAt t w g cs) : CAt t w.drew g cs := h
theorem CAt.at_ (h : CAt t w g cs) (i : Nat) : w.cell? ⟨g, i, none⟩ = cs[i]? := cell_of_row w g i _ _ _ h
theorem CAt.free (h : CAt t w g cs) (i : Nat) : w.frozen? ⟨g, i, none⟩ = false := by
  simp [World.frozen?, (show w.heap[g]? = _ from h)]
theorem CAt.store (h : CAt t w g cs) (i : Nat) (u : Value) : CAt t (w.setCell ⟨g, i, none⟩ u) g (cs.setIfInBounds i u) := by
  unfold CAt at h ⊢
  show (w.heap.modify g _)[g]? = _
  rw [Array.getElem?_modify, if_pos rfl, h]
  rfl
theorem CAt.other (h : CAt t w g cs) {b i : Nat} (hb : g ≠ b) (u : Value) : CAt t (w.setCell ⟨b, i, none⟩ u) g cs := (Below.heap_setCell w ⟨b, i, none⟩ u g hb).trans h
/-- Blocks of unlike types are unlike. -/
theorem CAt.ne (h : CAt t w g cs) (h' : CAt t' w k cs') (ht : t ≠ t') : g ≠ k := by
  rintro rfl
  rw [CAt] at h h'
  rw [h] at h'
  injection h' with h'
  injection h' with _ h2
  exact ht h2
theorem MBox.way' {m : MsgV} (h : MBox w g m) (hw : Way Q w Q' w') (hn : ¬ Q g) : MBox w' g m := (hw.oth.block g h.lt hn).trans h
theorem MBox.cat {m : MsgV} (h : MBox w g m) : CAt 34 w g m.cells := h
end
section
variable {w : World} {g : Nat} {c : ConV}
theorem PAt.all (h : PAt w g c) : w.cell? ⟨g, 0, none⟩ = some (.int .i64 c.known) ∧ w.cell? ⟨g, 1, none⟩ = some (.int .i64 c.heard) ∧ w.cell? ⟨g, 2, none⟩ = some (.int .i64 c.s) ∧ w.cell? ⟨g, 3, none⟩ = some (.int .i64 c.life)
    ∧ w.cell? ⟨g, 4, none⟩ = some (.int .i64 c.said) ∧ w.cell? ⟨g, 5, none⟩ = some (.int .i64 c.at_) ∧ w.cell? ⟨g, 6, none⟩ = some (.bool c.up) := ⟨CAt.at_ h 0, CAt.at_ h 1, CAt.at_ h 2, CAt.at_ h 3, CAt.at_ h 4, CAt.at_ h 5, CAt.at_ h 6⟩
theorem RAt.all (h : RAt w g c) : w.cell? ⟨g, 0, none⟩ = some (.int .i64 c.life) ∧ w.cell? ⟨g, 1, none⟩ = some (.int .i64 c.known) ∧ w.cell? ⟨g, 2, none⟩ = some (.int .i64 c.said) ∧ w.cell? ⟨g, 3, none⟩ = some (.int .i64 c.heard)
    ∧ w.cell? ⟨g, 4, none⟩ = some (.int .i64 c.s) ∧ w.cell? ⟨g, 5, none⟩ = some (.int .i64 c.at_) ∧ w.cell? ⟨g, 6, none⟩ = some (.bool c.up) := ⟨CAt.at_ h 0, CAt.at_ h 1, CAt.at_ h 2, CAt.at_ h 3, CAt.at_ h 4, CAt.at_ h 5, CAt.at_ h 6⟩
end
theorem ne_pr {w : World} {g r : Nat} {c d : ConV} (h : PAt w g c) (h' : RAt w r d) : g ≠ r := CAt.ne h h' (by decide)
theorem ne_pm {w : World} {g r : Nat} {c : ConV} {m : MsgV} (h : PAt w g c) (h' : MBox w r m) : g ≠ r := CAt.ne h h'.cat (by decide)
theorem ne_rm {w : World} {g r : Nat} {c : ConV} {m : MsgV} (h : RAt w g c) (h' : MBox w r m) : g ≠ r := CAt.ne h h'.cat (by decide)
end Go.Proofs.Ytfikdocpcepmmaa
