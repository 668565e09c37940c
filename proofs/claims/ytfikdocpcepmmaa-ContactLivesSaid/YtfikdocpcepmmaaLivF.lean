/- ContactLives: LivS told by an index that is 0 or 1. Written by wip/tools/genlivf.py. -/
import Derived.Test.YtfikdocpcepmmaaLivM
namespace Go.Proofs.Ytfikdocpcepmmaa
open Go.RowKit Go.Sort

/-- An index, and the other one. -/
def K2 (i o : Nat) : Prop := i = 0 ∧ o = 1 ∨ i = 1 ∧ o = 0
def upd {α : Type} (f : Nat → α) (i : Nat) (y : α) : Nat → α := fun n => if n = i then y else f n
theorem upd_same {α : Type} (f : Nat → α) (i : Nat) (y : α) : upd f i y i = y := if_pos rfl
/-- What was heard, as the law keeps it. -/
def hk (af : Nat → ConV) : Nat → Int × Int := fun i => ((af i).known, (af i).heard)
theorem hk_same {af : Nat → ConV} {i : Nat} {c : ConV} (h1 : c.known = (af i).known) (h2 : c.heard = (af i).heard) : hk (upd af i c) = hk af := by
  funext n
  unfold hk upd
  by_cases hn : n = i
  · subst hn; simp [h1, h2]
  · simp [hn]
theorem hk_upd (af : Nat → ConV) (i : Nat) (c : ConV) : hk (upd af i c) = upd (hk af) i (c.known, c.heard) := by
  funext n
  unfold hk upd
  by_cases hn : n = i
  · subst hn; simp
  · simp [hn]

/-- What holds of both. -/
def LivG (j : Nat) (af : Nat → ConV) (lf : Nat → Int) (Sf : Nat → List MsgV) : Prop := ∀ i o, K2 i o → LivH (af i) (lf i) (lf o) (Sf i) j
section
variable {j i o : Nat} {af : Nat → ConV} {lf : Nat → Int} {Sf : Nat → List MsgV} {c : ConV} {S' : List MsgV}
theorem LivG.more (h : LivG j af lf Sf) : LivG (j + 1) af lf Sf := fun i o hi => (h i o hi).more
theorem LivG.said_ (h : LivG j af lf Sf) (hi : K2 i o) (h1 : LivH c (lf i) (lf o) S' (j + 1)) : LivG (j + 1) (upd af i c) lf (upd Sf i S') := by
  rcases hi with ⟨rfl, rfl⟩ | ⟨rfl, rfl⟩
  · rintro p q (⟨rfl, rfl⟩ | ⟨rfl, rfl⟩)
    · exact h1
    · exact (h 1 0 (.inr ⟨rfl, rfl⟩)).more
  · rintro p q (⟨rfl, rfl⟩ | ⟨rfl, rfl⟩)
    · exact (h 0 1 (.inl ⟨rfl, rfl⟩)).more
    · exact h1
theorem LivG.con (h : LivG j af lf Sf) (hi : K2 i o) (h1 : LivH c (lf i) (lf o) (Sf i) (j + 1)) : LivG (j + 1) (upd af i c) lf Sf := by
  rcases hi with ⟨rfl, rfl⟩ | ⟨rfl, rfl⟩
  · rintro p q (⟨rfl, rfl⟩ | ⟨rfl, rfl⟩)
    · exact h1
    · exact (h 1 0 (.inr ⟨rfl, rfl⟩)).more
  · rintro p q (⟨rfl, rfl⟩ | ⟨rfl, rfl⟩)
    · exact (h 0 1 (.inl ⟨rfl, rfl⟩)).more
    · exact h1
theorem LivG.mark (h : LivG j af lf Sf) (hi : K2 i o) (h1 : LivH (af i) (lf i) (lf o) S' (j + 1)) : LivG (j + 1) af lf (upd Sf i S') := by
  rcases hi with ⟨rfl, rfl⟩ | ⟨rfl, rfl⟩
  · rintro p q (⟨rfl, rfl⟩ | ⟨rfl, rfl⟩)
    · exact h1
    · exact (h 1 0 (.inr ⟨rfl, rfl⟩)).more
  · rintro p q (⟨rfl, rfl⟩ | ⟨rfl, rfl⟩)
    · exact (h 0 1 (.inl ⟨rfl, rfl⟩)).more
    · exact h1
theorem LivG.anew (h : LivG j af lf Sf) (hi : K2 i o) : LivG (j + 1) (upd af i (newC (lf i + 1))) (upd lf i (lf i + 1)) Sf := by
  rcases hi with ⟨rfl, rfl⟩ | ⟨rfl, rfl⟩
  · have ha := h 0 1 (.inl ⟨rfl, rfl⟩)
    have hb := h 1 0 (.inr ⟨rfl, rfl⟩)
    rintro p q (⟨rfl, rfl⟩ | ⟨rfl, rfl⟩)
    · exact ha.anew hb.l1
    · exact (hb.lo (by show lf 0 ≤ lf 0 + 1; omega)).more
  · have ha := h 0 1 (.inl ⟨rfl, rfl⟩)
    have hb := h 1 0 (.inr ⟨rfl, rfl⟩)
    rintro p q (⟨rfl, rfl⟩ | ⟨rfl, rfl⟩)
    · exact (ha.lo (by show lf 1 ≤ lf 1 + 1; omega)).more
    · exact hb.anew ha.l1
end

/-- Both contacts, both lists and the arrays, by the index. -/
def LivF (w0 w : World) (bx bl bs bh : Nat) (gf : Nat → Nat) (af : Nat → ConV) (lf : Nat → Int) (hf : Nat → Int × Int) (vf : Nat → Value) (Sf : Nat → List MsgV) : Prop :=
  LivS w0 w (gf 0) (gf 1) bx bl bs bh (af 0) (af 1) (lf 0) (lf 1) (hf 0).1 (hf 0).2 (hf 1).1 (hf 1).2 (vf 0) (vf 1) (Sf 0) (Sf 1)
section
variable {w0 w w' : World} {bx bl bs bh i o g' : Nat} {gf : Nat → Nat} {af : Nat → ConV} {lf : Nat → Int} {hf : Nat → Int × Int} {vf : Nat → Value} {Sf : Nat → List MsgV} {c : ConV} {v' : Value} {S' : List MsgV}
theorem LivF.low (h : LivF w0 w bx bl bs bh gf af lf hf vf Sf) : Below w0.heap.size w0 w := LivS.low h
theorem LivF.later (h : LivF w0 w bx bl bs bh gf af lf hf vf Sf) (hb : Below w.heap.size w w') : LivF w0 w' bx bl bs bh gf af lf hf vf Sf := LivS.later h hb
theorem LivF.drew (h : LivF w0 w bx bl bs bh gf af lf hf vf Sf) : LivF w0 w.drew bx bl bs bh gf af lf hf vf Sf := LivS.drew h
theorem LivF.drewN (h : LivF w0 w bx bl bs bh gf af lf hf vf Sf) (n : Nat) : LivF w0 (w.drewN n) bx bl bs bh gf af lf hf vf Sf := LivS.drewN h n
theorem LivF.p (h : LivF w0 w bx bl bs bh gf af lf hf vf Sf) (hi : K2 i o) : PAt w (gf i) (af i) := by
  rcases hi with ⟨rfl, rfl⟩ | ⟨rfl, rfl⟩
  · exact LivS.pa h
  · exact LivS.pb h
theorem LivF.cx (h : LivF w0 w bx bl bs bh gf af lf hf vf Sf) (hi : K2 i o) : w.cell? ⟨bx, i, none⟩ = some (ptrV (gf i)) := by
  rcases hi with ⟨rfl, rfl⟩ | ⟨rfl, rfl⟩
  · exact (LivS.x h).at_ 0
  · exact (LivS.x h).at_ 1
theorem LivF.cl (h : LivF w0 w bx bl bs bh gf af lf hf vf Sf) (hi : K2 i o) : w.cell? ⟨bl, i, none⟩ = some (i6 (lf i)) := by
  rcases hi with ⟨rfl, rfl⟩ | ⟨rfl, rfl⟩
  · exact (LivS.l h).at_ 0
  · exact (LivS.l h).at_ 1
theorem LivF.cs (h : LivF w0 w bx bl bs bh gf af lf hf vf Sf) (hi : K2 i o) : w.cell? ⟨bs, i, none⟩ = some (vf i) := by
  rcases hi with ⟨rfl, rfl⟩ | ⟨rfl, rfl⟩
  · exact (LivS.s h).at_ 0
  · exact (LivS.s h).at_ 1
theorem LivF.ch0 (h : LivF w0 w bx bl bs bh gf af lf hf vf Sf) (hi : K2 i o) : w.cell? ⟨bh, i * 2, none⟩ = some (i6 (hf i).1) := by
  rcases hi with ⟨rfl, rfl⟩ | ⟨rfl, rfl⟩
  · exact (LivS.h h).at_ 0
  · exact (LivS.h h).at_ 2
theorem LivF.ch1 (h : LivF w0 w bx bl bs bh gf af lf hf vf Sf) (hi : K2 i o) : w.cell? ⟨bh, i * 2 + 1, none⟩ = some (i6 (hf i).2) := by
  rcases hi with ⟨rfl, rfl⟩ | ⟨rfl, rfl⟩
  · exact (LivS.h h).at_ 1
  · exact (LivS.h h).at_ 3
theorem LivF.row (h : LivF w0 w bx bl bs bh gf af lf hf vf Sf) (hi : K2 i o) : w.ownsRow w0.heap.size ElemM.e ElemM.m (vf i) (Sf i).length (ecells ElemM (Sf i)) := by
  rcases hi with ⟨rfl, rfl⟩ | ⟨rfl, rfl⟩
  · exact LivS.r0 h
  · exact LivS.r1 h
theorem LivF.not (h : LivF w0 w bx bl bs bh gf af lf hf vf Sf) (hi : K2 i o) : (vf i).ownBlock ≠ some w.heap.size := by
  rcases hi with ⟨rfl, rfl⟩ | ⟨rfl, rfl⟩
  · exact LivS.not0 h
  · exact LivS.not1 h
theorem LivF.con (h : LivF w0 w bx bl bs bh gf af lf hf vf Sf) (hi : K2 i o) (hp : PAt w' (gf i) c) (hw : Way (One (gf i)) w (One (gf i)) w') : LivF w0 w' bx bl bs bh gf (upd af i c) lf hf vf Sf := by
  rcases hi with ⟨rfl, rfl⟩ | ⟨rfl, rfl⟩
  · exact LivS.con0 h hp hw
  · exact LivS.con1 h hp hw
theorem LivF.setL (h : LivF w0 w bx bl bs bh gf af lf hf vf Sf) (hi : K2 i o) (n : Int) : LivF w0 (w.setCell ⟨bl, i, none⟩ (i6 n)) bx bl bs bh gf af (upd lf i n) hf vf Sf := by
  rcases hi with ⟨rfl, rfl⟩ | ⟨rfl, rfl⟩
  · exact LivS.setL0 h n
  · exact LivS.setL1 h n
theorem LivF.setX (h : LivF w0 w bx bl bs bh gf af lf hf vf Sf) (hi : K2 i o) (hp : PAt w g' c) (hn : g' ≠ gf o) (hg : w0.heap.size ≤ g') : LivF w0 (w.setCell ⟨bx, i, none⟩ (ptrV g')) bx bl bs bh (upd gf i g') (upd af i c) lf hf vf Sf := by
  rcases hi with ⟨rfl, rfl⟩ | ⟨rfl, rfl⟩
  · exact LivS.setX0 h hp hn hg
  · exact LivS.setX1 h hp hn hg
theorem LivF.setH (h : LivF w0 w bx bl bs bh gf af lf hf vf Sf) (hi : K2 i o) (n n' : Int) : LivF w0 ((w.setCell ⟨bh, i * 2, none⟩ (i6 n)).setCell ⟨bh, i * 2 + 1, none⟩ (i6 n')) bx bl bs bh gf af lf (upd hf i (n, n')) vf Sf := by
  rcases hi with ⟨rfl, rfl⟩ | ⟨rfl, rfl⟩
  · exact LivS.setH1 (LivS.setH0 h n) n'
  · exact LivS.setH3 (LivS.setH2 h n) n'
theorem LivF.grow (h : LivF w0 w bx bl bs bh gf af lf hf vf Sf) (hi : K2 i o) (hr : RowE ElemM w0 w' v' S') (hg : w.grownBy w' (vf i).ownBlock) (hb : v'.ownBlock = (vf i).ownBlock ∨ v'.ownBlock = some w.heap.size) : LivF w0 (w'.setCell ⟨bs, i, none⟩ v') bx bl bs bh gf af lf hf (upd vf i v') (upd Sf i S') := by
  rcases hi with ⟨rfl, rfl⟩ | ⟨rfl, rfl⟩
  · exact LivS.grow0 h hr hg hb
  · exact LivS.grow1 h hr hg hb
theorem LivF.kpM {z : Nat} {m0 : MsgV} (h : LivF w0 w bx bl bs bh gf af lf hf vf Sf) (hz : MBox w z m0) (n0 : (vf 0).ownBlock ≠ some z) (n1 : (vf 1).ownBlock ≠ some z) (hw : w0.heap.size ≤ z) (q : MsgV) : LivF w0 (storeM w z q) bx bl bs bh gf af lf hf vf Sf := LivS.kpM h hz n0 n1 hw q
theorem LivF.fx (h : LivF w0 w bx bl bs bh gf af lf hf vf Sf) (n : Nat) : w.frozen? ⟨bx, n, none⟩ = false := (LivS.x h).free n
theorem LivF.ltx (h : LivF w0 w bx bl bs bh gf af lf hf vf Sf) : bx < w.heap.size := (LivS.x h).lt
theorem LivF.fl (h : LivF w0 w bx bl bs bh gf af lf hf vf Sf) (n : Nat) : w.frozen? ⟨bl, n, none⟩ = false := (LivS.l h).free n
theorem LivF.ltl (h : LivF w0 w bx bl bs bh gf af lf hf vf Sf) : bl < w.heap.size := (LivS.l h).lt
theorem LivF.fs (h : LivF w0 w bx bl bs bh gf af lf hf vf Sf) (n : Nat) : w.frozen? ⟨bs, n, none⟩ = false := (LivS.s h).free n
theorem LivF.lts (h : LivF w0 w bx bl bs bh gf af lf hf vf Sf) : bs < w.heap.size := (LivS.s h).lt
theorem LivF.fh (h : LivF w0 w bx bl bs bh gf af lf hf vf Sf) (n : Nat) : w.frozen? ⟨bh, n, none⟩ = false := (LivS.h h).free n
theorem LivF.lth (h : LivF w0 w bx bl bs bh gf af lf hf vf Sf) : bh < w.heap.size := (LivS.h h).lt
theorem LivF.grownS (h : LivF w0 w bx bl bs bh gf af lf hf vf Sf) (hi : K2 i o) (hg : w.grownBy w' (vf i).ownBlock) : w'.cell? ⟨bs, i, none⟩ = some (vf i) ∧ w'.frozen? ⟨bs, i, none⟩ = false := by
  rcases hi with ⟨rfl, rfl⟩ | ⟨rfl, rfl⟩
  · exact ⟨(cat_grown (LivS.s h) (LivS.r0 h) (by decide) hg).at_ 0, (cat_grown (LivS.s h) (LivS.r0 h) (by decide) hg).free 0⟩
  · exact ⟨(cat_grown (LivS.s h) (LivS.r1 h) (by decide) hg).at_ 1, (cat_grown (LivS.s h) (LivS.r1 h) (by decide) hg).free 1⟩
theorem LivF.ge (h : LivF w0 w bx bl bs bh gf af lf hf vf Sf) (hi : K2 i o) : w0.heap.size ≤ gf i := by
  rcases hi with ⟨rfl, rfl⟩ | ⟨rfl, rfl⟩
  · exact LivS.ga h
  · exact LivS.gb h
end
end Go.Proofs.Ytfikdocpcepmmaa
