/- The program's box: its three maps, as functions of their keys; how it lies in memory (TBt, TB). -/
import Derived.Test.YtekladmddfibaaaBoxM
import Derived.Test.YtekladmddfibaaaMapD
import Derived.Carry
namespace Go.Proofs.Ytekladmddfibaaa
open Go.RowKit Go.Sort Go.Maps

theorem wf_u32o {a : Nat} (h : a < 4294967296) : (Lit.int IntKind.u32 (a : Int)).wf = true := by
  simp [Lit.wf, IntKind.min, IntKind.max, IntKind.bits, IntKind.signed]; omega
/-- What is outstanding, by numbers. -/
def FS : FnKd Try.prog Int Nat where
  K := {
    t := 66
    k := 3
    e := 87
    q := .i64
    key := fun p => p.1
    val := fun p => .pointer (some ⟨p.2, 0, none⟩)
    zero := .pointer none
    und := Try.underlying66
    uk := Try.underlying3
    hz := fun w => by kernel_rfl }
  kof := fun x => x
  vof := fun p => .pointer (some ⟨p, 0, none⟩)
  inj := fun a b h => h
  hk := fun _ => rfl
  hv := fun _ => rfl
/-- The numbers of what is outstanding, by addresses. -/
def FN : FnKd Try.prog Nat Int where
  K := {
    t := 52
    k := 29
    e := 3
    q := .u32
    key := fun p => (p.1 : Int)
    val := fun p => .int .i64 p.2
    zero := .int .i64 0
    und := Try.underlying52
    uk := Try.underlying29
    hz := fun w => by kernel_rfl }
  kof := fun a => (a : Int)
  vof := fun n => .int .i64 n
  inj := fun a b h => by have h : (a : Int) = (b : Int) := h; omega
  hk := fun _ => rfl
  hv := fun _ => rfl
/-- What waits, by addresses. -/
def FW : FnKd Try.prog Nat MsgV where
  K := {
    t := 67
    k := 29
    e := 31
    q := .u32
    key := fun p => (p.1 : Int)
    val := fun p => p.2.v
    zero := zeroM.v
    und := Try.underlying67
    uk := Try.underlying29
    hz := fun w => by kernel_rfl }
  kof := fun a => (a : Int)
  vof := fun m => m.v
  inj := fun a b h => by have h : (a : Int) = (b : Int) := h; omega
  hk := fun _ => rfl
  hv := fun _ => rfl

/-! ### what the maps hold -/
def sF (l : List OutV) (P : Int → Nat) : Int → Option Nat := fun x => if (l.any fun o => o.m.xid == x) = true then some (P x) else none
def nF (l : List OutV) : Nat → Option Int := fun a => (l.find? fun o => o.m.addr == a).map fun o => o.m.xid
def wF (W : List MsgV) : Nat → Option MsgV := fun a => W.find? fun m => m.addr == a
/-- When it was sent, as the program keeps it. -/
def atO (o : OutV) : Int := if o.sent < 0 then -3 else o.sent
def setP (P : Int → Nat) (x : Int) (p : Nat) : Int → Nat := fun y => if y = x then p else P y

theorem sF_iff {l : List OutV} {P : Int → Nat} {x : Int} {p : Nat} : sF l P x = some p ↔ (∃ o ∈ l, o.m.xid = x) ∧ P x = p := by
  unfold sF
  by_cases h : (l.any fun o => o.m.xid == x) = true
  · rw [if_pos h, Option.some.injEq]
    rw [List.any_eq_true] at h
    obtain ⟨o, ho, e⟩ := h
    exact ⟨fun e2 => ⟨⟨o, ho, by simpa using e⟩, e2⟩, fun e2 => e2.2⟩
  · rw [if_neg h]
    constructor
    · intro e; cases e
    · rintro ⟨⟨o, ho, e⟩, -⟩
      exact absurd (List.any_eq_true.2 ⟨o, ho, by simpa using e⟩) h
theorem sF_none {l : List OutV} {P : Int → Nat} {x : Int} : sF l P x = none ↔ ∀ o ∈ l, o.m.xid ≠ x := by
  constructor
  · intro h o ho e
    have h2 : sF l P x = some (P x) := sF_iff.2 ⟨⟨o, ho, e⟩, rfl⟩
    rw [h] at h2
    cases h2
  · intro h
    cases h1 : sF l P x with
    | none => rfl
    | some p =>
      obtain ⟨⟨o, ho, e⟩, -⟩ := sF_iff.1 h1
      exact absurd e (h o ho)
theorem nF_is (B : BxV) (a : Nat) : (nF B.l a).isSome = B.out a := by
  unfold nF BxV.out
  rw [Option.isSome_map, Bool.eq_iff_iff, List.find?_isSome, List.any_eq_true]
theorem nF_some {l : List OutV} {a : Nat} {x : Int} (h : nF l a = some x) : ∃ o ∈ l, o.m.addr = a ∧ o.m.xid = x := by
  unfold nF at h
  obtain ⟨o, ho, rfl⟩ := Option.map_eq_some_iff.1 h
  exact ⟨o, List.mem_of_find?_eq_some ho, by simpa using List.find?_some ho, rfl⟩
theorem wF_some {W : List MsgV} {a : Nat} {m : MsgV} (h : wF W a = some m) : m ∈ W ∧ m.addr = a := ⟨List.mem_of_find?_eq_some h, by simpa using List.find?_some h⟩
theorem wF_none {W : List MsgV} {a : Nat} (h : wF W a = none) : ∀ m ∈ W, m.addr ≠ a := fun m hm => by simpa using List.find?_eq_none.1 h m hm
theorem sF_map (l : List OutV) (P : Int → Nat) (f : OutV → OutV) (hf : ∀ o, (f o).m = o.m) : sF (l.map f) P = sF l P := by
  funext x
  unfold sF
  rw [List.any_map]
  congr 2
  refine congrArg (fun q => l.any q) (funext fun o => ?_)
  show ((f o).m.xid == x) = _
  rw [hf]
theorem nF_map (l : List OutV) (f : OutV → OutV) (hf : ∀ o, (f o).m = o.m) : nF (l.map f) = nF l := by
  funext a
  unfold nF
  rw [List.find?_map, Option.map_map, show ((fun o : OutV => o.m.addr == a) ∘ f) = fun o => o.m.addr == a from funext fun o => by show ((f o).m.addr == a) = _; rw [hf]]
  congr 1
  funext o
  show (f o).m.xid = _
  rw [hf]

/-! ### what a call makes of them -/
theorem wF_strike {W1 W2 : List MsgV} {m : MsgV} (ho : (W1 ++ m :: W2).Pairwise fun m n => m.addr ≠ n.addr) : wF (W1 ++ W2) = delF (wF (W1 ++ m :: W2)) m.addr := by
  rw [List.pairwise_append, List.pairwise_cons] at ho
  obtain ⟨-, ⟨h2, -⟩, h1⟩ := ho
  funext a
  unfold delF wF
  by_cases ha : a = m.addr
  · rw [if_pos ha, List.find?_eq_none]
    intro y hy
    rcases List.mem_append.1 hy with hy | hy
    · have := h1 y hy m (by simp)
      rw [ha]; simpa using this
    · have := h2 y hy
      rw [ha]; simpa using fun e => this e.symm
  · rw [if_neg ha, List.find?_append, List.find?_append, List.find?_cons_of_neg (by simpa using fun e => ha e.symm)]
theorem nF_add {B : BxV} {o : OutV} (h : B.out o.m.addr = false) : nF (B.l ++ [o]) = putF (nF B.l) o.m.addr o.m.xid := by
  funext a
  unfold putF nF
  rw [List.find?_append]
  by_cases ha : a = o.m.addr
  · rw [if_pos ha, ha, List.find?_eq_none.2 (fun y hy => by simpa using out_no h y hy)]
    simp
  · rw [if_neg ha, List.find?_cons_of_neg (by simpa using fun e => ha e.symm)]
    simp
theorem sF_add {l : List OutV} {P : Int → Nat} {o : OutV} {p : Nat} : sF (l ++ [o]) (setP P o.m.xid p) = putF (sF l P) o.m.xid p := by
  funext x
  unfold putF
  by_cases hx : x = o.m.xid
  · rw [if_pos hx]
    exact sF_iff.2 ⟨⟨o, by simp, hx.symm⟩, by unfold setP; rw [if_pos hx]⟩
  · rw [if_neg hx]
    unfold sF setP
    rw [List.any_append, if_neg hx]
    have : ([o].any fun o => o.m.xid == x) = false := by simpa using fun e => hx e.symm
    rw [this, Bool.or_false]
theorem wF_put (W : List MsgV) (m : MsgV) : wF (W.filter (fun y => y.addr != m.addr) ++ [m]) = putF (wF W) m.addr m := by
  funext a
  unfold putF wF
  by_cases ha : a = m.addr
  · rw [if_pos ha, List.find?_append, List.find?_eq_none.2 (fun y hy => by have := (List.mem_filter.1 hy).2; rw [ha]; simpa using this)]
    simp [ha]
  · rw [if_neg ha, List.find?_append, List.find?_cons_of_neg (by simpa using fun e => ha e.symm), List.find?_nil, Option.or_none, find_filter_keep]
    intro y hy
    have : y.addr = a := by simpa using hy
    rw [this]; simpa using ha
theorem sF_strike {L1 L2 : List OutV} {P : Int → Nat} {o : OutV} (hr : (L1 ++ o :: L2).Pairwise fun o p => o.m.xid < p.m.xid) : sF (L1 ++ L2) P = delF (sF (L1 ++ o :: L2) P) o.m.xid := by
  rw [List.pairwise_append, List.pairwise_cons] at hr
  obtain ⟨-, ⟨h2, -⟩, h1⟩ := hr
  funext x
  unfold delF
  by_cases hx : x = o.m.xid
  · rw [if_pos hx, sF_none]
    intro y hy
    rcases List.mem_append.1 hy with hy | hy
    · have := h1 y hy o (by simp); omega
    · have := h2 y hy; omega
  · rw [if_neg hx]
    unfold sF
    have : (o.m.xid == x) = false := by simpa using fun e => hx e.symm
    rw [List.any_append, List.any_append, List.any_cons, this, Bool.false_or]
theorem nF_strike {L1 L2 : List OutV} {o : OutV} (ho : (L1 ++ o :: L2).Pairwise fun o p => o.m.addr ≠ p.m.addr) : nF (L1 ++ L2) = delF (nF (L1 ++ o :: L2)) o.m.addr := by
  rw [List.pairwise_append, List.pairwise_cons] at ho
  obtain ⟨-, ⟨h2, -⟩, h1⟩ := ho
  funext a
  unfold delF nF
  by_cases ha : a = o.m.addr
  · rw [if_pos ha, Option.map_eq_none_iff, List.find?_eq_none]
    intro y hy
    rcases List.mem_append.1 hy with hy | hy
    · have := h1 y hy o (by simp)
      rw [ha]; simpa using this
    · have := h2 y hy
      rw [ha]; simpa using fun e => this e.symm
  · rw [if_neg ha, List.find?_append, List.find?_append, List.find?_cons_of_neg (by simpa using fun e => ha e.symm)]

/-! ### how it lies -/
/-- Block p is an update that is outstanding. -/
def UBox (w : World) (p : Nat) (o : OutV) : Prop := w.heap[p]? = some (.cells o.cells 89 (0, 0))
def atV (o : OutV) : OutV := ⟨o.m, atO o⟩
section
variable {w w' : World} {p : Nat} {o : OutV}
theorem UBox.lt (h : UBox w p o) : p < w.heap.size := (Array.getElem?_eq_some_iff.1 h).1
theorem UBox.c (h : UBox w p o) (i : Nat) : w.cell? ⟨p, i, none⟩ = o.cells[i]? := cell_of_row w p i _ _ _ h
theorem UBox.all (h : UBox w p o) : MAt w p 0 o.m ∧ w.cell? ⟨p, 11, none⟩ = some (.int .i64 o.sent) := ⟨⟨h.c 0, h.c 1, h.c 2, h.c 3, h.c 4, h.c 5, h.c 6, h.c 7, h.c 8, h.c 9, h.c 10⟩, h.c 11⟩
theorem UBox.free (h : UBox w p o) (i : Nat) : w.frozen? ⟨p, i, none⟩ = false := by
  simp [World.frozen?, (show w.heap[p]? = _ from h)]
theorem UBox.block (h : UBox w p o) (hb : w'.heap[p]? = w.heap[p]?) : UBox w' p o := hb.trans h
theorem UBox.mark (h : UBox w p o) (t : Int) : UBox (w.setCell ⟨p, 11, none⟩ (.int .i64 t)) p ⟨o.m, t⟩ := by
  unfold UBox at h ⊢
  show (w.heap.modify p _)[p]? = _
  rw [Array.getElem?_modify, if_pos rfl, h]
  rfl
end

/-- Block g is the program's box: its maps are bS, bN, bW; the update with the number x is block P x. -/
structure TBt (w : World) (g bS bN bW : Nat) (P : Int → Nat) (B : BxV) : Prop where
  box : w.heap[g]? = some (.cells #[.map (some bS), .map (some bN), .map (some bW), .int .i64 B.xid] 69 (0, 0))
  s : FS.Holds w bS (sF B.l P)
  n : FN.Holds w bN (nF B.l)
  w_ : FW.Holds w bW (wF B.w)
  at_ : ∀ o ∈ B.l, UBox w (P o.m.xid) (atV o)
  inj : ∀ o ∈ B.l, ∀ q ∈ B.l, P o.m.xid = P q.m.xid → o.m.xid = q.m.xid
  sn : bS ≠ bN
  sw : bS ≠ bW
  nw : bN ≠ bW
def TQ (g bS bN bW : Nat) (P : Int → Nat) (l : List OutV) (k : Nat) : Prop := k = g ∨ k = bS ∨ k = bN ∨ k = bW ∨ ∃ o ∈ l, k = P o.m.xid
/-- The program's box, in the blocks Q. -/
def TB (w : World) (Q : Nat → Prop) (g : Nat) (B : BxV) : Prop := ∃ bS bN bW P, TBt w g bS bN bW P B ∧ B.Ok ∧ Q = TQ g bS bN bW P B.l
theorem FnKd.Holds.is {P : Program} {κ X : Type} {F : FnKd P κ X} {w : World} {b : Nat} {f : κ → Option X} (h : F.Holds w b f) : ∃ es clock, w.heap[b]? = some (.map es clock) := by
  obtain ⟨S, ⟨⟨es, clock, h1, -⟩, -⟩, -⟩ := h.ex
  exact ⟨es, clock, h1⟩
/-- A block of cells is no map's. -/
theorem FnKd.Holds.ne {P : Program} {κ X : Type} {F : FnKd P κ X} {w : World} {b k : Nat} {f : κ → Option X} {cs : Array Value} {t : TypeId} {fr : Nat × Nat} (h : F.Holds w b f) (hk : w.heap[k]? = some (.cells cs t fr)) : k ≠ b := by
  obtain ⟨es, clock, h1⟩ := h.is
  intro e
  rw [e, h1] at hk
  cases hk
section
variable {w w' : World} {Q : Nat → Prop} {g bS bN bW : Nat} {P : Int → Nat} {B : BxV}
theorem TBt.glt (h : TBt w g bS bN bW P B) : g < w.heap.size := (Array.getElem?_eq_some_iff.1 h.box).1
theorem TBt.lt (h : TBt w g bS bN bW P B) : ∀ k, TQ g bS bN bW P B.l k → k < w.heap.size := by
  rintro k (rfl | rfl | rfl | rfl | ⟨o, ho, rfl⟩)
  · exact h.glt
  · exact h.s.lt
  · exact h.n.lt
  · exact h.w_.lt
  · exact (h.at_ o ho).lt
theorem TBt.keep (h : TBt w g bS bN bW P B) (hk : KpT (TQ g bS bN bW P B.l) w w') : TBt w' g bS bN bW P B :=
  ⟨(hk.block g (.inl rfl)).trans h.box, h.s.block (hk.block _ (.inr (.inl rfl))), h.n.block (hk.block _ (.inr (.inr (.inl rfl)))), h.w_.block (hk.block _ (.inr (.inr (.inr (.inl rfl))))),
    fun o ho => (h.at_ o ho).block (hk.block _ (.inr (.inr (.inr (.inr ⟨o, ho, rfl⟩))))), h.inj, h.sn, h.sw, h.nw⟩
theorem TBt.later (h : TBt w g bS bN bW P B) (hb : Below w.heap.size w w') : TBt w' g bS bN bW P B := h.keep (KpT.of_below hb h.lt)
theorem TBt.ug (h : TBt w g bS bN bW P B) {o : OutV} (ho : o ∈ B.l) : P o.m.xid ≠ g := by
  intro e
  have h1 := h.at_ o ho
  unfold UBox at h1
  rw [e, h.box] at h1
  injection h1 with h1
  injection h1 with _ h1
  exact absurd h1 (by decide)
theorem TBt.x (h : TBt w g bS bN bW P B) : w.cell? ⟨g, 3, none⟩ = some (.int .i64 B.xid) := cell_of_row w g 3 _ _ _ h.box
theorem TBt.cS (h : TBt w g bS bN bW P B) : w.cell? ⟨g, 0, none⟩ = some (.map (some bS)) := cell_of_row w g 0 _ _ _ h.box
theorem TBt.cN (h : TBt w g bS bN bW P B) : w.cell? ⟨g, 1, none⟩ = some (.map (some bN)) := cell_of_row w g 1 _ _ _ h.box
theorem TBt.cW (h : TBt w g bS bN bW P B) : w.cell? ⟨g, 2, none⟩ = some (.map (some bW)) := cell_of_row w g 2 _ _ _ h.box
theorem TBt.free (h : TBt w g bS bN bW P B) (i : Nat) : w.frozen? ⟨g, i, none⟩ = false := by simp [World.frozen?, h.box]
theorem TB.lt (h : TB w Q g B) : ∀ k, Q k → k < w.heap.size := by
  obtain ⟨bS, bN, bW, P, h, _, rfl⟩ := h
  exact h.lt
theorem TB.keep (h : TB w Q g B) (hk : KpT Q w w') : TB w' Q g B := by
  obtain ⟨bS, bN, bW, P, h, hok, rfl⟩ := h
  exact ⟨bS, bN, bW, P, h.keep hk, hok, rfl⟩
end
end Go.Proofs.Ytekladmddfibaaa
