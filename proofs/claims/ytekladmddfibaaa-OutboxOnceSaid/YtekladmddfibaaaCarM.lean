/- The program's box beside three maps of the call's own, a list that Tick answered beside both. -/
import Derived.Test.YtekladmddfibaaaLawOAns
import Derived.Test.YtekladmddfibaaaBoxR
namespace Go.Proofs.Ytekladmddfibaaa
open Go.RowKit Go.Sort Go.Maps

/-- Maps of addresses to numbers. -/
def KI : FnKd Try.prog Nat Int where
  K := {
    t := 52
    k := 29
    e := 3
    q := .u32
    key := fun p => (p.1 : Int)
    val := fun p => .int .i64 p.2
    zero := .int .i64 0
    und := Try.underlying52
    uk := Try.underlying29
    hz := fun w => by simp [go_sem] }
  kof := fun a => (a : Int)
  vof := fun n => .int .i64 n
  inj := fun a b h => by have h : (a : Int) = (b : Int) := h; omega
  hk := fun _ => rfl
  hv := fun _ => rfl
theorem wf_u32 {a : Nat} (h : a < 4294967296) : (Lit.int IntKind.u32 (a : Int)).wf = true := by
  simp [Lit.wf, IntKind.min, IntKind.max, IntKind.bits, IntKind.signed]; omega
theorem ki_val (o : Option Int) : KI.valF o = .int .i64 (o.getD 0) := by cases o <;> rfl

/-- The box and three maps. -/
structure Car3 {κ1 X1 κ2 X2 κ3 X3 : Type} (T : World → (Nat → Prop) → Nat → BxV → Prop) (F1 : FnKd Try.prog κ1 X1) (F2 : FnKd Try.prog κ2 X2) (F3 : FnKd Try.prog κ3 X3) (w0 w : World) (Q : Nat → Prop) (g : Nat) (B : BxV)
    (b1 b2 b3 : Nat) (f1 : κ1 → Option X1) (f2 : κ2 → Option X2) (f3 : κ3 → Option X3) : Prop where
  c : CarT T w0 w Q g B
  m1 : F1.Holds w b1 f1
  m2 : F2.Holds w b2 f2
  m3 : F3.Holds w b3 f3
  l1 : w0.heap.size ≤ b1
  l2 : w0.heap.size ≤ b2
  l3 : w0.heap.size ≤ b3
  q1 : ¬ Q b1
  q2 : ¬ Q b2
  q3 : ¬ Q b3
  n12 : b1 ≠ b2
  n13 : b1 ≠ b3
  n23 : b2 ≠ b3
section
variable {κ1 X1 κ2 X2 κ3 X3 : Type} {T : World → (Nat → Prop) → Nat → BxV → Prop} {F1 : FnKd Try.prog κ1 X1} {F2 : FnKd Try.prog κ2 X2} {F3 : FnKd Try.prog κ3 X3} {w0 w w' : World} {Q Q' : Nat → Prop} {g : Nat} {B B' : BxV}
  {b1 b2 b3 : Nat} {f1 : κ1 → Option X1} {f2 : κ2 → Option X2} {f3 : κ3 → Option X3}
theorem Car3.later (K : BoxK T) (h : Car3 T F1 F2 F3 w0 w Q g B b1 b2 b3 f1 f2 f3) (hb : Below w.heap.size w w') : Car3 T F1 F2 F3 w0 w' Q g B b1 b2 b3 f1 f2 f3 :=
  ⟨h.c.later K hb, h.m1.later hb h.m1.lt, h.m2.later hb h.m2.lt, h.m3.later hb h.m3.lt, h.l1, h.l2, h.l3, h.q1, h.q2, h.q3, h.n12, h.n13, h.n23⟩
theorem Car3.way (h : Car3 T F1 F2 F3 w0 w Q g B b1 b2 b3 f1 f2 f3) (h1 : T w' Q' g B') (hw : Way Q w Q' w') : Car3 T F1 F2 F3 w0 w' Q' g B' b1 b2 b3 f1 f2 f3 := by
  have key : ∀ b, b < w.heap.size → ¬ Q b → ¬ Q' b := fun b hb hq hq' => by
    rcases hw.new b hq' with h2 | h2
    · exact hq h2
    · omega
  exact ⟨h.c.way h1 hw, h.m1.block (hw.oth.block b1 h.m1.lt h.q1), h.m2.block (hw.oth.block b2 h.m2.lt h.q2), h.m3.block (hw.oth.block b3 h.m3.lt h.q3), h.l1, h.l2, h.l3,
    key b1 h.m1.lt h.q1, key b2 h.m2.lt h.q2, key b3 h.m3.lt h.q3, h.n12, h.n13, h.n23⟩
theorem CarT.grown (K : BoxK T) (h : CarT T w0 w Q g B) {b : Nat} (hg : w.grownBy w' (some b)) (hb : ¬ Q b) (hl : w0.heap.size ≤ b) : CarT T w0 w' Q g B :=
  ⟨K.keep h.t (KpT.of_grown hg (K.lt h.t) fun k e hk => by injection e with e; exact hb (e ▸ hk)), h.low.grown hg h.low.size (fun k e => by injection e with e; omega), h.q⟩
theorem Car3.put1 [DecidableEq κ1] (K : BoxK T) (h : Car3 T F1 F2 F3 w0 w Q g B b1 b2 b3 f1 f2 f3) (k : κ1) (x : X1) (hwf : (Lit.int F1.K.q (F1.kof k)).wf = true) (h0 : 0 ≤ F1.kof k) (hn : F1.kof k < 4294967296) :
    ∃ w', (Instr.mapUpdate F1.K.t (.map (some b1)) (.int F1.K.q (F1.kof k)) (F1.vof x)).run Try.prog w = .ok () w' ∧ Car3 T F1 F2 F3 w0 w' Q g B b1 b2 b3 (putF f1 k x) f2 f3 ∧ w.grownBy w' (some b1) := by
  obtain ⟨w', r1, r2, r3⟩ := h.m1.put k x hwf h0 hn
  exact ⟨w', r1, ⟨h.c.grown K r3 h.q1 h.l1, r2, h.m2.kept r3 (fun e => h.n12 (Option.some.inj e).symm), h.m3.kept r3 (fun e => h.n13 (Option.some.inj e).symm), h.l1, h.l2, h.l3, h.q1, h.q2, h.q3, h.n12, h.n13, h.n23⟩, r3⟩
theorem Car3.put2 [DecidableEq κ2] (K : BoxK T) (h : Car3 T F1 F2 F3 w0 w Q g B b1 b2 b3 f1 f2 f3) (k : κ2) (x : X2) (hwf : (Lit.int F2.K.q (F2.kof k)).wf = true) (h0 : 0 ≤ F2.kof k) (hn : F2.kof k < 4294967296) :
    ∃ w', (Instr.mapUpdate F2.K.t (.map (some b2)) (.int F2.K.q (F2.kof k)) (F2.vof x)).run Try.prog w = .ok () w' ∧ Car3 T F1 F2 F3 w0 w' Q g B b1 b2 b3 f1 (putF f2 k x) f3 ∧ w.grownBy w' (some b2) := by
  obtain ⟨w', r1, r2, r3⟩ := h.m2.put k x hwf h0 hn
  exact ⟨w', r1, ⟨h.c.grown K r3 h.q2 h.l2, h.m1.kept r3 (fun e => h.n12 (Option.some.inj e)), r2, h.m3.kept r3 (fun e => h.n23 (Option.some.inj e).symm), h.l1, h.l2, h.l3, h.q1, h.q2, h.q3, h.n12, h.n13, h.n23⟩, r3⟩
theorem Car3.put3 [DecidableEq κ3] (K : BoxK T) (h : Car3 T F1 F2 F3 w0 w Q g B b1 b2 b3 f1 f2 f3) (k : κ3) (x : X3) (hwf : (Lit.int F3.K.q (F3.kof k)).wf = true) (h0 : 0 ≤ F3.kof k) (hn : F3.kof k < 4294967296) :
    ∃ w', (Instr.mapUpdate F3.K.t (.map (some b3)) (.int F3.K.q (F3.kof k)) (F3.vof x)).run Try.prog w = .ok () w' ∧ Car3 T F1 F2 F3 w0 w' Q g B b1 b2 b3 f1 f2 (putF f3 k x) ∧ w.grownBy w' (some b3) := by
  obtain ⟨w', r1, r2, r3⟩ := h.m3.put k x hwf h0 hn
  exact ⟨w', r1, ⟨h.c.grown K r3 h.q3 h.l3, h.m1.kept r3 (fun e => h.n13 (Option.some.inj e)), h.m2.kept r3 (fun e => h.n23 (Option.some.inj e)), r2, h.l1, h.l2, h.l3, h.q1, h.q2, h.q3, h.n12, h.n13, h.n23⟩, r3⟩
theorem Car3.made (K : BoxK T) (h : CarT T w0 w Q g B) (hw : w' = ((w.alloc (.map #[] 0)).alloc (.map #[] 0)).alloc (.map #[] 0)) :
    Car3 T F1 F2 F3 w0 w' Q g B w.heap.size (w.heap.size + 1) (w.heap.size + 1 + 1) (fun _ => none) (fun _ => none) (fun _ => none) := by
  have s1 : (w.alloc (.map #[] 0)).heap.size = w.heap.size + 1 := World.size_alloc _ _
  have s2 : ((w.alloc (.map #[] 0)).alloc (.map #[] 0)).heap.size = w.heap.size + 1 + 1 := by rw [World.size_alloc, s1]
  have m1 := FnKd.Holds.made F1 w
  have m2 := FnKd.Holds.made F2 (w.alloc (.map #[] 0))
  have m3 := FnKd.Holds.made F3 ((w.alloc (.map #[] 0)).alloc (.map #[] 0))
  rw [s1] at m2
  rw [s2] at m3
  have hb : Below w.heap.size w w' := by
    rw [hw]
    exact (((Below.refl _ _).alloc (Nat.le_refl _) _).alloc (by rw [s1]; omega) _).alloc (by rw [s2]; omega) _
  have hq : ∀ k, ¬ Q (w.heap.size + k) := fun k hk => by have := K.lt h.t _ hk; omega
  have hl := h.low.size
  refine ⟨h.later K hb, ?_, ?_, by rw [hw]; exact m3, hl, by omega, by omega, hq 0, hq 1, hq 2, by omega, by omega, by omega⟩
  · rw [hw]
    exact (m1.kept (World.grownBy_alloc _ _ none) (by simp)).kept (World.grownBy_alloc _ _ none) (by simp)
  · rw [hw]
    exact m2.kept (World.grownBy_alloc _ _ none) (by simp)
/-- A store to a map that is older than the list. -/
theorem RowO.grown {n c b : Nat} {A : Option Addr} {l : List MsgV} (h : RowO w Q n A c l) (hg : w.grownBy w' (some b)) (hb : b < n) : RowO w' Q n A c l :=
  ⟨own_keep h.own fun k hk => hg.block k (h.own.lt k hk).2 (fun e => by injection e with e; have := (h.own.lt k hk).1; omega), h.apart⟩
end
section
variable {κ1 X1 κ2 X2 κ3 X3 : Type} {T : World → (Nat → Prop) → Nat → BxV → Prop} {F1 : FnKd Try.prog κ1 X1} {F2 : FnKd Try.prog κ2 X2} {F3 : FnKd Try.prog κ3 X3} {w0 w w' : World} {Q : Nat → Prop} {g : Nat} {B : BxV}
  {b1 b2 b3 : Nat} {f1 : κ1 → Option X1} {f2 : κ2 → Option X2} {f3 : κ3 → Option X3} {h1 h2 h3 : Nat → Option Int}
theorem Car3.putI1 (K : BoxK T) (h : Car3 T KI F2 F3 w0 w Q g B b1 b2 b3 h1 f2 f3) (a : Nat) (n : Int) (ha : a < 4294967296) :
    ∃ w', (Instr.mapUpdate 52 (.map (some b1)) (.int .u32 (a : Int)) (.int .i64 n)).run Try.prog w = .ok () w' ∧ Car3 T KI F2 F3 w0 w' Q g B b1 b2 b3 (putF h1 a n) f2 f3 ∧ w.grownBy w' (some b1) :=
  h.put1 K a n (wf_u32 ha) (by show (0 : Int) ≤ (a : Int); omega) (by show (a : Int) < 4294967296; omega)
theorem Car3.putI2 (K : BoxK T) (h : Car3 T F1 KI F3 w0 w Q g B b1 b2 b3 f1 h2 f3) (a : Nat) (n : Int) (ha : a < 4294967296) :
    ∃ w', (Instr.mapUpdate 52 (.map (some b2)) (.int .u32 (a : Int)) (.int .i64 n)).run Try.prog w = .ok () w' ∧ Car3 T F1 KI F3 w0 w' Q g B b1 b2 b3 f1 (putF h2 a n) f3 ∧ w.grownBy w' (some b2) :=
  h.put2 K a n (wf_u32 ha) (by show (0 : Int) ≤ (a : Int); omega) (by show (a : Int) < 4294967296; omega)
theorem Car3.putI3 (K : BoxK T) (h : Car3 T F1 F2 KI w0 w Q g B b1 b2 b3 f1 f2 h3) (a : Nat) (n : Int) (ha : a < 4294967296) :
    ∃ w', (Instr.mapUpdate 52 (.map (some b3)) (.int .u32 (a : Int)) (.int .i64 n)).run Try.prog w = .ok () w' ∧ Car3 T F1 F2 KI w0 w' Q g B b1 b2 b3 f1 f2 (putF h3 a n) ∧ w.grownBy w' (some b3) :=
  h.put3 K a n (wf_u32 ha) (by show (0 : Int) ≤ (a : Int); omega) (by show (a : Int) < 4294967296; omega)
theorem ki_look {b : Nat} {f : Nat → Option Int} (h : KI.Holds w b f) (a : Nat) (ha : a < 4294967296) : (Instr.lookup 52 (.map (some b)) (.int .u32 (a : Int)) false).run Try.prog w = .ok (.int .i64 ((f a).getD 0)) w := by
  have := h.look a (wf_u32 ha)
  rw [ki_val] at this
  exact this
theorem ki_look_ok {b : Nat} {f : Nat → Option Int} (h : KI.Holds w b f) (a : Nat) (ha : a < 4294967296) : (Instr.lookup 52 (.map (some b)) (.int .u32 (a : Int)) true).run Try.prog w = .ok (.tuple #[.int .i64 ((f a).getD 0), .bool (f a).isSome]) w := by
  have := h.look_ok a (wf_u32 ha)
  rw [ki_val] at this
  exact this
end
end Go.Proofs.Ytekladmddfibaaa
