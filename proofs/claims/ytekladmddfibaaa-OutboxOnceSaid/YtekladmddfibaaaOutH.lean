/- Tick's body: the open statement 'l = append(l, u.m)', in a round. (Written by wip/tools/genouth.py.) -/
import Derived.Test.YtekladmddfibaaaBoxE
import Derived.Test.YtekladmddfibaaaRndO
namespace Go.Proofs.Ytekladmddfibaaa
open Go.RowKit Go.Shelf

/-- What the statement leaves alone of the slots. -/
structure FrT (a : Act) (lb pz : Nat) : Prop where
  sz : 29 < a.tmps.size
  e6 : a.eval (.tmp 6) = .pointer (some ⟨lb, 0, none⟩)
  e7 : a.eval (.tmp 7) = .pointer (some ⟨pz, 0, none⟩)
theorem FrT.put {a : Act} {lb pz : Nat} {v : Value} (h : FrT a lb pz) {d : Nat} (hd : 8 ≤ d) : FrT (a.put (some d) v) lb pz :=
  ⟨Nat.lt_of_lt_of_eq h.sz sz_put.symm, (ev_ne (by omega)).trans h.e6, (ev_ne (by omega)).trans h.e7⟩
def y0 : Oper := { dst := some 22, op := .load 37 (.tmp 6), type := 37, pos := "outbox.go:78", after := #[], guard := none }
def y1 : Oper := { dst := some 23, op := .move (.tmp 7), type := 87, pos := "outbox.go:78", after := #[], guard := none }
def y2 : Oper := { dst := some 24, op := .nilCheck (.tmp 23), type := 0, pos := "outbox.go:78", after := #[{ on := 1, ground := .data }], guard := none }
def y3 : Oper := { dst := some 25, op := .fieldAddr 89 (.tmp 24) 0, type := 0, pos := "outbox.go:78", after := #[{ on := 2, ground := .data }], guard := none }
def y4 : Oper := { dst := some 26, op := .load 31 (.tmp 25), type := 31, pos := "outbox.go:78", after := #[{ on := 3, ground := .data }], guard := none }
def y5 : Oper := { dst := some 27, op := .buildSlice 37 1 #[(0, .tmp 26)], type := 37, pos := "outbox.go:78", after := #[{ on := 4, ground := .data }], guard := none }
def y6 : Oper := { dst := some 28, op := .call { callee := .builtin .append, args := #[.tmp 22, .tmp 27], argTypes := #[37, 37] }, type := 37, pos := "outbox.go:78", after := #[{ on := 0, ground := .data }, { on := 5, ground := .data }], guard := none }
def y7 : Oper := { dst := none, op := .store 37 (.tmp 6) (.tmp 28), type := 0, pos := "outbox.go:78", after := #[{ on := 6, ground := .data }, { on := 6, ground := .chain }, { on := 0, ground := .phase }, { on := 1, ground := .phase }, { on := 2, ground := .phase }, { on := 3, ground := .phase }, { on := 4, ground := .phase }, { on := 5, ground := .phase }, { on := 6, ground := .phase }], guard := none }
def opsY : Array Oper := #[y0, y1, y2, y3, y4, y5, y6, y7]

set_option maxRecDepth 100000 in
set_option maxHeartbeats 2000000 in
theorem appended_in (l n : Nat) (Q : Exit → Act → World → Prop) (a : Act) (V : World) (lb pz base k : Nat) (m : MsgV) (A9 : Option Addr) (c9 : Nat) (xs : List Value) (hF : FrT a lb pz)
    (hbox : V.cell? ⟨lb, 0, none⟩ = some (.slice A9 k c9)) (hbf : Boxed V lb 37 (.slice A9 k c9)) (hm : MAt V pz 0 m)
    (hown : V.ownsRow base ElemM.e ElemM.m (.slice A9 k c9) k xs) (hbase : base ≤ V.heap.size) (hk : k ≤ 10000000000)
    (hQ : ∀ a' U3 Ar cr, U3.ownsRow base ElemM.e ElemM.m (.slice Ar (k + 1) cr) (k + 1) (xs ++ ecells ElemM [m]) → (V.drew.alloc (.cells m.cells 31)).grownBy U3 (Value.slice A9 k c9).ownBlock → Q .normal a' (U3.setCell ⟨lb, 0, none⟩ (.slice Ar (k + 1) cr))) :
    (Code.region 7 opsY true).wpIn (Fence.wide.inRound l) n Try.prog Q a V := by
  obtain ⟨m0, m1, m2, m3, m4, m5, m6, m7, m8, m9, m10⟩ := hm
  simp only [Nat.zero_add] at m1 m2 m3 m4 m5 m6 m7 m8 m9 m10
  have u0 : ∀ (ρ : Operand → Value) (U : World), ρ (.tmp 6) = .pointer (some ⟨lb, 0, none⟩) → U.cell? ⟨lb, 0, none⟩ = some (.slice A9 k c9) → (execOp ρ y0).run Try.prog U = .ok (.value (.slice A9 k c9)) U := by
    intro ρ U h1 h2
    simp [execOp, y0, h1, go_sem, h2]
  have u1 : ∀ (ρ : Operand → Value) (U : World), ρ (.tmp 7) = .pointer (some ⟨pz, 0, none⟩) → (execOp ρ y1).run Try.prog U = .ok (.value (.pointer (some ⟨pz, 0, none⟩))) U := by
    intro ρ U h1
    simp [execOp, y1, h1, go_sem]
  have u2 : ∀ (ρ : Operand → Value) (U : World), ρ (.tmp 23) = .pointer (some ⟨pz, 0, none⟩) → (execOp ρ y2).run Try.prog U = .ok (.value (.pointer (some ⟨pz, 0, none⟩))) U := by
    intro ρ U h1
    simp [execOp, y2, h1, go_sem]
  have u3 : ∀ (ρ : Operand → Value) (U : World), ρ (.tmp 24) = .pointer (some ⟨pz, 0, none⟩) → (execOp ρ y3).run Try.prog U = .ok (.value (.pointer (some ⟨pz, 0, none⟩))) U := by
    intro ρ U h1
    simp [execOp, y3, h1, go_sem]
  have u4 : ∀ (ρ : Operand → Value), ρ (.tmp 25) = .pointer (some ⟨pz, 0, none⟩) → (execOp ρ y4).run Try.prog V.drew = .ok (.value m.v) V.drew := by
    intro ρ h1
    simp [execOp, y4, h1, go_sem, m0, m1, m2, m3, m4, m5, m6, m7, m8, m9, m10]
  have u5 : ∀ (ρ : Operand → Value) (U : World), ρ (.tmp 26) = m.v → (execOp ρ y5).run Try.prog U = .ok (.value (.slice (some ⟨U.heap.size, 0, none⟩) 1 1)) (U.alloc (.cells m.cells 31)) := by
    intro ρ U h1
    simp [execOp, y5, h1, go_sem]
  have u6 : ∀ (ρ : Operand → Value) (U : World) (vs vx v' : Value) (U' : World), ρ (.tmp 22) = vs → ρ (.tmp 27) = vx → (Builtin.append_ #[37, 37] 37 #[vs, vx]).run Try.prog U = .ok v' U' → (execOp ρ y6).run Try.prog U = .ok (.value v') U' := by
    intro ρ U vs vx v' U' h1 h2 h3
    simp [execOp, y6, resolve, invoke, builtin, h1, h2, h3, Result.andThen]
  have u7 : ∀ (ρ : Operand → Value) (U : World) (Ar : Option Addr) (nr cr : Nat) (u : Value), ρ (.tmp 6) = .pointer (some ⟨lb, 0, none⟩) → ρ (.tmp 28) = .slice Ar nr cr → U.cell? ⟨lb, 0, none⟩ = some u → U.frozen? ⟨lb, 0, none⟩ = false → (execOp ρ y7).run Try.prog U = .ok .skip (U.setCell ⟨lb, 0, none⟩ (.slice Ar nr cr)) := by
    intro ρ U Ar nr cr u h1 h2 h3 h4
    simp [execOp, y7, h1, h2, go_sem, h3, h4]
  have hLIT : El ElemM (V.drew.alloc (.cells m.cells 31)) (V.drew.heap.size + 1) (some ⟨V.drew.heap.size, 0, none⟩) [m] := El.lit (E := ElemM) V.drew [m] _ _ (by simp [ecells, ElemM])
  have hown1 : (V.drew.alloc (.cells m.cells 31)).ownsRow base ElemM.e ElemM.m (.slice A9 k c9) k xs := hown.drew.alloc _
  have hbx : V.drew.cell? ⟨lb, 0, none⟩ = some (.slice A9 k c9) := hbox
  have hbx1 : (V.drew.alloc (.cells m.cells 31)).cell? ⟨lb, 0, none⟩ = some (.slice A9 k c9) := ((hbf.alloc (.cells m.cells 31))).cell
  obtain ⟨v', U3, hrun, hown3, hg3, -⟩ := run_appE (E := ElemM) (V.drew.alloc (.cells m.cells 31)) base 37 hown1 1 hLIT (Elem.small ElemM (by simp; omega)) (by simp; omega)
  obtain ⟨Ar, cr, rfl, -⟩ := own_form hown3
  have hbd : Boxed V.drew lb 37 (.slice A9 k c9) := hbf
  have hb3 : Boxed U3 lb 37 (.slice A9 k c9) := (hbd.alloc (.cells m.cells 31)).kept hg3 (hbd.not_row (by decide) hown.drew)

  have N7 : ∀ (a : Act), FrT a lb pz → a.eval (.tmp 28) = .slice Ar (k + 1) cr → wpAnyIn (Fence.wide.inRound l) n Try.prog .any opsY Q 1 #[true, true, true, true, true, true, true, false] a U3 := by
    intro a gz g28
    exact wpAnyIn_ready (rs := [7]) (by kernel_rfl) (by simp) (AllReadyIn.cons rfl (fun K hK => op_skip rfl (fun c h => by cases h) (u7 a.eval U3 Ar _ cr _ gz.e6 g28 hb3.cell hb3.frozen) (hK _ _ (wpAnyIn_done (by kernel_rfl) (hQ a U3 Ar cr hown3 hg3) _))) AllReadyIn.nil)
  have N6 : ∀ (a : Act), FrT a lb pz → a.eval (.tmp 22) = .slice A9 k c9 → a.eval (.tmp 27) = .slice (some ⟨V.drew.heap.size, 0, none⟩) 1 1 → wpAnyIn (Fence.wide.inRound l) n Try.prog .any opsY Q 2 #[true, true, true, true, true, true, false, false] a (V.drew.alloc (.cells m.cells 31)) := by
    intro a gz g22 g27
    exact wpAnyIn_ready (rs := [6]) (by kernel_rfl) (by simp) (AllReadyIn.cons rfl (fun K hK => op_val rfl (fun c h => by cases h) (u6 a.eval _ _ _ _ _ g22 g27 hrun) (hK _ _ (N7 _ (gz.put (by omega)) (ev_same (by have := gz.sz; omega))))) AllReadyIn.nil)
  have T4 : ∀ (a : Act), FrT a lb pz → a.eval (.tmp 22) = .slice A9 k c9 → a.eval (.tmp 26) = m.v → wpAnyIn (Fence.wide.inRound l) n Try.prog .any opsY Q 3 #[true, true, true, true, true, false, false, false] a V.drew := by
    intro a gz g22 g26
    exact wpAnyIn_ready (rs := [5]) (by kernel_rfl) (by simp) (AllReadyIn.cons rfl (fun K hK => op_val rfl (fun c h => by cases h) (u5 a.eval _ g26) (hK _ _ (N6 _ (gz.put (by omega)) ((ev_ne (d := 27) (by decide)).trans g22) (ev_same (by have := gz.sz; omega))))) AllReadyIn.nil)
  have T3 : ∀ (a : Act), FrT a lb pz → a.eval (.tmp 22) = .slice A9 k c9 → a.eval (.tmp 25) = .pointer (some ⟨pz, 0, none⟩) → wpAnyIn (Fence.wide.inRound l) n Try.prog .any opsY Q 4 #[true, true, true, true, false, false, false, false] a V.drew := by
    intro a gz g22 g25
    exact wpAnyIn_ready (rs := [4]) (by kernel_rfl) (by simp) (AllReadyIn.cons rfl (fun K hK => op_val rfl (fun c h => by cases h) (u4 a.eval g25) (hK _ _ (T4 _ (gz.put (by omega)) ((ev_ne (d := 26) (by decide)).trans g22) (ev_same (by have := gz.sz; omega))))) AllReadyIn.nil)
  have T2 : ∀ (a : Act), FrT a lb pz → a.eval (.tmp 22) = .slice A9 k c9 → a.eval (.tmp 24) = .pointer (some ⟨pz, 0, none⟩) → wpAnyIn (Fence.wide.inRound l) n Try.prog .any opsY Q 5 #[true, true, true, false, false, false, false, false] a V.drew := by
    intro a gz g22 g24
    exact wpAnyIn_ready (rs := [3]) (by kernel_rfl) (by simp) (AllReadyIn.cons rfl (fun K hK => op_val rfl (fun c h => by cases h) (u3 a.eval _ g24) (hK _ _ (T3 _ (gz.put (by omega)) ((ev_ne (d := 25) (by decide)).trans g22) (ev_same (by have := gz.sz; omega))))) AllReadyIn.nil)
  have T1 : ∀ (a : Act), FrT a lb pz → a.eval (.tmp 22) = .slice A9 k c9 → a.eval (.tmp 23) = .pointer (some ⟨pz, 0, none⟩) → wpAnyIn (Fence.wide.inRound l) n Try.prog .any opsY Q 6 #[true, true, false, false, false, false, false, false] a V.drew := by
    intro a gz g22 g23
    exact wpAnyIn_ready (rs := [2]) (by kernel_rfl) (by simp) (AllReadyIn.cons rfl (fun K hK => op_val rfl (fun c h => by cases h) (u2 a.eval _ g23) (hK _ _ (T2 _ (gz.put (by omega)) ((ev_ne (d := 24) (by decide)).trans g22) (ev_same (by have := gz.sz; omega))))) AllReadyIn.nil)
  have T0 : ∀ (a : Act), FrT a lb pz → a.eval (.tmp 22) = .slice A9 k c9 → wpAnyIn (Fence.wide.inRound l) n Try.prog .any opsY Q 7 #[true, false, false, false, false, false, false, false] a V.drew := by
    intro a gz g22
    exact wpAnyIn_ready (rs := [1]) (by kernel_rfl) (by simp) (AllReadyIn.cons rfl (fun K hK => op_val rfl (fun c h => by cases h) (u1 a.eval _ gz.e7) (hK _ _ (T1 _ (gz.put (by omega)) ((ev_ne (d := 23) (by decide)).trans g22) (ev_same (by have := gz.sz; omega))))) AllReadyIn.nil)
  have F5 : ∀ (a : Act), FrT a lb pz → a.eval (.tmp 27) = .slice (some ⟨V.drew.heap.size, 0, none⟩) 1 1 → wpAnyIn (Fence.wide.inRound l) n Try.prog .any opsY Q 3 #[false, true, true, true, true, true, false, false] a (V.drew.alloc (.cells m.cells 31)) := by
    intro a gz g27
    exact wpAnyIn_ready (rs := [0]) (by kernel_rfl) (by simp) (AllReadyIn.cons rfl (fun K hK => op_val rfl (fun c h => by cases h) (u0 a.eval _ gz.e6 hbx1) (hK _ _ (N6 _ (gz.put (by omega)) (ev_same (by have := gz.sz; omega)) ((ev_ne (d := 22) (by decide)).trans g27)))) AllReadyIn.nil)
  have F4 : ∀ (a : Act), FrT a lb pz → a.eval (.tmp 26) = m.v → wpAnyIn (Fence.wide.inRound l) n Try.prog .any opsY Q 4 #[false, true, true, true, true, false, false, false] a V.drew := by
    intro a gz g26
    exact wpAnyIn_ready (rs := [0, 5]) (by kernel_rfl) (by simp) (AllReadyIn.cons rfl (fun K hK => op_val rfl (fun c h => by cases h) (u0 a.eval _ gz.e6 hbx) (hK _ _ (T4 _ (gz.put (by omega)) (ev_same (by have := gz.sz; omega)) ((ev_ne (d := 22) (by decide)).trans g26)))) (AllReadyIn.cons rfl (fun K hK => op_val rfl (fun c h => by cases h) (u5 a.eval _ g26) (hK _ _ (F5 _ (gz.put (by omega)) (ev_same (by have := gz.sz; omega))))) AllReadyIn.nil))
  have F3 : ∀ (a : Act), FrT a lb pz → a.eval (.tmp 25) = .pointer (some ⟨pz, 0, none⟩) → wpAnyIn (Fence.wide.inRound l) n Try.prog .any opsY Q 5 #[false, true, true, true, false, false, false, false] a V.drew := by
    intro a gz g25
    exact wpAnyIn_ready (rs := [0, 4]) (by kernel_rfl) (by simp) (AllReadyIn.cons rfl (fun K hK => op_val rfl (fun c h => by cases h) (u0 a.eval _ gz.e6 hbx) (hK _ _ (T3 _ (gz.put (by omega)) (ev_same (by have := gz.sz; omega)) ((ev_ne (d := 22) (by decide)).trans g25)))) (AllReadyIn.cons rfl (fun K hK => op_val rfl (fun c h => by cases h) (u4 a.eval g25) (hK _ _ (F4 _ (gz.put (by omega)) (ev_same (by have := gz.sz; omega))))) AllReadyIn.nil))
  have F2 : ∀ (a : Act), FrT a lb pz → a.eval (.tmp 24) = .pointer (some ⟨pz, 0, none⟩) → wpAnyIn (Fence.wide.inRound l) n Try.prog .any opsY Q 6 #[false, true, true, false, false, false, false, false] a V.drew := by
    intro a gz g24
    exact wpAnyIn_ready (rs := [0, 3]) (by kernel_rfl) (by simp) (AllReadyIn.cons rfl (fun K hK => op_val rfl (fun c h => by cases h) (u0 a.eval _ gz.e6 hbx) (hK _ _ (T2 _ (gz.put (by omega)) (ev_same (by have := gz.sz; omega)) ((ev_ne (d := 22) (by decide)).trans g24)))) (AllReadyIn.cons rfl (fun K hK => op_val rfl (fun c h => by cases h) (u3 a.eval _ g24) (hK _ _ (F3 _ (gz.put (by omega)) (ev_same (by have := gz.sz; omega))))) AllReadyIn.nil))
  have F1 : ∀ (a : Act), FrT a lb pz → a.eval (.tmp 23) = .pointer (some ⟨pz, 0, none⟩) → wpAnyIn (Fence.wide.inRound l) n Try.prog .any opsY Q 7 #[false, true, false, false, false, false, false, false] a V.drew := by
    intro a gz g23
    exact wpAnyIn_ready (rs := [0, 2]) (by kernel_rfl) (by simp) (AllReadyIn.cons rfl (fun K hK => op_val rfl (fun c h => by cases h) (u0 a.eval _ gz.e6 hbx) (hK _ _ (T1 _ (gz.put (by omega)) (ev_same (by have := gz.sz; omega)) ((ev_ne (d := 22) (by decide)).trans g23)))) (AllReadyIn.cons rfl (fun K hK => op_val rfl (fun c h => by cases h) (u2 a.eval _ g23) (hK _ _ (F2 _ (gz.put (by omega)) (ev_same (by have := gz.sz; omega))))) AllReadyIn.nil))
  refine wpIn_region_any (by kernel_rfl) ?_
  show wpAnyIn (Fence.wide.inRound l) n Try.prog .any opsY Q 8 #[false, false, false, false, false, false, false, false] a V.drew
  have gz := hF
  exact wpAnyIn_ready (rs := [0, 1]) (by kernel_rfl) (by simp) (AllReadyIn.cons rfl (fun K hK => op_val rfl (fun c h => by cases h) (u0 a.eval _ gz.e6 hbx) (hK _ _ (T0 _ (gz.put (by omega)) (ev_same (by have := gz.sz; omega))))) (AllReadyIn.cons rfl (fun K hK => op_val rfl (fun c h => by cases h) (u1 a.eval _ gz.e7) (hK _ _ (F1 _ (gz.put (by omega)) (ev_same (by have := gz.sz; omega))))) AllReadyIn.nil))
end Go.Proofs.Ytekladmddfibaaa
