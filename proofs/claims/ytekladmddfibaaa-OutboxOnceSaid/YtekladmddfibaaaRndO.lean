/- Operations of an open statement inside a round: each one run by an equation. (Names no function and no type of the program. Cut out of FrmR, which imports it.) -/
import Derived.Test.YtekladmddfibaaaRangeF
namespace Go.Proofs.Ytekladmddfibaaa
open Go.RowKit Go.Shelf

theorem ev_same {a : Act} {d : Nat} {v : Value} (h : d < a.tmps.size) : (a.put (some d) v).eval (.tmp d) = v := by simp [Act.put, Act.eval, h]
theorem ev_ne {a : Act} {d k : Nat} {v : Value} (h : d ≠ k) : (a.put (some d) v).eval (.tmp k) = a.eval (.tmp k) := Act.eval_put fun d' hd e => by
  cases hd
  cases e
  exact h rfl
theorem sz_put {a : Act} {d : Option Tmp} {v : Value} : (a.put d v).tmps.size = a.tmps.size := by cases d <;> simp [Act.put]

section
variable {l n : Nat} {P : Program} {ops : Array Oper} {Q : Exit → Act → World → Prop} {o : Oper} {a : Act} {U U' : World} {K : Act → World → Prop}

theorem op_val0 {v : Value} (hnd : ∀ c, o.op ≠ .defer c) (hrun : (execOp a.eval o).run P U = .ok (.value v) U') (h : K (a.put o.dst v) U') : Oper.wpIn (Fence.wide.inRound l) n P o a U K Q :=
  ⟨fun _ _ => trivial, by rw [Oper.semAt_plain _ _ _ hnd, hrun]; exact h⟩
theorem op_skip0 (hnd : ∀ c, o.op ≠ .defer c) (hrun : (execOp a.eval o).run P U = .ok .skip U') (h : K (a.put o.dst undef) U') : Oper.wpIn (Fence.wide.inRound l) n P o a U K Q :=
  ⟨fun _ _ => trivial, by rw [Oper.semAt_plain _ _ _ hnd, hrun]; exact h⟩
theorem op_val {v : Value} (hg : o.guard = none) (hnd : ∀ c, o.op ≠ .defer c) (hrun : (execOp a.eval o).run P U = .ok (.value v) U') (h : K (a.put o.dst v) U') :
    if Region.wanted o (yielded ops a.tmps) = true then Oper.wpIn (Fence.wide.inRound l) n P o a U K Q else (∀ f, o.about P U a.eval = some f → (Fence.wide.inRound l).fn f) ∧ K (a.put o.dst undef) U := by
  rw [if_pos (by simp [Region.wanted, hg])]
  exact op_val0 hnd hrun h
theorem op_skip (hg : o.guard = none) (hnd : ∀ c, o.op ≠ .defer c) (hrun : (execOp a.eval o).run P U = .ok .skip U') (h : K (a.put o.dst undef) U') :
    if Region.wanted o (yielded ops a.tmps) = true then Oper.wpIn (Fence.wide.inRound l) n P o a U K Q else (∀ f, o.about P U a.eval = some f → (Fence.wide.inRound l).fn f) ∧ K (a.put o.dst undef) U := by
  rw [if_pos (by simp [Region.wanted, hg])]
  exact op_skip0 hnd hrun h
theorem op_call {f : FuncId} {args : Array Value} {R : Ending → World → Prop} (hg : o.guard = none) (hnd : ∀ c, o.op ≠ .defer c) (hrun : (execOp a.eval o).run P U = .ok (.enter f args) U') (hc : Calls P f args U' R) (h : ∀ e V, R e V → ∃ v, e = .returned v ∧ K (a.put o.dst v) V) :
    if Region.wanted o (yielded ops a.tmps) = true then Oper.wpIn (Fence.wide.inRound l) n P o a U K Q else (∀ f, o.about P U a.eval = some f → (Fence.wide.inRound l).fn f) ∧ K (a.put o.dst undef) U := by
  rw [if_pos (by simp [Region.wanted, hg])]
  refine ⟨fun _ _ => trivial, ?_⟩
  rw [Oper.semAt_plain _ _ _ hnd, hrun]
  refine ⟨fun h => by simp [Fence.wide] at h, ((callsIn_wide.2 hc : CallsIn Fence.wide (n - 1) P f args U' R).inRound l).mono fun e V he => ?_⟩
  obtain ⟨v, rfl, hk⟩ := h e V he
  exact hk
end

end Go.Proofs.Ytekladmddfibaaa
