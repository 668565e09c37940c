/- option.Put: the statement that lays an option of its own behind the others; its order is open. -/
import Derived.Test.YtgmebonhhbdofaaPutA
namespace Go.Proofs.Ytgmebonhhbdofaa
open Go.RowKit Go.Shelf

theorem ev_same {a : Act} {d : Nat} {v : Value} (h : d < a.tmps.size) : (a.put (some d) v).eval (.tmp d) = v := by simp [Act.put, Act.eval, h]
theorem ev_ne {a : Act} {d k : Nat} {v : Value} (h : d ≠ k) : (a.put (some d) v).eval (.tmp k) = a.eval (.tmp k) := Act.eval_put fun d' hd e => by
  cases hd
  cases e
  exact h rfl
theorem sz_put {a : Act} {d : Option Tmp} {v : Value} : (a.put d v).tmps.size = a.tmps.size := by cases d <;> simp [Act.put]

section
variable {l n : Nat} {P : Program} {ops : Array Oper} {Q : Exit → Act → World → Prop} {o : Oper} {a : Act} {U U' : World} {K : Act → World → Prop}

theorem op_val {v : Value} (hg : o.guard = none) (hnd : ∀ c, o.op ≠ .defer c) (hrun : (execOp a.eval o).run P U = .ok (.value v) U') (h : K (a.put o.dst v) U') :
    if Region.wanted o (yielded ops a.tmps) = true then Oper.wpIn (Fence.wide.inRound l) n P o a U K Q else (∀ f, o.about P U a.eval = some f → (Fence.wide.inRound l).fn f) ∧ K (a.put o.dst undef) U := by
  rw [if_pos (by simp [Region.wanted, hg])]
  exact ⟨fun _ _ => trivial, by rw [Oper.semAt_plain _ _ _ hnd, hrun]; exact h⟩
theorem op_skip (hg : o.guard = none) (hnd : ∀ c, o.op ≠ .defer c) (hrun : (execOp a.eval o).run P U = .ok .skip U') (h : K (a.put o.dst undef) U') :
    if Region.wanted o (yielded ops a.tmps) = true then Oper.wpIn (Fence.wide.inRound l) n P o a U K Q else (∀ f, o.about P U a.eval = some f → (Fence.wide.inRound l).fn f) ∧ K (a.put o.dst undef) U := by
  rw [if_pos (by simp [Region.wanted, hg])]
  exact ⟨fun _ _ => trivial, by rw [Oper.semAt_plain _ _ _ hnd, hrun]; exact h⟩
theorem op_call {f : FuncId} {args : Array Value} {R : Ending → World → Prop} (hg : o.guard = none) (hnd : ∀ c, o.op ≠ .defer c) (hrun : (execOp a.eval o).run P U = .ok (.enter f args) U') (hc : Calls P f args U' R) (h : ∀ e V, R e V → ∃ v, e = .returned v ∧ K (a.put o.dst v) V) :
    if Region.wanted o (yielded ops a.tmps) = true then Oper.wpIn (Fence.wide.inRound l) n P o a U K Q else (∀ f, o.about P U a.eval = some f → (Fence.wide.inRound l).fn f) ∧ K (a.put o.dst undef) U := by
  rw [if_pos (by simp [Region.wanted, hg])]
  refine ⟨fun _ _ => trivial, ?_⟩
  rw [Oper.semAt_plain _ _ _ hnd, hrun]
  refine ⟨fun h => by simp [Fence.wide] at h, ((wide_of hc).inRound l).mono fun e V he => ?_⟩
  obtain ⟨v, rfl, hk⟩ := h e V he
  exact hk
end

/-- The statement's operations. -/
def q0 : Oper := { dst := some 26, op := .load 22 (.tmp 9), type := 22, pos := "option.go:128", after := #[], guard := none }
def q1 : Oper := { dst := some 27, op := .load 44 (.tmp 11), type := 44, pos := "option.go:128", after := #[], guard := none }
def q2 : Oper := { dst := some 28, op := .call { callee := .value (.func 31), args := #[.tmp 27], argTypes := #[44] }, type := 44, pos := "option.go:128", after := #[{ on := 1, ground := .data }], guard := none }
def q3 : Oper := { dst := some 29, op := .buildSlice 22 1 #[(0, .tmp 28)], type := 22, pos := "option.go:128", after := #[{ on := 2, ground := .data }], guard := none }
def q4 : Oper := { dst := some 30, op := .call { callee := .builtin .append, args := #[.tmp 26, .tmp 29], argTypes := #[22, 22] }, type := 22, pos := "option.go:128", after := #[{ on := 0, ground := .data }, { on := 3, ground := .data }, { on := 2, ground := .chain }], guard := none }
def q5 : Oper := { dst := none, op := .store 22 (.tmp 9) (.tmp 30), type := 0, pos := "option.go:128", after := #[{ on := 4, ground := .data }, { on := 4, ground := .chain }, { on := 0, ground := .phase }, { on := 1, ground := .phase }, { on := 2, ground := .phase }, { on := 3, ground := .phase }, { on := 4, ground := .phase }], guard := none }
def ops9 : Array Oper := #[q0, q1, q2, q3, q4, q5]

set_option maxRecDepth 100000 in
set_option maxHeartbeats 2000000 in
theorem region9_in (l n : Nat) (Q : Exit → Act → World → Prop) (a : Act) (V : World) (ob oc base : Nat) (x : OptV) (A9 : Option Addr) (c9 : Nat) (Lo : List OptV) (hsize : 30 < a.tmps.size) (h9 : a.eval (.tmp 9) = .pointer (some ⟨ob, 0, none⟩)) (h11 : a.eval (.tmp 11) = .pointer (some ⟨oc, 0, none⟩))
    (hbox : Boxed V ob 22 (.slice A9 Lo.length c9)) (hoc : V.heap[oc]? = some (.cells #[.int .i64 x.code, .slice x.ad x.data.length x.cap] 44 (0, 0))) (hby : By V V.heap.size x.ad x.data) (hdl : x.data.length ≤ 1000)
    (hown : V.ownsRow base 44 2 (.slice A9 Lo.length c9) Lo.length (ocells Lo)) (hbase : base ≤ V.heap.size) (hlo : Lo.length ≤ 1000)
    (hQ : ∀ a' U1 A' c' U3 Ar cr, Own8 U1 V.heap.size (.slice A' x.data.length c') x.data → Below V.heap.size V U1 → U3.ownsRow base 44 2 (.slice Ar (Lo.length + 1) cr) (Lo.length + 1) (ocells Lo ++ [.int .i64 x.code, .slice A' x.data.length c']) → (U1.alloc (.cells #[.int .i64 x.code, .slice A' x.data.length c'] 44)).grownBy U3 (Value.slice A9 Lo.length c9).ownBlock → Q .normal a' (U3.setCell ⟨ob, 0, none⟩ (.slice Ar (Lo.length + 1) cr))) :
    (Code.region 9 ops9 true).wpIn (Fence.wide.inRound l) n Try.prog Q a V := by
  obtain ⟨i0, hi, hz0, hz1, hz2⟩ := info_parts Try.infoO
  have cO := hbox.cell
  have cX0 := cell_of_row V oc 0 _ _ _ hoc
  have cX1 := cell_of_row V oc 1 _ _ _ hoc
  simp at cX0 cX1
  have ld0 : ∀ (ρ : Operand → Value) (U : World), ρ (.tmp 9) = .pointer (some ⟨ob, 0, none⟩) → U.cell? ⟨ob, 0, none⟩ = some (.slice A9 Lo.length c9) → (execOp ρ q0).run Try.prog U = .ok (.value (.slice A9 Lo.length c9)) U := by
    intro ρ U h1 h2
    simp [execOp, q0, h1, go_sem, h2]
  have ld1 : ∀ (ρ : Operand → Value) (U : World), ρ (.tmp 11) = .pointer (some ⟨oc, 0, none⟩) → U.cell? ⟨oc, 0, none⟩ = some (.int .i64 x.code) → U.cell? ⟨oc, 1, none⟩ = some (.slice x.ad x.data.length x.cap) → (execOp ρ q1).run Try.prog U = .ok (.value x.v) U := by
    intro ρ U h1 h2 h3
    simp [execOp, q1, h1, go_sem, h2, h3]
  have cl2 : ∀ (ρ : Operand → Value) (U : World), ρ (.tmp 27) = x.v → ρ (.func 31) = .func (.func 31) #[] #[] → (execOp ρ q2).run Try.prog U = .ok (.enter 31 #[x.v]) U := by
    intro ρ U h1 h2
    have hcall : ∀ U, (callFunc 31 #[x.v]).run Try.prog U = .ok (.enter 31 #[x.v]) U := fun U => enters_of Try.func31 (by kernel_rfl) rfl _ U
    simp [execOp, q2, h1, h2, go_sem, hcall]
  have bs3 : ∀ (ρ : Operand → Value) (U : World) (A' : Option Addr) (c' : Nat), ρ (.tmp 28) = .agg #[.int .i64 x.code, .slice A' x.data.length c'] → (execOp ρ q3).run Try.prog U = .ok (.value (.slice (some ⟨U.heap.size, 0, none⟩) 1 1)) (U.alloc (.cells #[.int .i64 x.code, .slice A' x.data.length c'] 44)) := by
    intro ρ U A' c' h1
    simp [execOp, q3, h1, go_sem]
  have st5 : ∀ (ρ : Operand → Value) (U : World) (Ar : Option Addr) (nr cr : Nat) (u : Value), ρ (.tmp 9) = .pointer (some ⟨ob, 0, none⟩) → ρ (.tmp 30) = .slice Ar nr cr → U.cell? ⟨ob, 0, none⟩ = some u → U.frozen? ⟨ob, 0, none⟩ = false → (execOp ρ q5).run Try.prog U = .ok .skip (U.setCell ⟨ob, 0, none⟩ (.slice Ar nr cr)) := by
    intro ρ U Ar nr cr u h1 h2 h3 h4
    simp [execOp, q5, h1, h2, go_sem, h3, h4]
  have ap4 : ∀ (ρ : Operand → Value) (U : World) (vs vx v' : Value) (U' : World), ρ (.tmp 26) = vs → ρ (.tmp 29) = vx → (Builtin.append_ #[22, 22] 22 #[vs, vx]).run Try.prog U = .ok v' U' → (execOp ρ q4).run Try.prog U = .ok (.value v') U' := by
    intro ρ U vs vx v' U' h1 h2 h3
    simp [execOp, q4, resolve, invoke, builtin, h1, h2, h3, Result.andThen]
  have HO := fun (U : World) (hU : By U U.heap.size x.ad x.data) => owned_any x U hU (by omega)
  have obU : ∀ U1, Below V.heap.size V U1 → Boxed U1 ob 22 (.slice A9 Lo.length c9) := fun U1 hB => (hB.block ob hbox.lt).trans hbox
  have ownU : ∀ U1, Below V.heap.size V U1 → U1.ownsRow base 44 2 (.slice A9 Lo.length c9) Lo.length (ocells Lo) := fun U1 hB => hown.kept (grown_of_below hB) (by cases (Value.slice A9 Lo.length c9).ownBlock <;> simp)
  have N5 : ∀ (a : Act) (U1 : World) (A' : Option Addr) (c' : Nat) (U3 : World) (Ar : Option Addr) (cr : Nat), a.eval (.tmp 9) = .pointer (some ⟨ob, 0, none⟩) → a.eval (.tmp 30) = .slice Ar (Lo.length + 1) cr → Own8 U1 V.heap.size (.slice A' x.data.length c') x.data → Below V.heap.size V U1 →
      U3.ownsRow base 44 2 (.slice Ar (Lo.length + 1) cr) (Lo.length + 1) (ocells Lo ++ [.int .i64 x.code, .slice A' x.data.length c']) → (U1.alloc (.cells #[.int .i64 x.code, .slice A' x.data.length c'] 44)).grownBy U3 (Value.slice A9 Lo.length c9).ownBlock →
      wpAnyIn (Fence.wide.inRound l) n Try.prog .any ops9 Q 1 #[true, true, true, true, true, false] a U3 := by
    intro a U1 A' c' U3 Ar cr g9 g30 o8 hB1 hown3 hg3
    have hb3 := ((obU U1 hB1).alloc (.cells #[.int .i64 x.code, .slice A' x.data.length c'] 44)).kept hg3 ((obU U1 hB1).not_row (by decide) (ownU U1 hB1))
    exact wpAnyIn_ready (rs := [5]) (by kernel_rfl) (by simp) (AllReadyIn.cons rfl (fun K hK => op_skip rfl (fun c h => by cases h) (st5 a.eval U3 Ar _ cr _ g9 g30 hb3.cell hb3.frozen) (hK _ _ (wpAnyIn_done (by kernel_rfl) (hQ a U1 A' c' U3 Ar cr o8 hB1 hown3 hg3) _))) AllReadyIn.nil)
  have N4 : ∀ (a : Act) (U1 : World) (A' : Option Addr) (c' : Nat), 30 < a.tmps.size → a.eval (.tmp 9) = .pointer (some ⟨ob, 0, none⟩) → a.eval (.tmp 26) = .slice A9 Lo.length c9 → a.eval (.tmp 29) = .slice (some ⟨U1.heap.size, 0, none⟩) 1 1 → Own8 U1 V.heap.size (.slice A' x.data.length c') x.data → Below V.heap.size V U1 →
      wpAnyIn (Fence.wide.inRound l) n Try.prog .any ops9 Q 2 #[true, true, true, true, false, false] a (U1.alloc (.cells #[.int .i64 x.code, .slice A' x.data.length c'] 44)) := by
    intro a U1 A' c' gs g9 g26 g29 o8 hB1
    obtain ⟨v', U3, hrun, hown3, hg3, _⟩ := run_append_own (P := Try.prog) (U1.alloc (.cells #[.int .i64 x.code, .slice A' x.data.length c'] 44)) base 22 22 44 i0 _ 2 32 Try.underlying22 hi hz0 hz1 hz2 rfl (by decide) _ _ _ ((ownU U1 hB1).alloc _) ⟨U1.heap.size, 0, none⟩ 1 1 [.int .i64 x.code, .slice A' x.data.length c'] rfl (World.news_of_block (cs := #[.int .i64 x.code, .slice A' x.data.length c']) (t := 44) (fr := (0, 0)) (heap_alloc_new U1 _)) (by simp [Value.oneCell']) (by unfold maxLen; omega) (by omega) (by simp; have := hB1.size; omega)
    obtain ⟨Ar, cr, rfl, _⟩ := own_form hown3
    exact wpAnyIn_ready (rs := [4]) (by kernel_rfl) (by simp) (AllReadyIn.cons rfl (fun K hK => op_val rfl (fun c h => by cases h) (ap4 a.eval _ _ _ _ _ g26 g29 hrun) (hK _ _ (N5 _ U1 A' c' U3 Ar cr ((ev_ne (d := 30) (by decide)).trans g9) (ev_same gs) o8 hB1 hown3 hg3))) AllReadyIn.nil)
  have N3' : ∀ (a : Act) (U1 : World) (A' : Option Addr) (c' : Nat), 30 < a.tmps.size → a.eval (.tmp 9) = .pointer (some ⟨ob, 0, none⟩) → a.eval (.tmp 26) = .slice A9 Lo.length c9 → a.eval (.tmp 28) = .agg #[.int .i64 x.code, .slice A' x.data.length c'] → Own8 U1 V.heap.size (.slice A' x.data.length c') x.data → Below V.heap.size V U1 →
      wpAnyIn (Fence.wide.inRound l) n Try.prog .any ops9 Q 3 #[true, true, true, false, false, false] a U1 := by
    intro a U1 A' c' gs g9 g26 g28 o8 hB1
    exact wpAnyIn_ready (rs := [3]) (by kernel_rfl) (by simp) (AllReadyIn.cons rfl (fun K hK => op_val rfl (fun c h => by cases h) (bs3 a.eval U1 A' c' g28) (hK _ _ (N4 _ U1 A' c' (Nat.lt_of_lt_of_eq gs sz_put.symm) ((ev_ne (d := 29) (by decide)).trans g9) ((ev_ne (d := 29) (by decide)).trans g26) (ev_same (by omega)) o8 hB1))) AllReadyIn.nil)
  have N3 : ∀ (a : Act) (U1 : World) (A' : Option Addr) (c' : Nat), 30 < a.tmps.size → a.eval (.tmp 9) = .pointer (some ⟨ob, 0, none⟩) → a.eval (.tmp 29) = .slice (some ⟨U1.heap.size, 0, none⟩) 1 1 → Own8 U1 V.heap.size (.slice A' x.data.length c') x.data → Below V.heap.size V U1 →
      wpAnyIn (Fence.wide.inRound l) n Try.prog .any ops9 Q 3 #[false, true, true, true, false, false] a (U1.alloc (.cells #[.int .i64 x.code, .slice A' x.data.length c'] 44)) := by
    intro a U1 A' c' gs g9 g29 o8 hB1
    exact wpAnyIn_ready (rs := [0]) (by kernel_rfl) (by simp) (AllReadyIn.cons rfl (fun K hK => op_val rfl (fun c h => by cases h) (ld0 a.eval _ g9 ((obU U1 hB1).alloc _).cell) (hK _ _ (N4 _ U1 A' c' (Nat.lt_of_lt_of_eq gs sz_put.symm) ((ev_ne (d := 26) (by decide)).trans g9) (ev_same (by omega)) ((ev_ne (d := 26) (by decide)).trans g29) o8 hB1))) AllReadyIn.nil)
  have N2 : ∀ (a : Act) (U1 : World) (A' : Option Addr) (c' : Nat), 30 < a.tmps.size → a.eval (.tmp 9) = .pointer (some ⟨ob, 0, none⟩) → a.eval (.tmp 28) = .agg #[.int .i64 x.code, .slice A' x.data.length c'] → Own8 U1 V.heap.size (.slice A' x.data.length c') x.data → Below V.heap.size V U1 →
      wpAnyIn (Fence.wide.inRound l) n Try.prog .any ops9 Q 4 #[false, true, true, false, false, false] a U1 := by
    intro a U1 A' c' gs g9 g28 o8 hB1
    exact wpAnyIn_ready (rs := [0, 3]) (by kernel_rfl) (by simp)
      (AllReadyIn.cons rfl (fun K hK => op_val rfl (fun c h => by cases h) (ld0 a.eval _ g9 (obU U1 hB1).cell) (hK _ _ (N3' _ U1 A' c' (Nat.lt_of_lt_of_eq gs sz_put.symm) ((ev_ne (d := 26) (by decide)).trans g9) (ev_same (by omega)) ((ev_ne (d := 26) (by decide)).trans g28) o8 hB1)))
      (AllReadyIn.cons rfl (fun K hK => op_val rfl (fun c h => by cases h) (bs3 a.eval U1 A' c' g28) (hK _ _ (N3 _ U1 A' c' (Nat.lt_of_lt_of_eq gs sz_put.symm) ((ev_ne (d := 29) (by decide)).trans g9) (ev_same (by omega)) o8 hB1))) AllReadyIn.nil))
  have belowV : ∀ U1, Below V.drew.heap.size V.drew U1 → Below V.heap.size V U1 := fun U1 h => ⟨h.os, h.tape, h.output, h.size, h.block⟩
  have N2' : ∀ (a : Act), 30 < a.tmps.size → a.eval (.tmp 9) = .pointer (some ⟨ob, 0, none⟩) → a.eval (.tmp 26) = .slice A9 Lo.length c9 → a.eval (.tmp 27) = x.v → wpAnyIn (Fence.wide.inRound l) n Try.prog .any ops9 Q 4 #[true, true, false, false, false, false] a V.drew := by
    intro a gs g9 g26 g27
    exact wpAnyIn_ready (rs := [2]) (by kernel_rfl) (by simp) (AllReadyIn.cons rfl (fun K hK => op_call rfl (fun c h => by cases h) (cl2 a.eval _ g27 rfl) (HO V.drew hby.drew) (fun e U1 ⟨A', c', he, o8, hB1⟩ => ⟨_, he, hK _ _ (N3' _ U1 A' c' (Nat.lt_of_lt_of_eq gs sz_put.symm) ((ev_ne (d := 28) (by decide)).trans g9) ((ev_ne (d := 28) (by decide)).trans g26) (ev_same (by omega)) o8 (belowV U1 hB1))⟩)) AllReadyIn.nil)
  have N1 : ∀ (a : Act), 30 < a.tmps.size → a.eval (.tmp 9) = .pointer (some ⟨ob, 0, none⟩) → a.eval (.tmp 27) = x.v → wpAnyIn (Fence.wide.inRound l) n Try.prog .any ops9 Q 5 #[false, true, false, false, false, false] a V.drew := by
    intro a gs g9 g27
    exact wpAnyIn_ready (rs := [0, 2]) (by kernel_rfl) (by simp)
      (AllReadyIn.cons rfl (fun K hK => op_val rfl (fun c h => by cases h) (ld0 a.eval _ g9 cO) (hK _ _ (N2' _ (Nat.lt_of_lt_of_eq gs sz_put.symm) ((ev_ne (d := 26) (by decide)).trans g9) (ev_same (by omega)) ((ev_ne (d := 26) (by decide)).trans g27))))
      (AllReadyIn.cons rfl (fun K hK => op_call rfl (fun c h => by cases h) (cl2 a.eval _ g27 rfl) (HO V.drew hby.drew) (fun e U1 ⟨A', c', he, o8, hB1⟩ => ⟨_, he, hK _ _ (N2 _ U1 A' c' (Nat.lt_of_lt_of_eq gs sz_put.symm) ((ev_ne (d := 28) (by decide)).trans g9) (ev_same (by omega)) o8 (belowV U1 hB1))⟩)) AllReadyIn.nil))
  refine wpIn_region_any (by kernel_rfl) ?_
  show wpAnyIn (Fence.wide.inRound l) n Try.prog .any ops9 Q 6 #[false, false, false, false, false, false] a V.drew
  exact wpAnyIn_ready (rs := [0, 1]) (by kernel_rfl) (by simp)
    (AllReadyIn.cons rfl (fun K hK => op_val rfl (fun c h => by cases h) (ld0 a.eval _ h9 cO) (hK _ _ (wpAnyIn_ready (rs := [1]) (by kernel_rfl) (by simp) (AllReadyIn.cons rfl (fun K hK => op_val rfl (fun c h => by cases h) (ld1 _ _ ((ev_ne (d := 26) (by decide)).trans h11) cX0 cX1) (hK _ _ (N2' _ (Nat.lt_of_lt_of_eq hsize (sz_put.trans sz_put).symm) ((ev_ne (d := 27) (by decide)).trans ((ev_ne (d := 26) (by decide)).trans h9)) ((ev_ne (d := 27) (by decide)).trans (ev_same (d := 26) (by omega))) (ev_same (d := 27) (by simp only [sz_put]; omega))))) AllReadyIn.nil))))
    (AllReadyIn.cons rfl (fun K hK => op_val rfl (fun c h => by cases h) (ld1 a.eval _ h11 cX0 cX1) (hK _ _ (N1 _ (Nat.lt_of_lt_of_eq hsize sz_put.symm) ((ev_ne (d := 27) (by decide)).trans h9) (ev_same (by omega))))) AllReadyIn.nil))
end Go.Proofs.Ytgmebonhhbdofaa
