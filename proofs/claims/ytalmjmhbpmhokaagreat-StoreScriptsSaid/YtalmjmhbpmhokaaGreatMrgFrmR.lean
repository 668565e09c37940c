/- Joined texts: FrmR, FrmS, FrmT. -/
import Derived.Test.YtalmjmhbpmhokaaGreatMrgFrmP

/- frame.Scan: the body's statements; the first one's order is open. -/
section
namespace Go.Proofs.YtalmjmhbpmhokaaGreat
open Go.RowKit Go.Shelf

theorem ev_same {a : Act} {d : Nat} {v : Value} (h : d < a.tmps.size) : (a.put (some d) v).eval (.tmp d) = v := by simp [Act.put, Act.eval, h]
theorem ev_ne {a : Act} {d k : Nat} {v : Value} (h : d ≠ k) : (a.put (some d) v).eval (.tmp k) = a.eval (.tmp k) := Act.eval_put fun d' hd e => by
  cases hd
  cases e
  exact h rfl
theorem sz_put {a : Act} {d : Option Tmp} {v : Value} : (a.put d v).tmps.size = a.tmps.size := by cases d <;> simp [Act.put]

section
variable {l n : Nat} {P : Program} {ops : Array Oper} {Q : Exit → Act → World → Prop} {o : Oper} {a : Act} {U U' : World} {K : Act → World → Prop}

theorem op_val0 {v : Value} (hnd : ∀ c, o.op ≠ .defer c) (hrun : (execOp a.eval o).run P U = .ok (.value v) U') (h : K (a.put o.dst v) U') : Oper.wpIn (Fence.wide.inRound l) n P o a U K Q :=
  ⟨fun _ _ => trivial, by rw [Oper.semAt_plain _ _ _ hnd, hrun]; exact h⟩
theorem op_skip0 (hnd : ∀ c, o.op ≠ .defer c) (hrun : (execOp a.eval o).run P U = .ok .skip U') (h : K (a.put o.dst undef) U') : Oper.wpIn (Fence.wide.inRound l) n P o a U K Q :=
  ⟨fun _ _ => trivial, by rw [Oper.semAt_plain _ _ _ hnd, hrun]; exact h⟩
theorem op_val {v : Value} (hg : o.guard = none) (hnd : ∀ c, o.op ≠ .defer c) (hrun : (execOp a.eval o).run P U = .ok (.value v) U') (h : K (a.put o.dst v) U') :
    if Region.wanted o (yielded ops a.tmps) = true then Oper.wpIn (Fence.wide.inRound l) n P o a U K Q else (∀ f, o.about P U a.eval = some f → (Fence.wide.inRound l).fn f) ∧ K (a.put o.dst undef) U := by
  rw [if_pos (by simp [Region.wanted, hg])]
  exact op_val0 hnd hrun h
theorem op_skip (hg : o.guard = none) (hnd : ∀ c, o.op ≠ .defer c) (hrun : (execOp a.eval o).run P U = .ok .skip U') (h : K (a.put o.dst undef) U') :
    if Region.wanted o (yielded ops a.tmps) = true then Oper.wpIn (Fence.wide.inRound l) n P o a U K Q else (∀ f, o.about P U a.eval = some f → (Fence.wide.inRound l).fn f) ∧ K (a.put o.dst undef) U := by
  rw [if_pos (by simp [Region.wanted, hg])]
  exact op_skip0 hnd hrun h
theorem op_call {f : FuncId} {args : Array Value} {R : Ending → World → Prop} (hg : o.guard = none) (hnd : ∀ c, o.op ≠ .defer c) (hrun : (execOp a.eval o).run P U = .ok (.enter f args) U') (hc : Calls P f args U' R) (h : ∀ e V, R e V → ∃ v, e = .returned v ∧ K (a.put o.dst v) V) :
    if Region.wanted o (yielded ops a.tmps) = true then Oper.wpIn (Fence.wide.inRound l) n P o a U K Q else (∀ f, o.about P U a.eval = some f → (Fence.wide.inRound l).fn f) ∧ K (a.put o.dst undef) U := by
  rw [if_pos (by simp [Region.wanted, hg])]
  refine ⟨fun _ _ => trivial, ?_⟩
  rw [Oper.semAt_plain _ _ _ hnd, hrun]
  refine ⟨fun h => by simp [Fence.wide] at h, ((wide_of hc).inRound l).mono fun e V he => ?_⟩
  obtain ⟨v, rfl, hk⟩ := h e V he
  exact hk
end

/-- What a statement leaves alone of the slots. -/
structure Frz (a : Act) (p4 p5 p6 : Value) : Prop where
  sz : 19 < a.tmps.size
  e4 : a.eval (.tmp 4) = p4
  e5 : a.eval (.tmp 5) = p5
  e6 : a.eval (.tmp 6) = p6
theorem Frz.put {a : Act} {p4 p5 p6 v : Value} (h : Frz a p4 p5 p6) {d : Nat} (hd : 7 ≤ d) : Frz (a.put (some d) v) p4 p5 p6 :=
  ⟨Nat.lt_of_lt_of_eq h.sz sz_put.symm, (ev_ne (by omega)).trans h.e4, (ev_ne (by omega)).trans h.e5, (ev_ne (by omega)).trans h.e6⟩

/-- The statement's operations. -/
def q0 : Oper := { dst := some 12, op := .load 56 (.tmp 4), type := 56, pos := "frame.go:39", after := #[], guard := none }
def q1 : Oper := { dst := some 13, op := .move (.tmp 7), type := 49, pos := "frame.go:39", after := #[], guard := none }
def q2 : Oper := { dst := some 14, op := .call { callee := .value (.func 102), args := #[.tmp 13], argTypes := #[49] }, type := 49, pos := "frame.go:39", after := #[{ on := 1, ground := .data }], guard := none }
def q3 : Oper := { dst := some 15, op := .buildSlice 56 1 #[(0, .tmp 14)], type := 56, pos := "frame.go:39", after := #[{ on := 2, ground := .data }], guard := none }
def q4 : Oper := { dst := some 16, op := .call { callee := .builtin .append, args := #[.tmp 12, .tmp 15], argTypes := #[56, 56] }, type := 56, pos := "frame.go:39", after := #[{ on := 0, ground := .data }, { on := 3, ground := .data }, { on := 2, ground := .chain }], guard := none }
def q5 : Oper := { dst := none, op := .store 56 (.tmp 4) (.tmp 16), type := 0, pos := "frame.go:39", after := #[{ on := 4, ground := .data }, { on := 4, ground := .chain }, { on := 0, ground := .phase }, { on := 1, ground := .phase }, { on := 2, ground := .phase }, { on := 3, ground := .phase }, { on := 4, ground := .phase }], guard := none }
def ops6 : Array Oper := #[q0, q1, q2, q3, q4, q5]
def r0 : Oper := { dst := some 17, op := .move (.tmp 6), type := 3, pos := "frame.go:40", after := #[], guard := none }
def r1 : Oper := { dst := none, op := .store 3 (.tmp 5) (.tmp 17), type := 0, pos := "frame.go:40", after := #[{ on := 0, ground := .data }, { on := 0, ground := .phase }], guard := none }
def ops7 : Array Oper := #[r0, r1]

theorem region7_in (l n : Nat) (Q : Exit → Act → World → Prop) (a : Act) (V : World) (ob tb : Nat) (E : Int) (u : Value) (hF : Frz a (.pointer (some ⟨ob, 0, none⟩)) (.pointer (some ⟨tb, 0, none⟩)) (.int .i64 E))
    (hbox : Boxed V tb 3 u) (hQ : ∀ a', Q .normal a' (V.setCell ⟨tb, 0, none⟩ (.int .i64 E))) : (Code.region 7 ops7 false).wpIn (Fence.wide.inRound l) n Tryz.prog Q a V := by
  have mv : ∀ (ρ : Operand → Value), ρ (.tmp 6) = .int .i64 E → (execOp ρ r0).run Tryz.prog V = .ok (.value (.int .i64 E)) V := by
    intro ρ h1
    simp [execOp, r0, h1, go_sem]
  have st : ∀ (ρ : Operand → Value), ρ (.tmp 5) = .pointer (some ⟨tb, 0, none⟩) → ρ (.tmp 17) = .int .i64 E → (execOp ρ r1).run Tryz.prog V = .ok .skip (V.setCell ⟨tb, 0, none⟩ (.int .i64 E)) := by
    intro ρ h1 h2
    have h3 := hbox.cell
    have h4 := hbox.frozen
    simp [execOp, r1, h1, h2, go_sem, h3, h4]
  refine wpIn_region_list ?_
  show wpListIn (Fence.wide.inRound l) n Tryz.prog ops7 Q [r0, r1] a V
  exact wpListIn_plain rfl fun K hK => op_val0 (v := .int .i64 E) (U' := V) (fun c h => by cases h) (mv _ hF.e6) (hK _ _ (wpListIn_plain rfl fun K hK => op_skip0 (U' := V.setCell ⟨tb, 0, none⟩ (.int .i64 E)) (fun c h => by cases h) (st _ (hF.put (d := 17) (by omega)).e5 (ev_same (d := 17) (by have := hF.sz; omega))) (hK _ _ (wpListIn_nil (hQ _)))))

set_option maxRecDepth 100000 in
set_option maxHeartbeats 2000000 in
theorem region6_in (l n : Nat) (Q : Exit → Act → World → Prop) (a : Act) (V : World) (ob base : Nat) (p5 p6 : Value) (x : SlV) (A9 : Option Addr) (c9 : Nat) (Lo : List SlV) (hF : Frz a (.pointer (some ⟨ob, 0, none⟩)) p5 p6) (h7 : a.eval (.tmp 7) = x.v)
    (hbox : Boxed V ob 56 (.slice A9 Lo.length c9)) (hby : By V V.heap.size x.ad x.data) (hdl : x.data.length ≤ 1048576)
    (hown : V.ownsRow base 49 1 (.slice A9 Lo.length c9) Lo.length (scells Lo)) (hbase : base ≤ V.heap.size) (hlo : Lo.length ≤ 1048576)
    (hQ : ∀ a' U1 A' c' U3 Ar cr, Frz a' (.pointer (some ⟨ob, 0, none⟩)) p5 p6 → Own8 U1 V.heap.size (.slice A' x.data.length c') x.data → Below V.heap.size V U1 → U3.ownsRow base 49 1 (.slice Ar (Lo.length + 1) cr) (Lo.length + 1) (scells Lo ++ [.slice A' x.data.length c']) → (U1.alloc (.cells #[.slice A' x.data.length c'] 49)).grownBy U3 (Value.slice A9 Lo.length c9).ownBlock → Q .normal a' (U3.setCell ⟨ob, 0, none⟩ (.slice Ar (Lo.length + 1) cr))) :
    (Code.region 6 ops6 true).wpIn (Fence.wide.inRound l) n Tryz.prog Q a V := by
  obtain ⟨i0, hi, hz0, hz1, hz2⟩ := info_parts Tryz.infoS
  have cO := hbox.cell
  have ld0 : ∀ (ρ : Operand → Value) (U : World), ρ (.tmp 4) = .pointer (some ⟨ob, 0, none⟩) → U.cell? ⟨ob, 0, none⟩ = some (.slice A9 Lo.length c9) → (execOp ρ q0).run Tryz.prog U = .ok (.value (.slice A9 Lo.length c9)) U := by
    intro ρ U h1 h2
    simp [execOp, q0, h1, go_sem, h2]
  have ld1 : ∀ (ρ : Operand → Value) (U : World), ρ (.tmp 7) = x.v → (execOp ρ q1).run Tryz.prog U = .ok (.value x.v) U := by
    intro ρ U h1
    simp [execOp, q1, h1, go_sem]
  have cl2 : ∀ (ρ : Operand → Value) (U : World), ρ (.tmp 13) = x.v → ρ (.func 102) = .func (.func 102) #[] #[] → (execOp ρ q2).run Tryz.prog U = .ok (.enter 102 #[x.v]) U := by
    intro ρ U h1 h2
    have hcall : ∀ U, (callFunc 102 #[x.v]).run Tryz.prog U = .ok (.enter 102 #[x.v]) U := fun U => enters_of Tryz.func102 (by kernel_rfl) rfl _ U
    simp [execOp, q2, h1, h2, go_sem, hcall]
  have bs3 : ∀ (ρ : Operand → Value) (U : World) (A' : Option Addr) (c' : Nat), ρ (.tmp 14) = .slice A' x.data.length c' → (execOp ρ q3).run Tryz.prog U = .ok (.value (.slice (some ⟨U.heap.size, 0, none⟩) 1 1)) (U.alloc (.cells #[.slice A' x.data.length c'] 49)) := by
    intro ρ U A' c' h1
    simp [execOp, q3, h1, go_sem]
  have st5 : ∀ (ρ : Operand → Value) (U : World) (Ar : Option Addr) (nr cr : Nat) (u : Value), ρ (.tmp 4) = .pointer (some ⟨ob, 0, none⟩) → ρ (.tmp 16) = .slice Ar nr cr → U.cell? ⟨ob, 0, none⟩ = some u → U.frozen? ⟨ob, 0, none⟩ = false → (execOp ρ q5).run Tryz.prog U = .ok .skip (U.setCell ⟨ob, 0, none⟩ (.slice Ar nr cr)) := by
    intro ρ U Ar nr cr u h1 h2 h3 h4
    simp [execOp, q5, h1, h2, go_sem, h3, h4]
  have ap4 : ∀ (ρ : Operand → Value) (U : World) (vs vx v' : Value) (U' : World), ρ (.tmp 12) = vs → ρ (.tmp 15) = vx → (Builtin.append_ #[56, 56] 56 #[vs, vx]).run Tryz.prog U = .ok v' U' → (execOp ρ q4).run Tryz.prog U = .ok (.value v') U' := by
    intro ρ U vs vx v' U' h1 h2 h3
    simp [execOp, q4, resolve, invoke, builtin, h1, h2, h3, Result.andThen]
  have HO := fun (U : World) (hU : By U U.heap.size x.ad x.data) => clone_any x.ad x.cap x.data U hU (by omega)
  have obU : ∀ U1, Below V.heap.size V U1 → Boxed U1 ob 56 (.slice A9 Lo.length c9) := fun U1 hB => (hB.block ob hbox.lt).trans hbox
  have ownU : ∀ U1, Below V.heap.size V U1 → U1.ownsRow base 49 1 (.slice A9 Lo.length c9) Lo.length (scells Lo) := fun U1 hB => hown.kept (grown_of_below hB) (by cases (Value.slice A9 Lo.length c9).ownBlock <;> simp)
  have N5 : ∀ (a : Act) (U1 : World) (A' : Option Addr) (c' : Nat) (U3 : World) (Ar : Option Addr) (cr : Nat), Frz a (.pointer (some ⟨ob, 0, none⟩)) p5 p6 → a.eval (.tmp 16) = .slice Ar (Lo.length + 1) cr → Own8 U1 V.heap.size (.slice A' x.data.length c') x.data → Below V.heap.size V U1 →
      U3.ownsRow base 49 1 (.slice Ar (Lo.length + 1) cr) (Lo.length + 1) (scells Lo ++ [.slice A' x.data.length c']) → (U1.alloc (.cells #[.slice A' x.data.length c'] 49)).grownBy U3 (Value.slice A9 Lo.length c9).ownBlock →
      wpAnyIn (Fence.wide.inRound l) n Tryz.prog .any ops6 Q 1 #[true, true, true, true, true, false] a U3 := by
    intro a U1 A' c' U3 Ar cr gz g16 o8 hB1 hown3 hg3
    have hb3 := ((obU U1 hB1).alloc (.cells #[.slice A' x.data.length c'] 49)).kept hg3 ((obU U1 hB1).not_row (by decide) (ownU U1 hB1))
    exact wpAnyIn_ready (rs := [5]) (by kernel_rfl) (by simp) (AllReadyIn.cons rfl (fun K hK => op_skip rfl (fun c h => by cases h) (st5 a.eval U3 Ar _ cr _ gz.e4 g16 hb3.cell hb3.frozen) (hK _ _ (wpAnyIn_done (by kernel_rfl) (hQ a U1 A' c' U3 Ar cr gz o8 hB1 hown3 hg3) _))) AllReadyIn.nil)
  have N4 : ∀ (a : Act) (U1 : World) (A' : Option Addr) (c' : Nat), Frz a (.pointer (some ⟨ob, 0, none⟩)) p5 p6 → a.eval (.tmp 12) = .slice A9 Lo.length c9 → a.eval (.tmp 15) = .slice (some ⟨U1.heap.size, 0, none⟩) 1 1 → Own8 U1 V.heap.size (.slice A' x.data.length c') x.data → Below V.heap.size V U1 →
      wpAnyIn (Fence.wide.inRound l) n Tryz.prog .any ops6 Q 2 #[true, true, true, true, false, false] a (U1.alloc (.cells #[.slice A' x.data.length c'] 49)) := by
    intro a U1 A' c' gz g12 g15 o8 hB1
    obtain ⟨v', U3, hrun, hown3, hg3, _⟩ := run_append_own (P := Tryz.prog) (U1.alloc (.cells #[.slice A' x.data.length c'] 49)) base 56 56 49 i0 _ 1 24 Tryz.underlying56 hi hz0 hz1 hz2 rfl (by decide) _ _ _ ((ownU U1 hB1).alloc _) ⟨U1.heap.size, 0, none⟩ 1 1 [.slice A' x.data.length c'] rfl (World.news_of_block (cs := #[.slice A' x.data.length c']) (t := 49) (fr := (0, 0)) (heap_alloc_new U1 _)) (by simp [Value.oneCell']) (by unfold maxLen; omega) (by omega) (by simp; have := hB1.size; omega)
    obtain ⟨Ar, cr, rfl, _⟩ := own_form hown3
    exact wpAnyIn_ready (rs := [4]) (by kernel_rfl) (by simp) (AllReadyIn.cons rfl (fun K hK => op_val rfl (fun c h => by cases h) (ap4 a.eval _ _ _ _ _ g12 g15 hrun) (hK _ _ (N5 _ U1 A' c' U3 Ar cr (gz.put (by omega)) (ev_same (by have := gz.sz; omega)) o8 hB1 hown3 hg3))) AllReadyIn.nil)
  have N3' : ∀ (a : Act) (U1 : World) (A' : Option Addr) (c' : Nat), Frz a (.pointer (some ⟨ob, 0, none⟩)) p5 p6 → a.eval (.tmp 12) = .slice A9 Lo.length c9 → a.eval (.tmp 14) = .slice A' x.data.length c' → Own8 U1 V.heap.size (.slice A' x.data.length c') x.data → Below V.heap.size V U1 →
      wpAnyIn (Fence.wide.inRound l) n Tryz.prog .any ops6 Q 3 #[true, true, true, false, false, false] a U1 := by
    intro a U1 A' c' gz g12 g14 o8 hB1
    exact wpAnyIn_ready (rs := [3]) (by kernel_rfl) (by simp) (AllReadyIn.cons rfl (fun K hK => op_val rfl (fun c h => by cases h) (bs3 a.eval U1 A' c' g14) (hK _ _ (N4 _ U1 A' c' (gz.put (by omega)) ((ev_ne (d := 15) (by decide)).trans g12) (ev_same (by have := gz.sz; omega)) o8 hB1))) AllReadyIn.nil)
  have N3 : ∀ (a : Act) (U1 : World) (A' : Option Addr) (c' : Nat), Frz a (.pointer (some ⟨ob, 0, none⟩)) p5 p6 → a.eval (.tmp 15) = .slice (some ⟨U1.heap.size, 0, none⟩) 1 1 → Own8 U1 V.heap.size (.slice A' x.data.length c') x.data → Below V.heap.size V U1 →
      wpAnyIn (Fence.wide.inRound l) n Tryz.prog .any ops6 Q 3 #[false, true, true, true, false, false] a (U1.alloc (.cells #[.slice A' x.data.length c'] 49)) := by
    intro a U1 A' c' gz g15 o8 hB1
    exact wpAnyIn_ready (rs := [0]) (by kernel_rfl) (by simp) (AllReadyIn.cons rfl (fun K hK => op_val rfl (fun c h => by cases h) (ld0 a.eval _ gz.e4 ((obU U1 hB1).alloc _).cell) (hK _ _ (N4 _ U1 A' c' (gz.put (by omega)) (ev_same (by have := gz.sz; omega)) ((ev_ne (d := 12) (by decide)).trans g15) o8 hB1))) AllReadyIn.nil)
  have N2 : ∀ (a : Act) (U1 : World) (A' : Option Addr) (c' : Nat), Frz a (.pointer (some ⟨ob, 0, none⟩)) p5 p6 → a.eval (.tmp 14) = .slice A' x.data.length c' → Own8 U1 V.heap.size (.slice A' x.data.length c') x.data → Below V.heap.size V U1 →
      wpAnyIn (Fence.wide.inRound l) n Tryz.prog .any ops6 Q 4 #[false, true, true, false, false, false] a U1 := by
    intro a U1 A' c' gz g14 o8 hB1
    exact wpAnyIn_ready (rs := [0, 3]) (by kernel_rfl) (by simp)
      (AllReadyIn.cons rfl (fun K hK => op_val rfl (fun c h => by cases h) (ld0 a.eval _ gz.e4 (obU U1 hB1).cell) (hK _ _ (N3' _ U1 A' c' (gz.put (by omega)) (ev_same (by have := gz.sz; omega)) ((ev_ne (d := 12) (by decide)).trans g14) o8 hB1)))
      (AllReadyIn.cons rfl (fun K hK => op_val rfl (fun c h => by cases h) (bs3 a.eval U1 A' c' g14) (hK _ _ (N3 _ U1 A' c' (gz.put (by omega)) (ev_same (by have := gz.sz; omega)) o8 hB1))) AllReadyIn.nil))
  have belowV : ∀ U1, Below V.drew.heap.size V.drew U1 → Below V.heap.size V U1 := fun U1 h => ⟨h.os, h.tape, h.output, h.size, h.block⟩
  have N2' : ∀ (a : Act), Frz a (.pointer (some ⟨ob, 0, none⟩)) p5 p6 → a.eval (.tmp 12) = .slice A9 Lo.length c9 → a.eval (.tmp 13) = x.v → wpAnyIn (Fence.wide.inRound l) n Tryz.prog .any ops6 Q 4 #[true, true, false, false, false, false] a V.drew := by
    intro a gz g12 g13
    exact wpAnyIn_ready (rs := [2]) (by kernel_rfl) (by simp) (AllReadyIn.cons rfl (fun K hK => op_call rfl (fun c h => by cases h) (cl2 a.eval _ g13 rfl) (HO V.drew hby.drew) (fun e U1 ⟨A', c', he, o8, hB1⟩ => ⟨_, he, hK _ _ (N3' _ U1 A' c' (gz.put (by omega)) ((ev_ne (d := 14) (by decide)).trans g12) (ev_same (by have := gz.sz; omega)) o8 (belowV U1 hB1))⟩)) AllReadyIn.nil)
  have N1 : ∀ (a : Act), Frz a (.pointer (some ⟨ob, 0, none⟩)) p5 p6 → a.eval (.tmp 13) = x.v → wpAnyIn (Fence.wide.inRound l) n Tryz.prog .any ops6 Q 5 #[false, true, false, false, false, false] a V.drew := by
    intro a gz g13
    exact wpAnyIn_ready (rs := [0, 2]) (by kernel_rfl) (by simp)
      (AllReadyIn.cons rfl (fun K hK => op_val rfl (fun c h => by cases h) (ld0 a.eval _ gz.e4 cO) (hK _ _ (N2' _ (gz.put (by omega)) (ev_same (by have := gz.sz; omega)) ((ev_ne (d := 12) (by decide)).trans g13))))
      (AllReadyIn.cons rfl (fun K hK => op_call rfl (fun c h => by cases h) (cl2 a.eval _ g13 rfl) (HO V.drew hby.drew) (fun e U1 ⟨A', c', he, o8, hB1⟩ => ⟨_, he, hK _ _ (N2 _ U1 A' c' (gz.put (by omega)) (ev_same (by have := gz.sz; omega)) o8 (belowV U1 hB1))⟩)) AllReadyIn.nil))
  refine wpIn_region_any (by kernel_rfl) ?_
  show wpAnyIn (Fence.wide.inRound l) n Tryz.prog .any ops6 Q 6 #[false, false, false, false, false, false] a V.drew
  exact wpAnyIn_ready (rs := [0, 1]) (by kernel_rfl) (by simp)
    (AllReadyIn.cons rfl (fun K hK => op_val rfl (fun c h => by cases h) (ld0 a.eval _ hF.e4 cO) (hK _ _ (wpAnyIn_ready (rs := [1]) (by kernel_rfl) (by simp) (AllReadyIn.cons rfl (fun K hK => op_val rfl (fun c h => by cases h) (ld1 _ _ ((ev_ne (d := 12) (by decide)).trans h7)) (hK _ _ (N2' _ ((hF.put (d := 12) (by omega)).put (d := 13) (by omega)) ((ev_ne (d := 13) (by decide)).trans (ev_same (d := 12) (by have := hF.sz; omega))) (ev_same (d := 13) (by have := hF.sz; simp only [sz_put]; omega))))) AllReadyIn.nil))))
    (AllReadyIn.cons rfl (fun K hK => op_val rfl (fun c h => by cases h) (ld1 a.eval _ h7) (hK _ _ (N1 _ (hF.put (d := 13) (by omega)) (ev_same (by have := hF.sz; omega))))) AllReadyIn.nil))
end Go.Proofs.YtalmjmhbpmhokaaGreat
end

/- frame.Scan. -/
section
namespace Go.Proofs.YtalmjmhbpmhokaaGreat
open Go.RowKit Go.Shelf
attribute [local go_sem] Oper.semAt_some

/-- Records and a number of bytes are answered; nothing that lay has turned. -/
def GivesS (w : World) (ls : List (List UInt8)) (k : Nat) (e : Ending) (w' : World) : Prop :=
  ∃ A c L, e = .returned (.tuple #[.slice A L.length c, .int .i64 (k : Int)]) ∧ datas L = ls ∧ Ls w' w'.heap.size A L ∧ L.length ≤ c ∧ Below w.heap.size w w'

/-- The same, and all of it lies in memory that was made since. -/
def GivesT (w : World) (ls : List (List UInt8)) (k : Nat) (e : Ending) (w' : World) : Prop :=
  ∃ A c L, e = .returned (.tuple #[.slice A L.length c, .int .i64 (k : Int)]) ∧ datas L = ls ∧ RowS w w' (.slice A L.length c) L
theorem GivesT.s {w : World} {ls : List (List UInt8)} {k : Nat} {e : Ending} {w' : World} (h : GivesT w ls k e w') : GivesS w ls k e w' := by
  obtain ⟨A, c, L, rfl, h1, h2⟩ := h
  obtain ⟨A', c', e', hc, hls⟩ := h2.form
  injection e' with e1 _ e3
  subst e1 e3
  exact ⟨A, c, L, rfl, h1, hls, hc, h2.low⟩

theorem boxed_put {W : World} {B : Nat} {t : TypeId} {v : Value} (h : Boxed W B t v) {D : Nat} {x : Option (List Deferred)} (hK : W.heap[D]? = some (.deferred x)) (o : Obj) : Boxed (W.putObj D o) B t v := by
  refine h.kept (grownBy_putObj' W D o) ?_
  intro e
  cases e
  unfold Boxed at h
  rw [h] at hK
  cases hK
theorem ownAll_own (lo : Nat) : Own (fun (L : List SlV) V => OwnAll V lo L) := by
  intro L X Y row h hg hr x hx
  refine (h x hx).kept hg ?_
  rcases (h x hx).2 with ⟨e, _⟩ | ⟨g, cap, cur, e1, _, e3, _⟩
  · rw [e]; exact .inl rfl
  · rw [e1]
    refine .inr (fun e => ?_)
    obtain ⟨o, ho, hc⟩ := hr g (by rw [← e]; rfl)
    rw [e3] at ho
    cases ho
    simp [Obj.isCells] at hc
theorem OwnAll.put {V : World} {lo : Nat} {L : List SlV} (h : OwnAll V lo L) {D : Nat} {x : Option (List Deferred)} (hK : V.heap[D]? = some (.deferred x)) (o : Obj) : OwnAll (V.putObj D o) lo L := by
  intro y hy
  refine (h y hy).kept (grownBy_putObj' V D o) ?_
  rcases (h y hy).2 with ⟨e, _⟩ | ⟨g, cap, cur, e1, _, e3, _⟩
  · rw [e]; exact .inl rfl
  · rw [e1]
    refine .inr (fun e => ?_)
    simp [Value.ownBlock] at e
    subst e
    rw [e3] at hK
    cases hK
theorem own_cellB {V : World} {lo : Nat} {L : List SlV} (h : OwnAll V lo L) {b : Nat} {t : TypeId} {v : Value} (hv : Boxed V b t v) (ht : t ≠ 5) (u : Value) : OwnAll (V.setCell ⟨b, 0, none⟩ u) lo L :=
  fun x hx => (h x hx).kept (grownBy_setCell' V b u) (.inr (hv.not_row ht (h x hx)).symm)

/-- What the body of Scan keeps to. -/
def ScanI (w W0 : World) (pre : List (Rec w)) (V : World) : Prop :=
  ((∃ Lo : List SlV, datas Lo = recs pre ∧ (∃ v, Boxed V w.heap.size 56 v ∧ V.ownsRow W0.heap.size 49 1 v Lo.length (scells Lo) ∧ True) ∧ OwnAll V W0.heap.size Lo) ∧ Boxed V (w.heap.size + 1) 3 (.int .i64 (lastE pre : Int))) ∧ Kq W0.heap.size w.heap.size (w.heap.size + 2) W0 V ∧ Below w.heap.size w V

theorem scanI_own (w W0 : World) (hw : w.heap.size ≤ W0.heap.size) : OwnFrom W0.heap.size (ScanI w W0) := by
  rintro s X Y row ⟨⟨⟨Lo, h1, h2, h3⟩, hb⟩, h4, h5⟩ hg hr
  refine ⟨⟨⟨Lo, h1, holdsRow_own (β := List SlV) W0.heap.size w.heap.size _ _ 1 (fun s => s.length) (fun s => scells s) (fun _ _ => True) Lo X Y row h2 hg (fun r e => (hr r e).2), ownAll_own W0.heap.size Lo X Y row h3 hg (fun r e => (hr r e).2)⟩,
    boxed_own _ _ (fun (s : List (Rec w)) => (.int .i64 (lastE s : Int))) s X Y row hb hg (fun r e => (hr r e).2)⟩, h4.grown hg (by have := h4.1; omega) (fun g e => .inl (hr g e).1), h5.grown hg h5.size (fun g e => by have := (hr g e).1; omega)⟩

set_option maxRecDepth 100000 in
set_option maxHeartbeats 3000000 in
theorem scanned_in (A : Option Addr) (c : Nat) (b : List UInt8) (hb : b.length ≤ 1048576) (hcap : b.length ≤ c) (w : World) (h : By w w.heap.size A b) :
    CallsIn Fence.wide 3 Tryz.prog 71 #[.slice A b.length c] w (GivesT w (scanL b) (tot (scanL b))) := by
  refine callsIn_of_wp_marks Tryz.func71 rfl trivial ?_ rfl
  simp only [Tryz.ntmps71, List.size_toArray, List.length_cons, List.length_nil, Nat.reduceAdd, Nat.reduceSub, Array.replicate_succ, Array.replicate_zero, List.push_toArray, List.append_toArray, List.nil_append, List.cons_append]
  gi_wp2_with fail
  refine ⟨trivial, (wide_of (frames_any _ _ _ _)).mono ?_⟩
  rintro e w' ⟨rfl, rfl⟩
  gi_wp2_with fail
  obtain ⟨w3, hw3⟩ : ∃ w3, w3 = ((w.alloc (.cells #[.slice none 0 0] 56)).alloc (.cells #[.int .i64 0] 3)).alloc (.cells #[.slice A b.length c] 49) := ⟨_, rfl⟩
  rw [← hw3]
  have z3 : w3.heap.size = w.heap.size + 1 + 1 + 1 := by rw [hw3]; simp
  have hB3 : Below w.heap.size w w3 := by rw [hw3]; exact (((Below.refl _ w).alloc (Nat.le_refl _) _).alloc (by simp) _).alloc (by simp; omega) _
  have b0 : Boxed w3 w.heap.size 56 (.slice none 0 0) := by rw [hw3]; exact ((Boxed.new w _ _).alloc _).alloc _
  have b1 : Boxed w3 (w.heap.size + 1) 3 (.int .i64 0) := by rw [hw3]; have := (Boxed.new (w.alloc (.cells #[.slice none 0 0] 56)) 3 (.int .i64 0)).alloc (.cells #[.slice A b.length c] 49); simpa using this
  have b2 : Boxed w3 (w.heap.size + 1 + 1) 49 (.slice A b.length c) := by rw [hw3]; have := Boxed.new ((w.alloc (.cells #[.slice none 0 0] 56)).alloc (.cells #[.int .i64 0] 3)) 49 (.slice A b.length c); simpa using this
  clear hw3
  refine range_ends (F := Fence.wide) (α := Rec w) rfl (by omega) (gf := 126) (lb := #[.pointer (some ⟨w.heap.size + 1 + 1, 0, none⟩)]) (by simp [Act.eval]) trivial (enters_of Tryz.func126 (by kernel_rfl) rfl)
    (frames_ends 2 (by omega) (w.heap.size + 1 + 1) w.heap.size (w.heap.size + 2) w A c b hb hcap w3 (by omega) (Nat.le_refl _) hB3 b2 h) kq_t (fun V => kq_b (Nat.le_refl _) V) ?bS ?bSp (Below.refl _ _) (fun _ => rfl)
    (ScanI w w3) (fun _ _ _ => False) (scanI_own w w3 hB3.size) (fun c => ownFrom_pure _ (fun _ => False))
    ⟨⟨⟨[], rfl, ⟨_, b0, ⟨rfl, .inl ⟨rfl, rfl⟩⟩, trivial⟩, OwnAll.nil _ _⟩, b1⟩, Kq.refl _, hB3⟩
    (fun x V => { tmps := #[.slice A b.length c, undef, .slice none 0 0, .int .i64 0, .pointer (some ⟨w.heap.size, 0, none⟩), .pointer (some ⟨w.heap.size + 1, 0, none⟩), .int .i64 (x.1.1 : Int), x.1.2.v, .slice A b.length c, .func (.func 126) #[] #[.pointer (some ⟨w.heap.size + 1 + 1, 0, none⟩)], .int .i64 (x.1.1 : Int), x.1.2.v, undef, undef, undef, undef, undef, undef, undef, undef], defers := [] })
    (fun x V => V) (fun x V => World.grownBy.refl V _) (fun x V hV => Kq.refl _)
    (fun x V U => True) (fun x V => trivial) ?bG ?assign ?body ?done ?stop
  case bS => exact fun xs V l o o' h _ _ _ => h
  case bSp => exact fun xs V l o o' h _ _ _ => h
  case bG => exact fun x V V' l o o' h _ _ _ => trivial
  case assign =>
    intro l x V K hK
    clear z3
    simp only [encR]
    gi_wp2
    exact hK
  case stop =>
    rintro D c pre V _ _ h _
    exact h.elim
  case body =>
    rintro l pre x V U - ⟨⟨⟨Lo, hlo, ⟨v, hv, hrow, -⟩, hoa⟩, ht⟩, hK, hB⟩ - hV hU hlen
    obtain ⟨A9, c9, rfl, _⟩ := own_form hrow
    have hMU : w3.heap.size ≤ U.heap.size := hK.1
    have hby : By U U.heap.size x.1.2.ad x.1.2.data := (x.2.1.below hB).more hB.size
    have hll : Lo.length = pre.length := by have := congrArg List.length hlo; rw [datas_length, recs_length] at this; exact this
    refine wpIn_block (wpIn_seq ?_)
    refine region6_in l _ _ _ U w.heap.size w3.heap.size (.pointer (some ⟨w.heap.size + 1, 0, none⟩)) (.int .i64 (x.1.1 : Int)) x.1.2 A9 c9 Lo ⟨by simp, rfl, rfl, rfl⟩ rfl hv hby x.2.2.2 hrow hMU (by omega) ?_
    intro a' U1 A' c' U3 Ar cr gz o8 hB1 hown3 hg3
    have s1 := hB1.size
    have bo1 : Boxed U1 w.heap.size 56 (.slice A9 Lo.length c9) := (hB1.block _ hv.lt).trans hv
    have t1 : Boxed U1 (w.heap.size + 1) 3 (.int .i64 (lastE pre : Int)) := (hB1.block _ ht.lt).trans ht
    have own1 := hrow.kept (grown_of_below hB1) (by cases (Value.slice A9 Lo.length c9).ownBlock <;> simp)
    obtain ⟨bo3, bo4, own4, ko, hb4⟩ := bo1.appended (tmp := .cells #[.slice A' x.1.2.data.length c'] 49) (n₀ := w.heap.size) (by decide) (own_lower own1 (by omega)) (by omega) (by omega) (own_lower hown3 (by omega)) hg3
    have kq1 : Kq w3.heap.size w.heap.size (w.heap.size + 2) U U1 := (Kq.refl U).grown (grown_of_below hB1) hMU (fun g e => by cases e)
    have kq2 := kq1.grown (World.grownBy_alloc U1 (.cells #[.slice A' x.1.2.data.length c'] 49) none) (by omega) (fun g e => by cases e)
    have kq3 := kq2.grown hg3 (by simp; omega) (fun g e => .inl (own1.lt g e).1)
    have kq4 := kq3.grown (grownBy_setCell' U3 w.heap.size (.slice Ar (Lo.length + 1) cr)) (by have := hg3.size; simp at this; omega) (fun g e => .inr (by cases e; omega))
    have t2 := (t1.alloc (.cells #[.slice A' x.1.2.data.length c'] 49)).kept hg3 (t1.not_row (by decide) own1)
    have t3 := t2.other (B' := w.heap.size) (by omega) (.slice Ar (Lo.length + 1) cr)
    have r4 := hown3.kept (grownBy_setCell' U3 w.heap.size (.slice Ar (Lo.length + 1) cr)) (.inr (bo3.not_row (by decide) hown3).symm)
    have oa1 : OwnAll U1 w3.heap.size (Lo ++ [⟨A', c', x.1.2.data⟩]) := (hoa.below hB1).snoc (own_lower o8 hMU)
    have oa2 := (oa1.below ((Below.refl _ U1).alloc (Nat.le_refl _) (.cells #[.slice A' x.1.2.data.length c'] 49))).grown (own1.alloc _) (by decide) hg3
    have oa3 := own_cellB oa2 bo3 (by decide) (.slice Ar (Lo.length + 1) cr)
    have hB3' := (hB.trans (hB1.mono hB.size)).trans hb4
    have kf : KeepsOthers U (U3.setCell ⟨w.heap.size, 0, none⟩ (.slice Ar (Lo.length + 1) cr)) := (KeepsOthers.of_grownBy (grown_of_below hB1) (fun j o e => by cases e)).trans ko
    clear own4 ko hb4 kq1 kq2 kq3 t1 t2 oa1 oa2 hown3 hg3 o8 hB1 bo1 bo3 own1
    generalize U3.setCell ⟨w.heap.size, 0, none⟩ (.slice Ar (Lo.length + 1) cr) = U4 at *
    refine region7_in l _ _ a' U4 w.heap.size (w.heap.size + 1) (x.1.1 : Int) _ gz t3 fun a2 => ?_
    have b5 := bo4.other (B' := w.heap.size + 1) (by omega) (.int .i64 (x.1.1 : Int))
    have t4 := t3.set (.int .i64 (x.1.1 : Int))
    have r5 := r4.kept (grownBy_setCell' U4 (w.heap.size + 1) (.int .i64 (x.1.1 : Int))) (.inr (t3.not_row (by decide) r4).symm)
    have oa4 := own_cellB oa3 t3 (by decide) (.int .i64 (x.1.1 : Int))
    have kq5 := kq4.grown (grownBy_setCell' U4 (w.heap.size + 1) (.int .i64 (x.1.1 : Int))) (by have := kq4.1; omega) (fun g e => .inr (by cases e; omega))
    refine ⟨(kf.trans (KeepsOthers.setCell U4 ⟨w.heap.size + 1, 0, none⟩ _)).from _, kq5, ⟨⟨Lo ++ [⟨A', c', x.1.2.data⟩], ?_, ⟨_, b5, ?_, trivial⟩, oa4⟩, ?_⟩, kq_t hK kq5, hB3'.setCell (p := ⟨w.heap.size + 1, 0, none⟩) (by simp) _⟩
    · rw [datas_snoc, hlo, recs_snoc]
    · rw [scells_snoc, List.length_append]
      exact r5
    · rw [lastE_snoc]
      exact t4
  case done =>
    rintro D xs V hD ⟨hS1, hS2⟩ ⟨⟨⟨Lo, hlo, ⟨v, hv, hrow, -⟩, hoa⟩, ht⟩, hK, hB⟩ hKD
    obtain ⟨A9, c9, rfl, hc9⟩ := own_form hrow
    rw [hS1] at hlo
    rw [hS2] at ht
    have HLO := Lib.hid hlo
    have hDw : w.heap.size ≤ D := Nat.le_trans hB3.size hD
    have d0 := hv.cell
    have d1 := ht.cell
    have HZ3 := Lib.hid hB3.size
    clear hlo hS1 hS2 z3
    gi_wp2_with fail
    refine wpIn_wide.2 ?_
    go_quiet (fail)
    have hKD1 : (V.drewN nq).heap[D]? = some (.deferred (some [])) := hKD
    have hrow1 : (V.drewN nq).ownsRow w3.heap.size 49 1 (.slice A9 Lo.length c9) Lo.length (scells Lo) := hrow
    have hoa1 : OwnAll (V.drewN nq) w3.heap.size Lo := hoa
    have hB1 : Below w.heap.size w (V.drewN nq) := ⟨hB.os, hB.tape, hB.output, hB.size, hB.block⟩
    have r3 := ownsRow_putObj hrow1 (.deferred none) hKD1 rfl
    have hoa3 := hoa1.put hKD1 (.deferred none)
    have hB3 : Below w.heap.size w ((V.drewN nq).putObj D (.deferred none)) := hB1.trans (belowK_b (w := w) (Nat.le_refl _) _ D _ _ hDw hKD1 rfl rfl)
    gi_wp2
    refine ⟨by simp, .inl ⟨_, _, rfl, run_takeDeferred hKD1, ?_⟩⟩
    exact ⟨_, results_tmp2 rfl _ _ _, A9, c9, Lo, rfl, HLO.out, own_lower r3 HZ3.out, hoa3.lower HZ3.out, hB3⟩

theorem scan_own (A : Option Addr) (c : Nat) (b : List UInt8) (hb : b.length ≤ 1048576) (hcap : b.length ≤ c) (w : World) (h : By w w.heap.size A b) :
    Calls Tryz.prog 71 #[.slice A b.length c] w (GivesT w (scanL b) (tot (scanL b))) :=
  callsIn_wide.1 (scanned_in A c b hb hcap w h)
theorem scan_any (A : Option Addr) (c : Nat) (b : List UInt8) (hb : b.length ≤ 1048576) (hcap : b.length ≤ c) (w : World) (h : By w w.heap.size A b) :
    Calls Tryz.prog 71 #[.slice A b.length c] w (GivesS w (scanL b) (tot (scanL b))) :=
  (scan_own A c b hb hcap w h).mono fun _ _ h => h.s
end Go.Proofs.YtalmjmhbpmhokaaGreat
end

/- lessorref09.Scan. -/
section
namespace Go.Proofs.YtalmjmhbpmhokaaGreat
open Go.RowKit

theorem wpList_rowS {w0 w1 : World} {ops : Array Oper} {rest : List Oper} {o : Oper} {a : Act} {Q : Exit → Act → World → Prop} (hgd : o.guard = none) (s x : Operand)
    (ho : o.op = .call { callee := .builtin .append, args := #[s, x], argTypes := #[56, 56] }) {v : Value} {L : List SlV} (hs : a.eval s = v) (h : RowS w0 w1 v L)
    (x0 : SlV) (hx0 : Own8 w1 w0.heap.size x0.v x0.data) (hx : a.eval x = .slice (some ⟨w1.heap.size, 0, none⟩) 1 1) (hsz : L.length ≤ 1048576)
    (hk : ∀ v' w', RowS w0 w' v' (L ++ [x0]) → wpList Tryz.prog ops Q rest (a.put o.dst v') w') :
    wpList Tryz.prog ops Q (o :: rest) a (w1.alloc (.cells #[x0.v] 49)) := by
  obtain ⟨i, hi, hz0, hz1, hz2⟩ := info_parts Tryz.infoS
  have hb1 := h.low.alloc h.low.size (.cells #[x0.v] 49)
  refine wpList_append_own _ hgd s x _ ho w0.heap.size 49 i _ 1 24 Tryz.underlying56 hi hz0 hz1 hz2 rfl (by decide) v L.length _ hs (h.own.alloc _) ⟨w1.heap.size, 0, none⟩ 1 1 [x0.v] hx rfl (World.news_of_block (cs := #[x0.v]) (t := 49) (fr := (0, 0)) (heap_alloc_new w1 _)) (by simp [Value.oneCell']) (by unfold maxLen; omega) (by omega) hb1.size ?_
  intro v' w' hown' hg _
  refine hk v' w' ⟨?_, ?_, own_below hb1 hb1.size (h.own.alloc _) hg⟩
  · rw [List.length_append, scells_snoc]
    exact hown'
  · exact ((h.all.snoc hx0).below ((Below.refl _ w1).alloc (Nat.le_refl _) _)).grown (h.own.alloc _) (by decide) hg

set_option maxRecDepth 100000 in
set_option maxHeartbeats 3000000 in
theorem rscan_own (A : Option Addr) (c : Nat) (b : List UInt8) (hb : b.length ≤ 1048576) (hcap : b.length ≤ c) (w : World) (h : By w w.heap.size A b) :
    Calls Tryz.prog 77 #[.slice A b.length c] w (GivesT w (scanL b) (tot (scanL b))) := by
  go_enter Tryz.func77, Tryz.ntmps77
  go_wp2
  go_loopw [4, 5] (fun v i wr => ∃ (k : Nat) (L : List SlV), k ≤ b.length ∧ i = .int .i64 k ∧ RowS w wr v L ∧ k = tot (datas L) ∧ scanL b = datas L ++ scanL (b.drop k)) (fun _ i _ => b.length - (intOf i).toNat)
  case atStart => exact ⟨0, [], Nat.zero_le _, rfl, RowS.none_ w, rfl, rfl⟩
  case round =>
    obtain ⟨k, L, hk, rfl, hrow, hkt, hsc⟩ := hrel
    have hll : L.length ≤ b.length := by have := len_tot (datas L); rw [datas_length] at this; omega
    have HR := Lib.hid hrow
    have HSC := Lib.hid hsc
    have hby := h.below hrow.low
    have HKT := Lib.hid hkt
    obtain ⟨A', c', rfl, hlc, hls⟩ := hrow.form
    have HLS := Lib.hid hls
    have fin : firstF (b.drop k) = none → ∀ m, GivesT w (scanL b) (tot (scanL b)) (.returned (.tuple #[.slice A' L.length c', .int .i64 (k : Int)])) (wr.drewN m) := fun hn m => by
      rw [hsc, scan_none hn, List.append_nil, ← hkt]
      exact ⟨A', c', L, rfl, rfl, hrow.drewN m⟩
    have FIN := Lib.hid fin
    clear hrow hsc hkt hls fin
    by_cases hlt : k + 2 < b.length
    · have hd1 : decide ((k : Int) + 2 < (b.length : Int)) = true := by simp; omega
      obtain ⟨x, hx⟩ : ∃ x, b[k]? = some x := ⟨_, List.getElem?_eq_getElem (by omega)⟩
      obtain ⟨y, hy⟩ : ∃ y, b[k + 1]? = some y := ⟨_, List.getElem?_eq_getElem (by omega)⟩
      have HF := Lib.hid (first_at b k x y hx hy)
      obtain ⟨g, o, rfl, hg, h0⟩ := hby.at_ k x hx
      obtain ⟨g', o', hA, _, h1⟩ := hby.at_ (k + 1) y hy
      obtain ⟨rfl, rfl⟩ : g = g' ∧ o = o' := by injection hA with hA; injection hA with e1 e2; exact ⟨e1, e2⟩
      clear hA
      have hxb := x.toNat_lt
      have hyb := y.toNat_lt
      obtain ⟨n, hn⟩ : ∃ n, n = two x y := ⟨_, rfl⟩
      rw [← hn] at HF
      have e2 : (x.toNat : Int) * 256 + (y.toNat : Int) = (n : Int) := by unfold two at hn; omega
      have hn2 : n ≤ 65535 := by unfold two at hn; omega
      clear hn hx hy
      have i0 : (0 : Int) ≤ (k : Int) := by omega
      have i1 : (k : Int) < (b.length : Int) := by omega
      have i2 : (0 : Int) ≤ (k : Int) + 1 := by omega
      have i3 : (k : Int) + 1 < (b.length : Int) := by omega
      have t1 : ((k : Int) + 1).toNat = k + 1 := by omega
      have HBY := Lib.hid hby
      clear hby
      by_cases hn0 : n < 1
      · have HN : Hid (firstF (b.drop k) = none) := by show _ = _; rw [HF.out, if_neg]; rintro ⟨h1, _⟩; omega
        have q1 : decide ((n : Int) < 1) = true := by simp; omega
        go_wp2
        go_quiet (fail)
        go_wp2
        go_ret2
        exact FIN.out HN.out nq
      · have q1 : decide ((n : Int) < 1) = false := by simp; omega
        by_cases hn1 : 1000 < n
        · have HN : Hid (firstF (b.drop k) = none) := by show _ = _; rw [HF.out, if_neg]; rintro ⟨_, h1, _⟩; omega
          have q2 : decide ((1000 : Int) < (n : Int)) = true := by simp; omega
          go_wp2
          go_quiet (fail)
          go_wp2
          go_ret2
          exact FIN.out HN.out nq
        · have q2 : decide ((1000 : Int) < (n : Int)) = false := by simp; omega
          by_cases hfit : b.length < k + 3 + n
          · have HN : Hid (firstF (b.drop k) = none) := by
              show _ = _
              rw [HF.out, if_neg]
              rintro ⟨_, _, h3⟩
              have := (List.getElem?_eq_some_iff.1 h3).1
              omega
            have q3 : decide ((b.length : Int) < (k : Int) + 3 + (n : Int)) = true := by simp; omega
            go_wp2
            go_quiet (fail)
            go_wp2
            go_ret2
            exact FIN.out HN.out nq
          · have q3 : decide ((b.length : Int) < (k : Int) + 3 + (n : Int)) = false := by simp; omega
            obtain ⟨z, hz⟩ : ∃ z, b[k + 2 + n]? = some z := ⟨_, List.getElem?_eq_getElem (by omega)⟩
            obtain ⟨g', o', hA, _, hcz⟩ := HBY.out.at_ (k + 2 + n) z hz
            obtain ⟨rfl, rfl⟩ : g = g' ∧ o = o' := by injection hA with hA; injection hA with e1 e2; exact ⟨e1, e2⟩
            clear hA
            have i4 : (0 : Int) ≤ (k : Int) + 2 + (n : Int) := by omega
            have i5 : (k : Int) + 2 + (n : Int) < (b.length : Int) := by omega
            have t2 : ((k : Int) + 2 + (n : Int)).toNat = k + 2 + n := by omega
            by_cases h90 : z = 90
            · subst h90
              have HZ : Hid (firstF (b.drop k) = some ((b.drop (k + 2)).take n)) := by show _ = _; rw [HF.out, if_pos ⟨by omega, by omega, hz⟩]
              obtain ⟨Ad, hcut, hbyd⟩ := cut_by HBY.out b.length c (k + 2) (k + 2 + n) ((k : Int) + 2) ((k : Int) + 2 + (n : Int)) (by omega) (by omega) (by omega) (by omega) hcap
              rw [show k + 2 + n - (k + 2) = n by omega] at hcut hbyd
              have hrl : ((b.drop (k + 2)).take n).length = n := by rw [List.length_take, List.length_drop]; omega
              have HRL := Lib.hid hrl
              have HBD := Lib.hid hbyd
              have hcz' : wr.cell? ⟨g, o + (k + 2 + n), none⟩ = some (.int .u8 90) := hcz
              clear hz hcz hbyd hrl HF
              generalize (b.drop (k + 2)).take n = r at *
              go_wp2
              go_quiet (fail)
              have HR1 := Lib.hid (HR.out.drewN nq)
              have HB1 : Hid (By (wr.drewN nq) w.heap.size Ad r) := Lib.hid (HBD.out.drewN nq)
              have hcw : (wr.drewN nq).cell? ⟨g, o + (k + 2 + n), none⟩ = some (.int .u8 90) := hcz'
              clear HR HBD HBY HLS FIN h0 h1 hcz'
              generalize wr.drewN nq = w1 at *
              have HE : Hid (Row w1 (w1.alloc (.cells #[] 5)) (.slice (some ⟨w1.heap.size, 0, none⟩) 0 0) []) := Lib.hid (row_lit w1 [] (by simp))
              have HBE := Lib.hid ((HB1.out.more HR1.out.low.size).below HE.out.low)
              go_wp2_with (first
                | (at_builtin; refine wpList_row rfl (.tmp 53) (.tmp 61) rfl rfl HE.out r HRL.out rfl HBE.out (by have := HRL.out; simp; omega) ?_; intro v1 w2 hr1 hg1; obtain ⟨A2, c2, rfl, _⟩ := own_form hr1.own; have hr1 := Lib.hid hr1; have HR2 := Lib.hid (HR1.out.later hr1.out.low); clear hg1)
                | (at_builtin; refine wpList_rowS rfl (.tmp 52) (.tmp 63) rfl rfl HR2.out ⟨A2, c2, r⟩ (own_lower hr1.out.own HR1.out.low.size) rfl (by omega) ?_; intro v3 w3 hr3; have hr3 := Lib.hid hr3))
              go_roundw
              case rel =>
                refine ⟨k + 3 + n, L ++ [⟨A2, c2, r⟩], by omega, by go_num, hr3.out, ?_, ?_⟩
                · rw [datas_snoc, tot_snoc, ← HKT.out, HRL.out]; omega
                · rw [HSC.out, scan_some HZ.out, datas_snoc, List.drop_drop, List.append_assoc, HRL.out, show k + (n + 3) = k + 3 + n by omega]
                  rfl
              case measure => simp [intOf]; omega
            · have HN : Hid (firstF (b.drop k) = none) := by show _ = _; rw [HF.out, if_neg]; rintro ⟨_, _, h3⟩; rw [hz] at h3; exact h90 (Option.some.inj h3)
              have hzn : ((z.toNat : Int) != 90) = true := by
                have : z.toNat ≠ 90 := fun e => h90 (UInt8.toNat_inj.1 (by simpa using e))
                simp; omega
              clear hz h90
              go_wp2
              go_quiet (fail)
              go_wp2
              go_ret2
              exact FIN.out HN.out nq
    · have HN := Lib.hid (first_short b k (by omega))
      have hd1 : decide ((k : Int) + 2 < (b.length : Int)) = false := by simp; omega
      go_wp2
      go_ret2
      exact FIN.out HN.out 0
theorem rscan_any (A : Option Addr) (c : Nat) (b : List UInt8) (hb : b.length ≤ 1048576) (hcap : b.length ≤ c) (w : World) (h : By w w.heap.size A b) :
    Calls Tryz.prog 77 #[.slice A b.length c] w (GivesS w (scanL b) (tot (scanL b))) :=
  (rscan_own A c b hb hcap w h).mono fun _ _ h => h.s
end Go.Proofs.YtalmjmhbpmhokaaGreat
end
