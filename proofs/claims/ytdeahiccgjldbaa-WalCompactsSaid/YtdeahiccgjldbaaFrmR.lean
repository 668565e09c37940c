/- frame.Scan: the body's statements; the first one's order is open. -/
import Derived.Test.YtdeahiccgjldbaaFrmI
namespace Go.Proofs.Ytdeahiccgjldbaa
open Go.RowKit Go.Shelf

theorem ev_same {a : Act} {d : Nat} {v : Value} (h : d < a.tmps.size) : (a.put (some d) v).eval (.tmp d) = v := by simp [Act.put, Act.eval, h]
theorem ev_ne {a : Act} {d k : Nat} {v : Value} (h : d ≠ k) : (a.put (some d) v).eval (.tmp k) = a.eval (.tmp k) := Act.eval_put fun d' hd e => by
  cases hd
  cases e
  exact h rfl
theorem sz_put {a : Act} {d : Option Tmp} {v : Value} : (a.put d v).tmps.size = a.tmps.size := by cases d <;> simp [Act.put]

section
variable {l n : Nat} {P : Program} {ops : Array Oper} {Q : Exit → Act → World → Prop} {o : Oper} {a : Act} {U U' : World} {K : Act → World → Prop}

theorem op_val0 {v : Value} (hnd : ∀ c, o.op ≠ .defer c) (hrun : (execOp a.eval o).run P U = .ok (.value v) U') (h : K (a.put o.dst v) U') : Oper.wpIn (Fence.wide.inRound l) n P o a U K Q :=
  ⟨fun _ _ => trivial, by rw [Oper.semAt_plain _ _ _ hnd, hrun]; exact h⟩
theorem op_skip0 (hnd : ∀ c, o.op ≠ .defer c) (hrun : (execOp a.eval o).run P U = .ok .skip U') (h : K (a.put o.dst undef) U') : Oper.wpIn (Fence.wide.inRound l) n P o a U K Q :=
  ⟨fun _ _ => trivial, by rw [Oper.semAt_plain _ _ _ hnd, hrun]; exact h⟩
theorem op_val {v : Value} (hg : o.guard = none) (hnd : ∀ c, o.op ≠ .defer c) (hrun : (execOp a.eval o).run P U = .ok (.value v) U') (h : K (a.put o.dst v) U') :
    if Region.wanted o (yielded ops a.tmps) = true then Oper.wpIn (Fence.wide.inRound l) n P o a U K Q else (∀ f, o.about P U a.eval = some f → (Fence.wide.inRound l).fn f) ∧ K (a.put o.dst undef) U := by
  rw [if_pos (by simp [Region.wanted, hg])]
  exact op_val0 hnd hrun h
theorem op_skip (hg : o.guard = none) (hnd : ∀ c, o.op ≠ .defer c) (hrun : (execOp a.eval o).run P U = .ok .skip U') (h : K (a.put o.dst undef) U') :
    if Region.wanted o (yielded ops a.tmps) = true then Oper.wpIn (Fence.wide.inRound l) n P o a U K Q else (∀ f, o.about P U a.eval = some f → (Fence.wide.inRound l).fn f) ∧ K (a.put o.dst undef) U := by
  rw [if_pos (by simp [Region.wanted, hg])]
  exact op_skip0 hnd hrun h
theorem op_call {f : FuncId} {args : Array Value} {R : Ending → World → Prop} (hg : o.guard = none) (hnd : ∀ c, o.op ≠ .defer c) (hrun : (execOp a.eval o).run P U = .ok (.enter f args) U') (hc : Calls P f args U' R) (h : ∀ e V, R e V → ∃ v, e = .returned v ∧ K (a.put o.dst v) V) :
    if Region.wanted o (yielded ops a.tmps) = true then Oper.wpIn (Fence.wide.inRound l) n P o a U K Q else (∀ f, o.about P U a.eval = some f → (Fence.wide.inRound l).fn f) ∧ K (a.put o.dst undef) U := by
  rw [if_pos (by simp [Region.wanted, hg])]
  refine ⟨fun _ _ => trivial, ?_⟩
  rw [Oper.semAt_plain _ _ _ hnd, hrun]
  refine ⟨fun h => by simp [Fence.wide] at h, ((wide_of hc).inRound l).mono fun e V he => ?_⟩
  obtain ⟨v, rfl, hk⟩ := h e V he
  exact hk
end

/-- What a statement leaves alone of the slots. -/
structure Frz (a : Act) (p4 p5 p6 : Value) : Prop where
  sz : 19 < a.tmps.size
  e4 : a.eval (.tmp 4) = p4
  e5 : a.eval (.tmp 5) = p5
  e6 : a.eval (.tmp 6) = p6
theorem Frz.put {a : Act} {p4 p5 p6 v : Value} (h : Frz a p4 p5 p6) {d : Nat} (hd : 7 ≤ d) : Frz (a.put (some d) v) p4 p5 p6 :=
  ⟨Nat.lt_of_lt_of_eq h.sz sz_put.symm, (ev_ne (by omega)).trans h.e4, (ev_ne (by omega)).trans h.e5, (ev_ne (by omega)).trans h.e6⟩

/-- The statement's operations. -/
def q0 : Oper := { dst := some 12, op := .load 41 (.tmp 4), type := 41, pos := "frame.go:39", after := #[], guard := none }
def q1 : Oper := { dst := some 13, op := .move (.tmp 7), type := 40, pos := "frame.go:39", after := #[], guard := none }
def q2 : Oper := { dst := some 14, op := .call { callee := .value (.func 41), args := #[.tmp 13], argTypes := #[40] }, type := 40, pos := "frame.go:39", after := #[{ on := 1, ground := .data }], guard := none }
def q3 : Oper := { dst := some 15, op := .buildSlice 41 1 #[(0, .tmp 14)], type := 41, pos := "frame.go:39", after := #[{ on := 2, ground := .data }], guard := none }
def q4 : Oper := { dst := some 16, op := .call { callee := .builtin .append, args := #[.tmp 12, .tmp 15], argTypes := #[41, 41] }, type := 41, pos := "frame.go:39", after := #[{ on := 0, ground := .data }, { on := 3, ground := .data }, { on := 2, ground := .chain }], guard := none }
def q5 : Oper := { dst := none, op := .store 41 (.tmp 4) (.tmp 16), type := 0, pos := "frame.go:39", after := #[{ on := 4, ground := .data }, { on := 4, ground := .chain }, { on := 0, ground := .phase }, { on := 1, ground := .phase }, { on := 2, ground := .phase }, { on := 3, ground := .phase }, { on := 4, ground := .phase }], guard := none }
def ops6 : Array Oper := #[q0, q1, q2, q3, q4, q5]
def r0 : Oper := { dst := some 17, op := .move (.tmp 6), type := 3, pos := "frame.go:40", after := #[], guard := none }
def r1 : Oper := { dst := none, op := .store 3 (.tmp 5) (.tmp 17), type := 0, pos := "frame.go:40", after := #[{ on := 0, ground := .data }, { on := 0, ground := .phase }], guard := none }
def ops7 : Array Oper := #[r0, r1]

theorem region7_in (l n : Nat) (Q : Exit → Act → World → Prop) (a : Act) (V : World) (ob tb : Nat) (E : Int) (u : Value) (hF : Frz a (.pointer (some ⟨ob, 0, none⟩)) (.pointer (some ⟨tb, 0, none⟩)) (.int .i64 E))
    (hbox : Boxed V tb 3 u) (hQ : ∀ a', Q .normal a' (V.setCell ⟨tb, 0, none⟩ (.int .i64 E))) : (Code.region 7 ops7 false).wpIn (Fence.wide.inRound l) n Try.prog Q a V := by
  have mv : ∀ (ρ : Operand → Value), ρ (.tmp 6) = .int .i64 E → (execOp ρ r0).run Try.prog V = .ok (.value (.int .i64 E)) V := by
    intro ρ h1
    simp [execOp, r0, h1, go_sem]
  have st : ∀ (ρ : Operand → Value), ρ (.tmp 5) = .pointer (some ⟨tb, 0, none⟩) → ρ (.tmp 17) = .int .i64 E → (execOp ρ r1).run Try.prog V = .ok .skip (V.setCell ⟨tb, 0, none⟩ (.int .i64 E)) := by
    intro ρ h1 h2
    have h3 := hbox.cell
    have h4 := hbox.frozen
    simp [execOp, r1, h1, h2, go_sem, h3, h4]
  refine wpIn_region_list ?_
  show wpListIn (Fence.wide.inRound l) n Try.prog ops7 Q [r0, r1] a V
  exact wpListIn_plain rfl fun K hK => op_val0 (v := .int .i64 E) (U' := V) (fun c h => by cases h) (mv _ hF.e6) (hK _ _ (wpListIn_plain rfl fun K hK => op_skip0 (U' := V.setCell ⟨tb, 0, none⟩ (.int .i64 E)) (fun c h => by cases h) (st _ (hF.put (d := 17) (by omega)).e5 (ev_same (d := 17) (by have := hF.sz; omega))) (hK _ _ (wpListIn_nil (hQ _)))))

set_option maxRecDepth 100000 in
set_option maxHeartbeats 2000000 in
theorem region6_in (l n : Nat) (Q : Exit → Act → World → Prop) (a : Act) (V : World) (ob base : Nat) (p5 p6 : Value) (x : SlV) (A9 : Option Addr) (c9 : Nat) (Lo : List SlV) (hF : Frz a (.pointer (some ⟨ob, 0, none⟩)) p5 p6) (h7 : a.eval (.tmp 7) = x.v)
    (hbox : Boxed V ob 41 (.slice A9 Lo.length c9)) (hby : By V V.heap.size x.ad x.data) (hdl : x.data.length ≤ 1048576)
    (hown : V.ownsRow base 40 1 (.slice A9 Lo.length c9) Lo.length (scells Lo)) (hbase : base ≤ V.heap.size) (hlo : Lo.length ≤ 1048576)
    (hQ : ∀ a' U1 A' c' U3 Ar cr, Frz a' (.pointer (some ⟨ob, 0, none⟩)) p5 p6 → Own8 U1 V.heap.size (.slice A' x.data.length c') x.data → Below V.heap.size V U1 → U3.ownsRow base 40 1 (.slice Ar (Lo.length + 1) cr) (Lo.length + 1) (scells Lo ++ [.slice A' x.data.length c']) → (U1.alloc (.cells #[.slice A' x.data.length c'] 40)).grownBy U3 (Value.slice A9 Lo.length c9).ownBlock → Q .normal a' (U3.setCell ⟨ob, 0, none⟩ (.slice Ar (Lo.length + 1) cr))) :
    (Code.region 6 ops6 true).wpIn (Fence.wide.inRound l) n Try.prog Q a V := by
  obtain ⟨i0, hi, hz0, hz1, hz2⟩ := info_parts Try.infoS
  have cO := hbox.cell
  have ld0 : ∀ (ρ : Operand → Value) (U : World), ρ (.tmp 4) = .pointer (some ⟨ob, 0, none⟩) → U.cell? ⟨ob, 0, none⟩ = some (.slice A9 Lo.length c9) → (execOp ρ q0).run Try.prog U = .ok (.value (.slice A9 Lo.length c9)) U := by
    intro ρ U h1 h2
    simp [execOp, q0, h1, go_sem, h2]
  have ld1 : ∀ (ρ : Operand → Value) (U : World), ρ (.tmp 7) = x.v → (execOp ρ q1).run Try.prog U = .ok (.value x.v) U := by
    intro ρ U h1
    simp [execOp, q1, h1, go_sem]
  have cl2 : ∀ (ρ : Operand → Value) (U : World), ρ (.tmp 13) = x.v → ρ (.func 41) = .func (.func 41) #[] #[] → (execOp ρ q2).run Try.prog U = .ok (.enter 41 #[x.v]) U := by
    intro ρ U h1 h2
    have hcall : ∀ U, (callFunc 41 #[x.v]).run Try.prog U = .ok (.enter 41 #[x.v]) U := fun U => enters_of Try.func41 (by kernel_rfl) rfl _ U
    simp [execOp, q2, h1, h2, go_sem, hcall]
  have bs3 : ∀ (ρ : Operand → Value) (U : World) (A' : Option Addr) (c' : Nat), ρ (.tmp 14) = .slice A' x.data.length c' → (execOp ρ q3).run Try.prog U = .ok (.value (.slice (some ⟨U.heap.size, 0, none⟩) 1 1)) (U.alloc (.cells #[.slice A' x.data.length c'] 40)) := by
    intro ρ U A' c' h1
    simp [execOp, q3, h1, go_sem]
  have st5 : ∀ (ρ : Operand → Value) (U : World) (Ar : Option Addr) (nr cr : Nat) (u : Value), ρ (.tmp 4) = .pointer (some ⟨ob, 0, none⟩) → ρ (.tmp 16) = .slice Ar nr cr → U.cell? ⟨ob, 0, none⟩ = some u → U.frozen? ⟨ob, 0, none⟩ = false → (execOp ρ q5).run Try.prog U = .ok .skip (U.setCell ⟨ob, 0, none⟩ (.slice Ar nr cr)) := by
    intro ρ U Ar nr cr u h1 h2 h3 h4
    simp [execOp, q5, h1, h2, go_sem, h3, h4]
  have ap4 : ∀ (ρ : Operand → Value) (U : World) (vs vx v' : Value) (U' : World), ρ (.tmp 12) = vs → ρ (.tmp 15) = vx → (Builtin.append_ #[41, 41] 41 #[vs, vx]).run Try.prog U = .ok v' U' → (execOp ρ q4).run Try.prog U = .ok (.value v') U' := by
    intro ρ U vs vx v' U' h1 h2 h3
    simp [execOp, q4, resolve, invoke, builtin, h1, h2, h3, Result.andThen]
  have HO := fun (U : World) (hU : By U U.heap.size x.ad x.data) => clone_any x.ad x.cap x.data U hU (by omega)
  have obU : ∀ U1, Below V.heap.size V U1 → Boxed U1 ob 41 (.slice A9 Lo.length c9) := fun U1 hB => (hB.block ob hbox.lt).trans hbox
  have ownU : ∀ U1, Below V.heap.size V U1 → U1.ownsRow base 40 1 (.slice A9 Lo.length c9) Lo.length (scells Lo) := fun U1 hB => hown.kept (grown_of_below hB) (by cases (Value.slice A9 Lo.length c9).ownBlock <;> simp)
  have N5 : ∀ (a : Act) (U1 : World) (A' : Option Addr) (c' : Nat) (U3 : World) (Ar : Option Addr) (cr : Nat), Frz a (.pointer (some ⟨ob, 0, none⟩)) p5 p6 → a.eval (.tmp 16) = .slice Ar (Lo.length + 1) cr → Own8 U1 V.heap.size (.slice A' x.data.length c') x.data → Below V.heap.size V U1 →
      U3.ownsRow base 40 1 (.slice Ar (Lo.length + 1) cr) (Lo.length + 1) (scells Lo ++ [.slice A' x.data.length c']) → (U1.alloc (.cells #[.slice A' x.data.length c'] 40)).grownBy U3 (Value.slice A9 Lo.length c9).ownBlock →
      wpAnyIn (Fence.wide.inRound l) n Try.prog .any ops6 Q 1 #[true, true, true, true, true, false] a U3 := by
    intro a U1 A' c' U3 Ar cr gz g16 o8 hB1 hown3 hg3
    have hb3 := ((obU U1 hB1).alloc (.cells #[.slice A' x.data.length c'] 40)).kept hg3 ((obU U1 hB1).not_row (by decide) (ownU U1 hB1))
    exact wpAnyIn_ready (rs := [5]) (by kernel_rfl) (by simp) (AllReadyIn.cons rfl (fun K hK => op_skip rfl (fun c h => by cases h) (st5 a.eval U3 Ar _ cr _ gz.e4 g16 hb3.cell hb3.frozen) (hK _ _ (wpAnyIn_done (by kernel_rfl) (hQ a U1 A' c' U3 Ar cr gz o8 hB1 hown3 hg3) _))) AllReadyIn.nil)
  have N4 : ∀ (a : Act) (U1 : World) (A' : Option Addr) (c' : Nat), Frz a (.pointer (some ⟨ob, 0, none⟩)) p5 p6 → a.eval (.tmp 12) = .slice A9 Lo.length c9 → a.eval (.tmp 15) = .slice (some ⟨U1.heap.size, 0, none⟩) 1 1 → Own8 U1 V.heap.size (.slice A' x.data.length c') x.data → Below V.heap.size V U1 →
      wpAnyIn (Fence.wide.inRound l) n Try.prog .any ops6 Q 2 #[true, true, true, true, false, false] a (U1.alloc (.cells #[.slice A' x.data.length c'] 40)) := by
    intro a U1 A' c' gz g12 g15 o8 hB1
    obtain ⟨v', U3, hrun, hown3, hg3, _⟩ := run_append_own (P := Try.prog) (U1.alloc (.cells #[.slice A' x.data.length c'] 40)) base 41 41 40 i0 _ 1 24 Try.underlying41 hi hz0 hz1 hz2 rfl (by decide) _ _ _ ((ownU U1 hB1).alloc _) ⟨U1.heap.size, 0, none⟩ 1 1 [.slice A' x.data.length c'] rfl (World.news_of_block (cs := #[.slice A' x.data.length c']) (t := 40) (fr := (0, 0)) (heap_alloc_new U1 _)) (by simp [Value.oneCell']) (by unfold maxLen; omega) (by omega) (by simp; have := hB1.size; omega)
    obtain ⟨Ar, cr, rfl, _⟩ := own_form hown3
    exact wpAnyIn_ready (rs := [4]) (by kernel_rfl) (by simp) (AllReadyIn.cons rfl (fun K hK => op_val rfl (fun c h => by cases h) (ap4 a.eval _ _ _ _ _ g12 g15 hrun) (hK _ _ (N5 _ U1 A' c' U3 Ar cr (gz.put (by omega)) (ev_same (by have := gz.sz; omega)) o8 hB1 hown3 hg3))) AllReadyIn.nil)
  have N3' : ∀ (a : Act) (U1 : World) (A' : Option Addr) (c' : Nat), Frz a (.pointer (some ⟨ob, 0, none⟩)) p5 p6 → a.eval (.tmp 12) = .slice A9 Lo.length c9 → a.eval (.tmp 14) = .slice A' x.data.length c' → Own8 U1 V.heap.size (.slice A' x.data.length c') x.data → Below V.heap.size V U1 →
      wpAnyIn (Fence.wide.inRound l) n Try.prog .any ops6 Q 3 #[true, true, true, false, false, false] a U1 := by
    intro a U1 A' c' gz g12 g14 o8 hB1
    exact wpAnyIn_ready (rs := [3]) (by kernel_rfl) (by simp) (AllReadyIn.cons rfl (fun K hK => op_val rfl (fun c h => by cases h) (bs3 a.eval U1 A' c' g14) (hK _ _ (N4 _ U1 A' c' (gz.put (by omega)) ((ev_ne (d := 15) (by decide)).trans g12) (ev_same (by have := gz.sz; omega)) o8 hB1))) AllReadyIn.nil)
  have N3 : ∀ (a : Act) (U1 : World) (A' : Option Addr) (c' : Nat), Frz a (.pointer (some ⟨ob, 0, none⟩)) p5 p6 → a.eval (.tmp 15) = .slice (some ⟨U1.heap.size, 0, none⟩) 1 1 → Own8 U1 V.heap.size (.slice A' x.data.length c') x.data → Below V.heap.size V U1 →
      wpAnyIn (Fence.wide.inRound l) n Try.prog .any ops6 Q 3 #[false, true, true, true, false, false] a (U1.alloc (.cells #[.slice A' x.data.length c'] 40)) := by
    intro a U1 A' c' gz g15 o8 hB1
    exact wpAnyIn_ready (rs := [0]) (by kernel_rfl) (by simp) (AllReadyIn.cons rfl (fun K hK => op_val rfl (fun c h => by cases h) (ld0 a.eval _ gz.e4 ((obU U1 hB1).alloc _).cell) (hK _ _ (N4 _ U1 A' c' (gz.put (by omega)) (ev_same (by have := gz.sz; omega)) ((ev_ne (d := 12) (by decide)).trans g15) o8 hB1))) AllReadyIn.nil)
  have N2 : ∀ (a : Act) (U1 : World) (A' : Option Addr) (c' : Nat), Frz a (.pointer (some ⟨ob, 0, none⟩)) p5 p6 → a.eval (.tmp 14) = .slice A' x.data.length c' → Own8 U1 V.heap.size (.slice A' x.data.length c') x.data → Below V.heap.size V U1 →
      wpAnyIn (Fence.wide.inRound l) n Try.prog .any ops6 Q 4 #[false, true, true, false, false, false] a U1 := by
    intro a U1 A' c' gz g14 o8 hB1
    exact wpAnyIn_ready (rs := [0, 3]) (by kernel_rfl) (by simp)
      (AllReadyIn.cons rfl (fun K hK => op_val rfl (fun c h => by cases h) (ld0 a.eval _ gz.e4 (obU U1 hB1).cell) (hK _ _ (N3' _ U1 A' c' (gz.put (by omega)) (ev_same (by have := gz.sz; omega)) ((ev_ne (d := 12) (by decide)).trans g14) o8 hB1)))
      (AllReadyIn.cons rfl (fun K hK => op_val rfl (fun c h => by cases h) (bs3 a.eval U1 A' c' g14) (hK _ _ (N3 _ U1 A' c' (gz.put (by omega)) (ev_same (by have := gz.sz; omega)) o8 hB1))) AllReadyIn.nil))
  have belowV : ∀ U1, Below V.drew.heap.size V.drew U1 → Below V.heap.size V U1 := fun U1 h => ⟨h.os, h.tape, h.output, h.size, h.block⟩
  have N2' : ∀ (a : Act), Frz a (.pointer (some ⟨ob, 0, none⟩)) p5 p6 → a.eval (.tmp 12) = .slice A9 Lo.length c9 → a.eval (.tmp 13) = x.v → wpAnyIn (Fence.wide.inRound l) n Try.prog .any ops6 Q 4 #[true, true, false, false, false, false] a V.drew := by
    intro a gz g12 g13
    exact wpAnyIn_ready (rs := [2]) (by kernel_rfl) (by simp) (AllReadyIn.cons rfl (fun K hK => op_call rfl (fun c h => by cases h) (cl2 a.eval _ g13 rfl) (HO V.drew hby.drew) (fun e U1 ⟨A', c', he, o8, hB1⟩ => ⟨_, he, hK _ _ (N3' _ U1 A' c' (gz.put (by omega)) ((ev_ne (d := 14) (by decide)).trans g12) (ev_same (by have := gz.sz; omega)) o8 (belowV U1 hB1))⟩)) AllReadyIn.nil)
  have N1 : ∀ (a : Act), Frz a (.pointer (some ⟨ob, 0, none⟩)) p5 p6 → a.eval (.tmp 13) = x.v → wpAnyIn (Fence.wide.inRound l) n Try.prog .any ops6 Q 5 #[false, true, false, false, false, false] a V.drew := by
    intro a gz g13
    exact wpAnyIn_ready (rs := [0, 2]) (by kernel_rfl) (by simp)
      (AllReadyIn.cons rfl (fun K hK => op_val rfl (fun c h => by cases h) (ld0 a.eval _ gz.e4 cO) (hK _ _ (N2' _ (gz.put (by omega)) (ev_same (by have := gz.sz; omega)) ((ev_ne (d := 12) (by decide)).trans g13))))
      (AllReadyIn.cons rfl (fun K hK => op_call rfl (fun c h => by cases h) (cl2 a.eval _ g13 rfl) (HO V.drew hby.drew) (fun e U1 ⟨A', c', he, o8, hB1⟩ => ⟨_, he, hK _ _ (N2 _ U1 A' c' (gz.put (by omega)) (ev_same (by have := gz.sz; omega)) o8 (belowV U1 hB1))⟩)) AllReadyIn.nil))
  refine wpIn_region_any (by kernel_rfl) ?_
  show wpAnyIn (Fence.wide.inRound l) n Try.prog .any ops6 Q 6 #[false, false, false, false, false, false] a V.drew
  exact wpAnyIn_ready (rs := [0, 1]) (by kernel_rfl) (by simp)
    (AllReadyIn.cons rfl (fun K hK => op_val rfl (fun c h => by cases h) (ld0 a.eval _ hF.e4 cO) (hK _ _ (wpAnyIn_ready (rs := [1]) (by kernel_rfl) (by simp) (AllReadyIn.cons rfl (fun K hK => op_val rfl (fun c h => by cases h) (ld1 _ _ ((ev_ne (d := 12) (by decide)).trans h7)) (hK _ _ (N2' _ ((hF.put (d := 12) (by omega)).put (d := 13) (by omega)) ((ev_ne (d := 13) (by decide)).trans (ev_same (d := 12) (by have := hF.sz; omega))) (ev_same (d := 13) (by have := hF.sz; simp only [sz_put]; omega))))) AllReadyIn.nil))))
    (AllReadyIn.cons rfl (fun K hK => op_val rfl (fun c h => by cases h) (ld1 a.eval _ h7) (hK _ _ (N1 _ (hF.put (d := 13) (by omega)) (ev_same (by have := hF.sz; omega))))) AllReadyIn.nil))
end Go.Proofs.Ytdeahiccgjldbaa
