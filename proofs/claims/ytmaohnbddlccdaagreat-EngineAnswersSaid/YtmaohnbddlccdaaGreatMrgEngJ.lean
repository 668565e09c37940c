/- lessorlaw20: awake. -/
import Derived.Test.YtmaohnbddlccdaaGreatMrgEngL
namespace Go.Proofs.YtmaohnbddlccdaaGreat
open Go.RowKit Go.Sort

theorem poolF : (Tryz.prog.underlying 27).bind (fun d => match d with | .struct fs => (fs[11]?).map (fun f => (f.type, f.offset)) | _ => none) = some (25, 11) := by kernel_rfl
/-- The pool of a site that is a value. -/
theorem run_poolF (cs : Array Value) (v : Value) (hv : cs[11]? = some v) (W : World) : (Instr.field 27 (.agg cs) 11).run Tryz.prog W = .ok v W := by
  have h := poolF
  cases hu : Tryz.prog.underlying 27 with
  | none => rw [hu] at h; simp at h
  | some d =>
    rw [hu] at h
    cases d with
    | struct fs =>
      simp only [Option.bind_some] at h
      cases hf : fs[11]? with
      | none => rw [hf] at h; simp at h
      | some f =>
        rw [hf] at h
        simp only [Option.map_some, Option.some.injEq, Prod.mk.injEq] at h
        have hs : Tryz.prog.underlying f.type = some (.slice 89) := by rw [h.1]; exact Tryz.underlying25
        simp [Instr.field, run_underlying hu, hf, asAgg, Go.part, isAgg, run_underlying hs, h.2, hv]
    | _ => simp at h

/-- A store of a whole value in a region that draws its order. -/
theorem step_storeR {ops : Array Oper} {o : Oper} {a : Act} {w : World} {K : Act → World → Prop} {Q : Exit → Act → World → Prop} {F : Prop} {T : TypeId} {n : Nat} (hT : RowT T n) (hgd : o.guard = none) (x y : Operand) (ho : o.op = .store T x y) (b : Nat) (cs : Array Value) (hx : a.eval x = .pointer (some ⟨b, 0, none⟩)) (hy : a.eval y = .agg cs) {old : Array Value} {t : TypeId} (hB : Bx w b t old) (hl : old.size = n) (hc : cs.size = n) (h1 : cs.toList.all (·.oneCell') = true)
    (h : K (a.put o.dst undef) (w.setRow b cs)) : if Region.wanted o (yielded ops a.tmps) = true then Oper.wp Tryz.prog o a w K Q else F := by
  rw [if_pos (by simp [Region.wanted, hgd])]
  exact wp_store_row _ x y ho b cs hx hy t _ hB (hT.size.trans (by rw [hc])) (by rw [hl, hc]) (by rw [← Array.all_toList]; exact h1) h

/-- The packet that the law itself sends. -/
def awV (b : Nat) : NO.PktV := ⟨1, 7, 0, 0, 0, 0, 0, 0, some ⟨b, 0, none⟩, 1, [3], some ⟨b + 1 + 1, 0, none⟩, 1, [⟨53, some ⟨b + 1, 0, none⟩, 1, [1]⟩]⟩
theorem awV_abs (b : Nat) : (awV b).abs = awP := rfl
/-- An answer to it lies in a block. -/
def AwR (w wx : World) (v : Value) : Prop := ∃ b A, ∃ a : AnW, v = ptE b ∧ Bx wx b 44 a.cells ∧ a.abs = sentA (promE (lawS 0 A) awP 2 1 10) ∧ NO.Pk wx wx.heap.size a.p ∧ Below w.heap.size w wx

set_option maxRecDepth 100000 in
set_option maxHeartbeats 4000000 in
theorem eawake_any {T : World → (Nat → Prop) → Nat → List LV → Prop} (K : TabK T) (w : World) :
    Calls Tryz.prog 8 #[] w fun e w' => e = .returned (.bool true) ∧ Below w.heap.size w w' := by
  have HS : Hid (∀ V, Calls Tryz.prog 16 #[.int .i64 0] V fun e w' => ∃ A, e = .returned (.agg #[.int .i64 0, .int .i64 10, .int .i64 4, .int .u32 9, .int .i64 100, .int .i64 1000, .int .i64 256, .float .f64 4602678819172646912, .float .f64 4591870180066957722, .float .f64 4602678819172646912, .float .f64 4606056518893174784, .slice A 1 1, .int .i64 10000]) ∧ Rg w' w'.heap.size A [(1, 6)] ∧ Below V.heap.size V w') := Lib.hid (fun V => site_any 0 V)
  have HN := Lib.hid (fun V A (h : Rg V V.heap.size A [(1, 6)]) => (show Calls Tryz.prog 25 #[.slice A 1 1] V _ from K.new A 1 [(1, 6)] V h (by simp)))
  have HK := Lib.hid K
  have HPF : Hid (∀ A W, (Instr.field 27 (.agg #[.int .i64 0, .int .i64 10, .int .i64 4, .int .u32 9, .int .i64 100, .int .i64 1000, .int .i64 256, .float .f64 4602678819172646912, .float .f64 4591870180066957722, .float .f64 4602678819172646912, .float .f64 4606056518893174784, .slice A 1 1, .int .i64 10000]) 11).run Tryz.prog W = .ok (.slice A 1 1) W) := Lib.hid (fun A W => run_poolF _ _ rfl W)
  go_enter Tryz.func8, Tryz.ntmps8
  go_wp2_with fail
  refine (HS.out w).mono ?_
  rintro e w1 ⟨A, rfl, hrg, hb1⟩
  have HB1 := Lib.hid hb1
  have hpf := HPF.out A
  have HNN := Lib.hid (HN.out w1 A hrg)
  clear hb1 hrg HN
  go_wp2_with fail
  refine HNN.out.mono ?_
  rintro e w2 ⟨ol, code, hres, hb2, hn⟩
  obtain ⟨rfl, rfl⟩ := res_agree hres six_ref
  rcases hn with ⟨h0, _⟩ | ⟨_, P, g, L, rfl, HL, ht, hlo⟩
  · exact absurd rfl h0
  have HB2 := Lib.hid (HB1.out.trans (hb2.mono HB1.out.size))
  have HT := Lib.hid ht
  have HL2 : Hid (L = awL) := Lib.hid (by rw [HL.out, six_addrs]; rfl)
  clear hres hb2 ht hlo HL HNN hpf
  go_upto_region 5 with fail
  obtain ⟨b, hb⟩ : ∃ b, b = w2.heap.size := ⟨_, rfl⟩
  obtain ⟨w3, hw3⟩ : ∃ w3, w3 = (((w2.alloc (.cells #[.int .u8 3] 5)).alloc (.cells #[.int .u8 1] 5)).alloc (.cells #[.int .i64 53, .slice (some ⟨b + 1, 0, none⟩) 1 1] 68)).alloc (.cells (awV b).cells 32) := ⟨_, rfl⟩
  have hs1 : (w2.alloc (.cells #[.int .u8 3] 5)).heap.size = b + 1 := by rw [hb]; simp
  have hs2 : ((w2.alloc (.cells #[.int .u8 3] 5)).alloc (.cells #[.int .u8 1] 5)).heap.size = b + 1 + 1 := by rw [hb]; simp
  have hs3 : (((w2.alloc (.cells #[.int .u8 3] 5)).alloc (.cells #[.int .u8 1] 5)).alloc (.cells #[.int .i64 53, .slice (some ⟨b + 1, 0, none⟩) 1 1] 68)).heap.size = b + 1 + 1 + 1 := by rw [hb]; simp
  have hlt : b + 1 + 1 + 1 < w3.heap.size := by rw [hw3, hb]; simp
  have h23 : Below w2.heap.size w2 w3 := by rw [hw3]; exact ((((Below.refl _ _).alloc (Nat.le_refl _) _).alloc (by simp) _).alloc (by simp; omega) _).alloc (by simp; omega) _
  have q0 : Bx w3 b 5 #[.int .u8 3] := by rw [hw3, hb]; exact (((Bx.new w2 _ _).alloc _).alloc _).alloc _
  have q1 : Bx w3 (b + 1) 5 #[.int .u8 1] := by rw [hw3, ← hs1]; exact ((Bx.new _ _ _).alloc _).alloc _
  have q2 : Bx w3 (b + 1 + 1) 68 #[.int .i64 53, .slice (some ⟨b + 1, 0, none⟩) 1 1] := by rw [hw3]; have h := Bx.new ((w2.alloc (.cells #[.int .u8 3] 5)).alloc (.cells #[.int .u8 1] 5)) 68 #[.int .i64 53, .slice (some ⟨b + 1, 0, none⟩) 1 1]; rw [hs2] at h; exact h.alloc _
  have q3 : Bx w3 (b + 1 + 1 + 1) 32 (awV b).cells := by rw [hw3]; have h := Bx.new (((w2.alloc (.cells #[.int .u8 3] 5)).alloc (.cells #[.int .u8 1] 5)).alloc (.cells #[.int .i64 53, .slice (some ⟨b + 1, 0, none⟩) 1 1] 68)) 32 (awV b).cells; rw [hs3] at h; exact h
  have hby : ∀ (k : Nat) (x : UInt8), k < w3.heap.size → Bx w3 k 5 #[.int .u8 (x.toNat : Int)] → NO.By w3 w3.heap.size (some ⟨k, 0, none⟩) [x] := fun k x hk h => ⟨fun i y hy => by
    have hi : i = 0 := by
      have := (List.getElem?_eq_some_iff.1 hy).1
      simp at this
      omega
    subst hi
    simp at hy
    subst hy
    exact ⟨k, 0, rfl, hk, h.at_ 0⟩⟩
  have hpk : NO.Pk w3 w3.heap.size (awV b) := ⟨hby b 3 (by omega) q0, op_of ⟨fun i y hy => by
    have hi : i = 0 := by
      have := (List.getElem?_eq_some_iff.1 hy).1
      simp [awV] at this
      omega
    subst hi
    simp [awV] at hy
    subst hy
    refine ⟨b + 1 + 1, 0, rfl, by omega, fun k u hu => ?_⟩
    match k with
    | 0 => injection hu with hu; subst hu; exact q2.at_ 0
    | 1 => injection hu with hu; subst hu; exact q2.at_ 1
    | k + 2 => cases hu⟩ (fun y hy => by
      simp [awV] at hy
      subst hy
      exact hby (b + 1) 1 (by omega) q1)⟩
  have HPK := Lib.hid hpk
  have HX3 := Lib.hid q3
  have HB3 := Lib.hid (HB2.out.trans (h23.mono HB2.out.size))
  have HT3 := Lib.hid (HK.out.later HT.out h23)
  have HAN : Hid (∀ V A, Below w3.heap.size w3 V → Rg V V.heap.size A [(1, 6)] → Calls Tryz.prog 11 #[(.agg #[.int .i64 0, .int .i64 10, .int .i64 4, .int .u32 9, .int .i64 100, .int .i64 1000, .int .i64 256, .float .f64 4602678819172646912, .float .f64 4591870180066957722, .float .f64 4602678819172646912, .float .f64 4606056518893174784, .slice A 1 1, .int .i64 10000]), ptE g, .int .i64 1, .int .i64 5, .int .i64 0, (awV b).v] V (GivesA V (sentA (promE (lawS 0 A) awP 2 1 10)))) := Lib.hid (fun V A hv hr => by
    have h := answer_any HK.out (lawS 0 A) (awV b) V hr (by simp [lawS]) (HPK.out.later hv) (by simp [awV]) (fun y hy => by simp [awV] at hy; subst hy; simp) (by simp [awV]) (by simp [lawS]) (by simp [awV]) six_ref (tabA_of (ls := []) six_ref (by rw [HL2.out, six_addrs]; rfl) (HK.out.later HT3.out hv)) 1 5 0
    have e1 : siteB (lawS 0 A) 0 = true := rfl
    have e2 : NO.rightB (awV b) = true := rfl
    rw [e1, e2, awV_abs, HL2.out, awake_is] at h
    exact h)
  have HW3 := Lib.hid hw3
  have HBB := Lib.hid hb
  clear hb hw3 hs1 hs2 hs3 hlt h23 q0 q1 q2 q3 hby hpk HB2 HT HB1
  rw [show (((w2.alloc (.cells #[.int .u8 3] 5)).alloc (.cells #[.int .u8 1] 5)).alloc (.cells #[.int .i64 53, .slice (some ⟨w2.heap.size + 1, 0, none⟩) 1 1] 68)).alloc (.cells #[.int .i64 1, .int .u32 7, .int .i64 0, .int .i64 0, .int .u32 0, .int .u32 0, .int .u32 0, .int .u32 0, .slice (some ⟨w2.heap.size, 0, none⟩) 1 1, .slice (some ⟨w2.heap.size + 1 + 1, 0, none⟩) 1 1] 32) = w3 from by rw [HW3.out, HBB.out]; rfl, ← HBB.out]
  go_cut [4] (fun s4 wx => AwR w wx s4)
  case first =>
    refine wp_region_held_drew (S := fun W => Bx W (b + 1 + 1 + 1) 32 (awV b).cells) (by kernel_rfl) ?hS1 (fun hHeld => ?_)
    case hS1 => exact HX3.out.drew
    refine wpAnyH_take (i := 1) (oi := { dst := some 23, op := Op.move (Operand.tmp 1), type := 37, pos := "law.go:34", after := #[], guard := none }) (v := ?va) rfl (by kernel_rfl) (by kernel_rfl) (by kernel_rfl) (fun _ _ _ h => h) (Or.inl ⟨by rfl, ?hya⟩) (by assumption) ?_
    case hya => (intro w hSw; go_simp; (try with_reducible rfl))
    try simp only [Act.put, List.setIfInBounds_toArray, List.set_cons_zero, List.set_cons_succ]
    refine wpAnyH_take (i := 2) (oi := { dst := some 24, op := Op.load 32 (Operand.tmp 3), type := 32, pos := "law.go:34", after := #[], guard := none }) (v := (awV b).v) rfl (by kernel_rfl) (by kernel_rfl) (by kernel_rfl) (fun _ _ _ h => h) (Or.inl ⟨by rfl, ?hyb⟩) (by assumption) ?_
    case hyb =>
      intro W hSw
      obtain ⟨z0, z1, z2, z3, z4, z5, z6, z7, z8, z9⟩ := NO.PBox.all (show NO.PBox W (b + 1 + 1 + 1) (awV b) from hSw)
      simp only [awV] at z0 z1 z2 z3 z4 z5 z6 z7 z8 z9
      go_simp
      all_goals (repeat' apply And.intro) <;> rfl
    try simp only [Act.put, List.setIfInBounds_toArray, List.set_cons_zero, List.set_cons_succ]
    refine wpAnyH_ready (rs := [0, 4]) (by kernel_rfl) (by simp) ?_
    refine AllReadyH.cons (o := { dst := some 22, op := Op.call { callee := Callee.value (Operand.func 16), args := #[Operand.const (Value.int IntKind.i64 0)], argTypes := #[3] }, type := 27, pos := "law.go:34", after := #[], guard := none }) rfl (fun K hK => ?_) (AllReadyH.cons (o := { dst := some 4, op := Op.alloc 44, type := 0, pos := "law.go:34", after := #[], guard := none }) rfl (fun K hK => ?_) AllReadyH.nil)
    · go_simp
      go_at_call 16
      refine (HS.out _).mono ?_
      rintro e w4 ⟨A2, rfl, hrg, hb4⟩
      have HB4 : Hid (Below w3.heap.size w3 w4) := Lib.hid (((Below.refl w3.heap.size w3).drew).trans (hb4.mono ((Below.refl w3.heap.size w3).drew).size))
      have HRG4 := Lib.hid hrg
      clear hHeld
      refine hK.out _ _ ?hB7 (fun hHeld => ?_)
      case hB7 => (exact HX3.out.below HB4.out HX3.out.lt)
      clear hK K
      try simp only [Act.put, List.setIfInBounds_toArray, List.set_cons_zero, List.set_cons_succ]
      refine wpAnyH_ready (rs := [3, 4]) (by kernel_rfl) (by simp) ?_
      refine AllReadyH.cons (o := { dst := some 25, op := Op.call { callee := Callee.value (Operand.func 11), args := #[Operand.tmp 22, Operand.tmp 23, Operand.const (Value.int IntKind.i64 1), Operand.const (Value.int IntKind.i64 5), Operand.const (Value.int IntKind.i64 0), Operand.tmp 24], argTypes := #[27, 37, 3, 3, 3, 32] }, type := 44, pos := "law.go:34", after := #[{ on := 0, ground := Ground.data }, { on := 1, ground := Ground.data }, { on := 2, ground := Ground.data }, { on := 0, ground := Ground.chain }], guard := none }) rfl (fun K hK => ?_) (AllReadyH.cons (o := { dst := some 4, op := Op.alloc 44, type := 0, pos := "law.go:34", after := #[], guard := none }) rfl (fun K hK => ?_) AllReadyH.nil)
      · go_simp
        go_at_call 11
        refine (HAN.out w4 A2 HB4.out HRG4.out).mono ?_
        rintro e w5 ⟨a, rfl, hab, hps, hb5⟩
        have HB5 : Hid (Below w3.heap.size w3 w5) := Lib.hid ((HB4.out).trans (hb5.mono (HB4.out).size))
        have HAB := Lib.hid hab
        have HPS := Lib.hid hps
        clear hHeld
        refine hK.out _ _ ?hB1 (fun hHeld => ?_)
        case hB1 => (exact HX3.out.below HB5.out HX3.out.lt)
        clear hK K
        try simp only [Act.put, List.setIfInBounds_toArray, List.set_cons_zero, List.set_cons_succ]
        refine wpAnyH_ready (rs := [4]) (by kernel_rfl) (by simp) ?_
        refine AllReadyH.cons (o := { dst := some 4, op := Op.alloc 44, type := 0, pos := "law.go:34", after := #[], guard := none }) rfl (fun K hK => ?_) AllReadyH.nil
        go_simp
        have hal : Below (w5).heap.size (w5) ((w5).alloc (.cells #[.bool false, .int .i64 0, .int .u32 0, .int .i64 0, .int .i64 0, .int .u32 0, .int .u32 0, .int .u32 0, .int .u32 0, .slice none 0 0, .slice none 0 0, .bool false, .int .u32 0, .int .i64 0, .string ⟨#[]⟩, .int .i64 0, .int .i64 0, .int .i64 0, .int .i64 0, .int .i64 0, .int .i64 0] 44)) := (Below.refl _ _).alloc (Nat.le_refl _) _
        have HB6 : Hid (Below w3.heap.size w3 ((w5).alloc (.cells #[.bool false, .int .i64 0, .int .u32 0, .int .i64 0, .int .i64 0, .int .u32 0, .int .u32 0, .int .u32 0, .int .u32 0, .slice none 0 0, .slice none 0 0, .bool false, .int .u32 0, .int .i64 0, .string ⟨#[]⟩, .int .i64 0, .int .i64 0, .int .i64 0, .int .i64 0, .int .i64 0, .int .i64 0] 44))) := Lib.hid ((HB5.out).trans (hal.mono (HB5.out).size))
        have HBX := Lib.hid (Bx.new (w5) 44 #[.bool false, .int .i64 0, .int .u32 0, .int .i64 0, .int .i64 0, .int .u32 0, .int .u32 0, .int .u32 0, .int .u32 0, .slice none 0 0, .slice none 0 0, .bool false, .int .u32 0, .int .i64 0, .string ⟨#[]⟩, .int .i64 0, .int .i64 0, .int .i64 0, .int .i64 0, .int .i64 0, .int .i64 0])
        have HAL := Lib.hid hal
        clear hHeld
        refine hK.out _ _ ?hB2 (fun hHeld => ?_)
        case hB2 => (exact HX3.out.below HB6.out HX3.out.lt)
        clear hK K
        try simp only [Act.put, List.setIfInBounds_toArray, List.set_cons_zero, List.set_cons_succ]
        refine wpAnyH_ready (rs := [5]) (by kernel_rfl) (by simp) ?_
        refine AllReadyH.cons (o := { dst := none, op := Op.store 44 (Operand.tmp 4) (Operand.tmp 25), type := 0, pos := "law.go:34", after := #[{ on := 4, ground := Ground.data }, { on := 3, ground := Ground.data }, { on := 3, ground := Ground.chain }, { on := 0, ground := Ground.phase }, { on := 1, ground := Ground.phase }, { on := 2, ground := Ground.phase }, { on := 3, ground := Ground.phase }, { on := 4, ground := Ground.phase }], guard := none }) rfl (fun K hK => ?_) AllReadyH.nil
        refine step_storeR rowA rfl _ _ rfl w5.heap.size a.cells rfl rfl HBX.out rfl rfl rfl ?_
        clear hHeld
        refine hK.out _ _ ?hB3 (fun hHeld => ?_)
        case hB3 => (exact HX3.out.below ((HB6.out).trans (below_setRow (B := w3.heap.size) _ w5.heap.size a.cells HB5.out.size)) HX3.out.lt)
        clear hK K
        try simp only [Act.put]
        refine wpAnyH_done (by kernel_rfl) ?_ _
        go_wp2
        go_meet
        exact ⟨_, A2, a, rfl, (HBX.out).set _, HAB.out, (HPS.out.pk.later (HAL.out.trans (below_setRow (B := w5.heap.size) _ w5.heap.size a.cells (Nat.le_refl _)))), HB3.out.trans (((HB6.out).trans (below_setRow (B := w3.heap.size) _ w5.heap.size a.cells HB5.out.size)).mono HB3.out.size)⟩
      · go_simp
        have hal : Below (w4).heap.size (w4) ((w4).alloc (.cells #[.bool false, .int .i64 0, .int .u32 0, .int .i64 0, .int .i64 0, .int .u32 0, .int .u32 0, .int .u32 0, .int .u32 0, .slice none 0 0, .slice none 0 0, .bool false, .int .u32 0, .int .i64 0, .string ⟨#[]⟩, .int .i64 0, .int .i64 0, .int .i64 0, .int .i64 0, .int .i64 0, .int .i64 0] 44)) := (Below.refl _ _).alloc (Nat.le_refl _) _
        have HB6 : Hid (Below w3.heap.size w3 ((w4).alloc (.cells #[.bool false, .int .i64 0, .int .u32 0, .int .i64 0, .int .i64 0, .int .u32 0, .int .u32 0, .int .u32 0, .int .u32 0, .slice none 0 0, .slice none 0 0, .bool false, .int .u32 0, .int .i64 0, .string ⟨#[]⟩, .int .i64 0, .int .i64 0, .int .i64 0, .int .i64 0, .int .i64 0, .int .i64 0] 44))) := Lib.hid ((HB4.out).trans (hal.mono (HB4.out).size))
        have HBX := Lib.hid (Bx.new (w4) 44 #[.bool false, .int .i64 0, .int .u32 0, .int .i64 0, .int .i64 0, .int .u32 0, .int .u32 0, .int .u32 0, .int .u32 0, .slice none 0 0, .slice none 0 0, .bool false, .int .u32 0, .int .i64 0, .string ⟨#[]⟩, .int .i64 0, .int .i64 0, .int .i64 0, .int .i64 0, .int .i64 0, .int .i64 0])
        have HRG6 := Lib.hid ((HRG4.out.below hal).more hal.size)
        clear hHeld
        refine hK.out _ _ ?hB4 (fun hHeld => ?_)
        case hB4 => (exact HX3.out.below HB6.out HX3.out.lt)
        clear hK K
        try simp only [Act.put, List.setIfInBounds_toArray, List.set_cons_zero, List.set_cons_succ]
        refine wpAnyH_ready (rs := [3]) (by kernel_rfl) (by simp) ?_
        refine AllReadyH.cons (o := { dst := some 25, op := Op.call { callee := Callee.value (Operand.func 11), args := #[Operand.tmp 22, Operand.tmp 23, Operand.const (Value.int IntKind.i64 1), Operand.const (Value.int IntKind.i64 5), Operand.const (Value.int IntKind.i64 0), Operand.tmp 24], argTypes := #[27, 37, 3, 3, 3, 32] }, type := 44, pos := "law.go:34", after := #[{ on := 0, ground := Ground.data }, { on := 1, ground := Ground.data }, { on := 2, ground := Ground.data }, { on := 0, ground := Ground.chain }], guard := none }) rfl (fun K hK => ?_) AllReadyH.nil
        go_simp
        go_at_call 11
        refine (HAN.out (w4.alloc (.cells #[.bool false, .int .i64 0, .int .u32 0, .int .i64 0, .int .i64 0, .int .u32 0, .int .u32 0, .int .u32 0, .int .u32 0, .slice none 0 0, .slice none 0 0, .bool false, .int .u32 0, .int .i64 0, .string ⟨#[]⟩, .int .i64 0, .int .i64 0, .int .i64 0, .int .i64 0, .int .i64 0, .int .i64 0] 44)) A2 HB6.out HRG6.out).mono ?_
        rintro e w5 ⟨a, rfl, hab, hps, hb5⟩
        have HB5 : Hid (Below w3.heap.size w3 w5) := Lib.hid ((HB6.out).trans (hb5.mono (HB6.out).size))
        have HAB := Lib.hid hab
        have HPS := Lib.hid hps
        have HBX5 := Lib.hid (HBX.out.later hb5)
        have HLT : Hid (w4.heap.size < (w4.alloc (.cells #[.bool false, .int .i64 0, .int .u32 0, .int .i64 0, .int .i64 0, .int .u32 0, .int .u32 0, .int .u32 0, .int .u32 0, .slice none 0 0, .slice none 0 0, .bool false, .int .u32 0, .int .i64 0, .string ⟨#[]⟩, .int .i64 0, .int .i64 0, .int .i64 0, .int .i64 0, .int .i64 0, .int .i64 0] 44)).heap.size) := Lib.hid HBX.out.lt
        clear hHeld
        refine hK.out _ _ ?hB5 (fun hHeld => ?_)
        case hB5 => (exact HX3.out.below HB5.out HX3.out.lt)
        clear hK K
        try simp only [Act.put, List.setIfInBounds_toArray, List.set_cons_zero, List.set_cons_succ]
        refine wpAnyH_ready (rs := [5]) (by kernel_rfl) (by simp) ?_
        refine AllReadyH.cons (o := { dst := none, op := Op.store 44 (Operand.tmp 4) (Operand.tmp 25), type := 0, pos := "law.go:34", after := #[{ on := 4, ground := Ground.data }, { on := 3, ground := Ground.data }, { on := 3, ground := Ground.chain }, { on := 0, ground := Ground.phase }, { on := 1, ground := Ground.phase }, { on := 2, ground := Ground.phase }, { on := 3, ground := Ground.phase }, { on := 4, ground := Ground.phase }], guard := none }) rfl (fun K hK => ?_) AllReadyH.nil
        refine step_storeR rowA rfl _ _ rfl w4.heap.size a.cells rfl rfl HBX5.out rfl rfl rfl ?_
        clear hHeld
        refine hK.out _ _ ?hB6 (fun hHeld => ?_)
        case hB6 => (exact HX3.out.below ((HB5.out).trans (below_setRow (B := w3.heap.size) _ w4.heap.size a.cells HB4.out.size)) HX3.out.lt)
        clear hK K
        try simp only [Act.put]
        refine wpAnyH_done (by kernel_rfl) ?_ _
        go_wp2
        go_meet
        exact ⟨_, A2, a, rfl, (HBX5.out).set _, HAB.out, (HPS.out.set HBX5.out HLT.out (no8_of rfl) a.cells).pk, HB3.out.trans (((HB5.out).trans (below_setRow (B := w3.heap.size) _ w4.heap.size a.cells HB4.out.size)).mono HB3.out.size)⟩
    · go_simp
      have hal : Below (w3.drew).heap.size (w3.drew) ((w3.drew).alloc (.cells #[.bool false, .int .i64 0, .int .u32 0, .int .i64 0, .int .i64 0, .int .u32 0, .int .u32 0, .int .u32 0, .int .u32 0, .slice none 0 0, .slice none 0 0, .bool false, .int .u32 0, .int .i64 0, .string ⟨#[]⟩, .int .i64 0, .int .i64 0, .int .i64 0, .int .i64 0, .int .i64 0, .int .i64 0] 44)) := (Below.refl _ _).alloc (Nat.le_refl _) _
      have HB6 : Hid (Below w3.heap.size w3 ((w3.drew).alloc (.cells #[.bool false, .int .i64 0, .int .u32 0, .int .i64 0, .int .i64 0, .int .u32 0, .int .u32 0, .int .u32 0, .int .u32 0, .slice none 0 0, .slice none 0 0, .bool false, .int .u32 0, .int .i64 0, .string ⟨#[]⟩, .int .i64 0, .int .i64 0, .int .i64 0, .int .i64 0, .int .i64 0, .int .i64 0] 44))) := Lib.hid (((Below.refl w3.heap.size w3).drew).trans (hal.mono ((Below.refl w3.heap.size w3).drew).size))
      have HBX := Lib.hid (Bx.new (w3.drew) 44 #[.bool false, .int .i64 0, .int .u32 0, .int .i64 0, .int .i64 0, .int .u32 0, .int .u32 0, .int .u32 0, .int .u32 0, .slice none 0 0, .slice none 0 0, .bool false, .int .u32 0, .int .i64 0, .string ⟨#[]⟩, .int .i64 0, .int .i64 0, .int .i64 0, .int .i64 0, .int .i64 0, .int .i64 0])
      clear hHeld
      refine hK.out _ _ ?hB8 (fun hHeld => ?_)
      case hB8 => (exact HX3.out.below HB6.out HX3.out.lt)
      clear hK K
      try simp only [Act.put, List.setIfInBounds_toArray, List.set_cons_zero, List.set_cons_succ]
      refine wpAnyH_ready (rs := [0]) (by kernel_rfl) (by simp) ?_
      refine AllReadyH.cons (o := { dst := some 22, op := Op.call { callee := Callee.value (Operand.func 16), args := #[Operand.const (Value.int IntKind.i64 0)], argTypes := #[3] }, type := 27, pos := "law.go:34", after := #[], guard := none }) rfl (fun K hK => ?_) AllReadyH.nil
      go_simp
      go_at_call 16
      refine (HS.out _).mono ?_
      rintro e w4 ⟨A2, rfl, hrg, hb4⟩
      have HB4 : Hid (Below w3.heap.size w3 w4) := Lib.hid ((HB6.out).trans (hb4.mono (HB6.out).size))
      have HRG4 := Lib.hid hrg
      have HBX4 := Lib.hid (HBX.out.later hb4)
      clear hHeld
      refine hK.out _ _ ?hB9 (fun hHeld => ?_)
      case hB9 => (exact HX3.out.below HB4.out HX3.out.lt)
      clear hK K
      try simp only [Act.put, List.setIfInBounds_toArray, List.set_cons_zero, List.set_cons_succ]
      refine wpAnyH_ready (rs := [3]) (by kernel_rfl) (by simp) ?_
      refine AllReadyH.cons (o := { dst := some 25, op := Op.call { callee := Callee.value (Operand.func 11), args := #[Operand.tmp 22, Operand.tmp 23, Operand.const (Value.int IntKind.i64 1), Operand.const (Value.int IntKind.i64 5), Operand.const (Value.int IntKind.i64 0), Operand.tmp 24], argTypes := #[27, 37, 3, 3, 3, 32] }, type := 44, pos := "law.go:34", after := #[{ on := 0, ground := Ground.data }, { on := 1, ground := Ground.data }, { on := 2, ground := Ground.data }, { on := 0, ground := Ground.chain }], guard := none }) rfl (fun K hK => ?_) AllReadyH.nil
      go_simp
      go_at_call 11
      refine (HAN.out w4 A2 HB4.out HRG4.out).mono ?_
      rintro e w5 ⟨a, rfl, hab, hps, hb5⟩
      have HB5 : Hid (Below w3.heap.size w3 w5) := Lib.hid ((HB4.out).trans (hb5.mono (HB4.out).size))
      have HAB := Lib.hid hab
      have HPS := Lib.hid hps
      have HBX5 := Lib.hid (HBX4.out.later hb5)
      have HLT : Hid (w3.drew.heap.size < w4.heap.size) := Lib.hid HBX4.out.lt
      clear hHeld
      refine hK.out _ _ ?hB10 (fun hHeld => ?_)
      case hB10 => (exact HX3.out.below HB5.out HX3.out.lt)
      clear hK K
      try simp only [Act.put, List.setIfInBounds_toArray, List.set_cons_zero, List.set_cons_succ]
      refine wpAnyH_ready (rs := [5]) (by kernel_rfl) (by simp) ?_
      refine AllReadyH.cons (o := { dst := none, op := Op.store 44 (Operand.tmp 4) (Operand.tmp 25), type := 0, pos := "law.go:34", after := #[{ on := 4, ground := Ground.data }, { on := 3, ground := Ground.data }, { on := 3, ground := Ground.chain }, { on := 0, ground := Ground.phase }, { on := 1, ground := Ground.phase }, { on := 2, ground := Ground.phase }, { on := 3, ground := Ground.phase }, { on := 4, ground := Ground.phase }], guard := none }) rfl (fun K hK => ?_) AllReadyH.nil
      refine step_storeR rowA rfl _ _ rfl w3.drew.heap.size a.cells rfl rfl HBX5.out rfl rfl rfl ?_
      clear hHeld
      refine hK.out _ _ ?hB11 (fun hHeld => ?_)
      case hB11 => (exact HX3.out.below ((HB5.out).trans (below_setRow (B := w3.heap.size) _ w3.drew.heap.size a.cells (Nat.le_refl _))) HX3.out.lt)
      clear hK K
      try simp only [Act.put]
      refine wpAnyH_done (by kernel_rfl) ?_ _
      go_wp2
      go_meet
      exact ⟨_, A2, a, rfl, (HBX5.out).set _, HAB.out, (HPS.out.set HBX5.out HLT.out (no8_of rfl) a.cells).pk, HB3.out.trans (((HB5.out).trans (below_setRow (B := w3.heap.size) _ w3.drew.heap.size a.cells (Nat.le_refl _))).mono HB3.out.size)⟩
  case rest =>
    obtain ⟨b2, A2, a, rfl, hX, hab, hpk, hb⟩ := hcut
    have hsend : a.send = true := congrArg AnsV.send hab
    have hch : a.change = false := congrArg AnsV.change hab
    have hyi : a.p.yi = 1 := congrArg (fun x : AnsV => x.reply.yi) hab
    have hkd : NO.kindA a.p.abs = 2 := by
      have e : a.p.abs = promE (lawS 0 A2) awP 2 1 10 := congrArg AnsV.reply hab
      rw [e]
      exact awake_kind A2
    have hsm := small_mem hab (prom_small _ _ _ _ _)
    have HKD := Lib.hid (NO.kind_any a.p wc hpk hsm.1 hsm.2)
    rw [hkd] at HKD
    have HB := Lib.hid hb
    have y0 : wc.cell? ⟨b2, 0, none⟩ = some (.bool true) := by rw [← hsend]; exact hX.at_ 0
    have y1 := hX.at_ 1
    have y2 := hX.at_ 2
    have y3 := hX.at_ 3
    have y4 := hX.at_ 4
    have y5 := hX.at_ 5
    have y6 : wc.cell? ⟨b2, 6, none⟩ = some (.int .u32 1) := (hX.at_ 6).trans (by show some (Value.int .u32 (a.p.yi : Int)) = _; rw [hyi]; rfl)
    have y7 := hX.at_ 7
    have y8 := hX.at_ 8
    have y9 := hX.at_ 9
    have y10 := hX.at_ 10
    have HX := Lib.hid hX
    have HCH := Lib.hid hch
    have hpv : NO.PktV.v a.p = .agg #[.int .i64 a.p.op, .int .u32 (a.p.xid : Int), .int .i64 a.p.secs, .int .i64 a.p.flags, .int .u32 (a.p.ci : Int), .int .u32 1, .int .u32 (a.p.si : Int), .int .u32 (a.p.gi : Int), .slice a.p.hwA a.p.hw.length a.p.hwC, .slice a.p.opA a.p.L.length a.p.opC] := by
      show Value.agg #[_, _, _, _, _, Value.int .u32 (a.p.yi : Int), _, _, _, _] = _
      rw [hyi]
      rfl
    rw [hpv] at HKD
    clear hX hab hpk hb hsend hch hyi hkd hsm hpv
    go_wp2_with fail
    refine HKD.out.mono ?_
    rintro e w6 ⟨rfl, hb6⟩
    have y11 : w6.cell? ⟨b2, 11, none⟩ = some (.bool false) := by rw [← HCH.out]; exact (HX.out.later hb6).at_ 11
    have HB6 := Lib.hid (HB.out.trans (hb6.mono HB.out.size))
    clear hb6 y0 y1 y2 y3 y4 y5 y6 y7 y8 y9 y10
    go_wp2
    go_ret
    exact ⟨rfl, HB6.out⟩
end Go.Proofs.YtmaohnbddlccdaaGreat
