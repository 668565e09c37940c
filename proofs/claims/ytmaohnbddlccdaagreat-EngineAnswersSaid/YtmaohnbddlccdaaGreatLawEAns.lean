/- The law EngineAnswers. (Written by wip/tools/genleans.py.) -/
import Derived.Test.YtmaohnbddlccdaaGreatMrgEnrI
import Derived.Test.YtmaohnbddlccdaaGreatMrgEngB
import Derived.Test.YtmaohnbddlccdaaGreatMrgEngL
import Derived.Deep.DeepCutAuto
namespace Go.Proofs.YtmaohnbddlccdaaGreat
open Go.RowKit Go.Sort

/-- The load of a whole value in a region that draws its order and only reads. -/
theorem quiet_loadR {o : Oper} {a : Act} {C : World → Prop} {R : Act → Prop} {T : TypeId} {n : Nat} (hT : RowT T n) (x : Operand) (ho : o.op = .load T x) (b : Nat) (hx : a.eval x = .pointer (some ⟨b, 0, none⟩)) {cs : Array Value} {t : TypeId} (hB : ∀ w, C w → Bx w b t cs) (hl : cs.size = n)
    (h : R (a.put o.dst (.agg cs))) : o.quiet Tryz.prog a C R := by
  obtain ⟨d, hu, hd⟩ := hT.desc
  refine ⟨.agg cs, fun w hw => ?_, h⟩
  unfold Oper.quietAt execOp
  cases d with
  | struct fs =>
    simp only [ho, hx, Instr.loadAt, Instr.sureAddr, Sem.run_bind, Sem.run_pure, Result.andThen_ok, run_loadVar_row w b t T cs (0, 0) _ (hB w hw) hu rfl (hT.size.trans (by rw [hl]))]
    exact ⟨rfl, rfl⟩
  | array m e =>
    simp only [ho, hx, Instr.loadAt, Instr.sureAddr, Sem.run_bind, Sem.run_pure, Result.andThen_ok, run_loadVar_row w b t T cs (0, 0) _ (hB w hw) hu rfl (hT.size.trans (by rw [hl]))]
    exact ⟨rfl, rfl⟩
  | _ => simp [TypeDesc.isRow] at hd
theorem bx_regrown {w : World} {b : Nat} {t : TypeId} {cs : Array Value} (h : Bx w b t cs) : ∀ w', (∃ p : Regrown, w' = grow (redrawn w p.d) p.os) → Bx w' b t cs := by
  rintro _ ⟨p, rfl⟩
  exact h.later (below_regrown w p.d p.os)

set_option maxRecDepth 100000 in
set_option maxHeartbeats 8000000 in
theorem law_eans {T : World → (Nat → Prop) → Nat → List LV → Prop} (K : TabK T) (x : SiteV) (A2 : Option Addr) (c2 : Nat) (ls : List LV) (c : CaseV) (w : World) (hx : Rg w w.heap.size x.plA x.pl) (hE : El ElemL w w.heap.size A2 ls) (ha : ∀ y ∈ ls, y.addr < 4294967296) (hp : NO.Pk w w.heap.size c.p)
    (hlm : c.p.L.length ≤ 9223372036854775807) (hdm : ∀ y ∈ c.p.L, y.data.length ≤ 9223372036854775807) (hhm : c.p.hw.length ≤ 9223372036854775807) (hl : x.pl.length ≤ 9223372036854775807) (hls : ls.length ≤ 9223372036854775807) (hsv : x.server < 4294967296) (hci : c.p.ci < 4294967296) :
    Calls Tryz.prog 3 #[x.v, .slice A2 ls.length c2, c.v] w fun e w' => e = .returned (.bool true) ∧ Below w.heap.size w w' := by
  obtain ⟨w0, hw0⟩ : ∃ w0, w0 = (w.alloc (.cells x.cells 27)).alloc (.cells c.cells 34) := ⟨_, rfl⟩
  have hs : (w.alloc (.cells x.cells 27)).heap.size = w.heap.size + 1 := by simp
  have hB : Below w.heap.size w w0 := by rw [hw0]; exact ((Below.refl _ _).alloc (Nat.le_refl _) _).alloc (by simp) _
  have hX : SBox w0 w.heap.size x := by rw [hw0]; exact (Bx.new _ _ _).alloc _
  have hC : CBox w0 (w.heap.size + 1) c := by rw [hw0, ← hs]; exact Bx.new _ _ _
  have HX := Lib.hid hX
  have HC := Lib.hid hC
  have HB := Lib.hid hB
  have HRG := Lib.hid ((hx.below hB).more hB.size)
  have HE := Lib.hid (hE.later hB)
  have HPK := Lib.hid (hp.later hB)
  have HA := Lib.hid ha
  have HW0 := Lib.hid hw0
  have HK := Lib.hid K
  have HAW := Lib.hid (fun V => eawake_any K V)
  have HLO := Lib.hid (fun V (h1 : El ElemL V V.heap.size A2 ls) (h2 : NO.Pk V V.heap.size c.p) => elong_any x A2 c2 ls c V h1 h2 hlm hdm hhm hl hls)
  clear hw0 hs hB hX hC hx hE hp ha hdm K
  go_enter Tryz.func3, Tryz.ntmps3
  go_upto_region 1 with fail
  rw [← HW0.out]
  go_wp2_with fail
  refine (HAW.out w0).mono ?_
  rintro e w1 ⟨rfl, hb1⟩
  have HB1 := Lib.hid hb1
  clear hb1 HW0 HAW
  obtain ⟨x0, x1, x2, x3, x4, x5, x6, x7, x8, x9, x10, x11, x12⟩ := SBox.all (HX.out.later HB1.out)
  obtain ⟨k0, k1, k2, k3, k4, k5, k6, k7, k8, k9, k10, k11, k12⟩ := CBox.all (HC.out.later HB1.out)
  have HLL := Lib.hid (HLO.out w1 (HE.out.later HB1.out) (HPK.out.later HB1.out))
  cases hlong : elongB x ls c
  rotate_left
  · rw [hlong] at HLL
    clear hlong
    go_wp2_with fail
    refine HLL.out.mono ?_
    rintro e w2 ⟨rfl, hb2⟩
    have HB2 := Lib.hid (HB.out.trans ((HB1.out.trans (hb2.mono HB1.out.size)).mono HB.out.size))
    clear hb2 x0 x1 x2 x3 x4 x5 x6 x7 x8 x9 x10 x11 x12 k0 k1 k2 k3 k4 k5 k6 k7 k8 k9 k10 k11 k12
    go_wp2
    go_ret
    exact ⟨rfl, HB2.out⟩
  rw [hlong] at HLL
  have HFW := Lib.hid (few_of hlong)
  clear hlong HLO
  go_wp2_with fail
  refine HLL.out.mono ?_
  rintro e w2 ⟨rfl, hb2⟩
  have HB2 := Lib.hid (HB1.out.trans (hb2.mono HB1.out.size))
  have HMA := Lib.hid (emade_any (c2 := c2) HK.out x A2 ls w2 (by have h := HRG.out.below HB2.out; exact h.more HB2.out.size) (by have := HFW.out.hpl; omega) (HE.out.later HB2.out) HFW.out.hls HA.out)
  clear hb2 HLL x0 x1 x2 x3 x4 x5 x6 x7 x8 x9 x10 x11 x12 k0 k1 k2 k3 k4 k5 k6 k7 k8 k9 k10 k11 k12
  obtain ⟨x0, x1, x2, x3, x4, x5, x6, x7, x8, x9, x10, x11, x12⟩ := SBox.all (HX.out.later HB2.out)
  go_wp2_with fail
  refine HMA.out.mono ?_
  rintro e w3 hmade
  obtain ⟨ol0, code0, tp, rp, Lo, hR, hv, htab, hrtab, hb3⟩ : ∃ ol0 code0 tp rp Lo, RefRes x.pl ol0 code0 ∧ e = .returned (.tuple #[.pointer tp, .pointer rp]) ∧ TabA T w3 ol0 tp Lo ∧ RTabA w3 rp Lo ∧ Below w2.heap.size w2 w3 := by
    rcases hmade with ⟨ol, code, hc, hr, he, hb⟩ | ⟨ol, P, g, gr, v, L, hr, he, hL, h2⟩
    · exact ⟨ol, code, none, none, none, hr, he, .no, .no, hb⟩
    · exact ⟨ol, 0, _, _, some L, hr, he, tabA_of hr hL.out h2.t, .yes w2 gr v L h2.r (Nat.le_trans (HK.out.few h2.t) (by omega)) (fun y hy => by have h := ((right_iff y).1 ((HK.out.tab h2.t).right y hy)).2.2.1; exact NC.moV_id h.1 h.2), h2.low⟩
  subst hv
  have HB3 := Lib.hid (HB2.out.trans (hb3.mono HB2.out.size))
  have HPW := Lib.hid HFW.out.pk
  have HR3 := Lib.hid ((HRG.out.below HB3.out).more HB3.out.size)
  have HP3 := Lib.hid (HPK.out.later HB3.out)
  have HAN := Lib.hid (answer_any HK.out x c.p w3 HR3.out (by have := HFW.out.hpl; omega) HP3.out (by have := HPW.out.1; omega) HPW.out.2.1 HPW.out.2.2 hsv hci hR htab c.s c.now c.entry)
  have HRI := Lib.hid (fun V (h : Rg V V.heap.size x.plA x.pl) => (show Calls Tryz.prog 14 #[x.v] V fun e w' => e = .returned (.bool (siteB x code0)) ∧ Below V.heap.size V w' from (sright_any x V h (by have := HFW.out.hpl; omega)).mono (by rintro e w' ⟨ol, code, h1, h2, h3⟩; rw [(res_agree h1 hR).2] at h2; exact ⟨h2, h3⟩)))
  have HIN := Lib.hid (⟨HP3.out, HPW.out.2.2, by have := HPW.out.1; omega, HPW.out.2.1, hsv, hci⟩ : RIn w3 x c.p)
  have HRT := Lib.hid hrtab
  have HRR := Lib.hid (fun V (h : Rg V V.heap.size x.plA x.pl) => (show Calls Tryz.prog 15 #[x.v] V fun e w' => e = .returned (.bool (siteB x code0)) ∧ Below V.heap.size V w' from (rsright_any x V h (by have := HFW.out.hpl; omega)).mono (by rintro e w' ⟨ol, code, h1, h2, h3⟩; rw [(ref_agree h1 hR).2] at h2; exact ⟨h2, h3⟩)))
  have HRA := Lib.hid (fun V (h1 : Rg V V.heap.size x.plA x.pl) (h2 : RIn V x c.p) (h3 : RTabA V rp Lo) => ranswer_any x c.p V h1 (by have := HFW.out.hpl; omega) h2 HPW.out.1 hR h3 c.s c.now c.entry)
  obtain ⟨X, hX⟩ : ∃ X, X = answerE x (siteB x code0) (NO.rightB c.p) Lo c.s c.now c.entry c.p.abs := ⟨_, rfl⟩
  rw [← hX] at HAN
  have HRA2 : Hid (∀ V, Rg V V.heap.size x.plA x.pl → RIn V x c.p → RTabA V rp Lo → Calls Tryz.prog 12 #[x.v, .pointer rp, .int .i64 c.s, .int .i64 c.now, .int .i64 c.entry, c.p.v] V (GivesA V X)) := Lib.hid (fun V h1 h2 h3 => by rw [hX]; exact HRA.out V h1 h2 h3)
  have HFEW : Hid (X.reply.opts.length ≤ 100000) := Lib.hid (by
    have h := (answer_small x (siteB x code0) (NO.rightB c.p) Lo c.s c.now c.entry c.p.abs)
    rw [← hX] at h
    exact Nat.le_trans h.1 (by omega))
  clear hmade htab hrtab hb3 hR hX HMA HRA x0 x1 x2 x3 x4 x5 x6 x7 x8 x9 x10 x11 x12 HRG HE HA HK
  generalize siteB x code0 = ok at *
  obtain ⟨x0, x1, x2, x3, x4, x5, x6, x7, x8, x9, x10, x11, x12⟩ := SBox.all (HX.out.later HB3.out)
  obtain ⟨k0, k1, k2, k3, k4, k5, k6, k7, k8, k9, k10, k11, k12⟩ := CBox.all (HC.out.later HB3.out)
  go_wp2_with fail
  refine HAN.out.mono ?_
  rintro e w4 ⟨a, rfl, HAB, hps, hb4⟩
  obtain ⟨ba, hba⟩ : ∃ ba, ba = w4.heap.size := ⟨_, rfl⟩
  obtain ⟨w5, hw5⟩ : ∃ w5, w5 = w4.alloc (.cells a.cells 44) := ⟨_, rfl⟩
  have h45 : Below w4.heap.size w4 w5 := by rw [hw5]; exact (Below.refl _ _).alloc (Nat.le_refl _) _
  have h35 := hb4.trans (h45.mono hb4.size)
  have HA5 : Hid (Bx w5 ba 44 a.cells) := Lib.hid (by rw [hw5, hba]; exact Bx.new _ _ _)
  have HB5 := Lib.hid (HB3.out.trans (h35.mono HB3.out.size))
  have HAP := Lib.hid (hps.pk.later h45)
  have HRG5 := Lib.hid ((HR3.out.below h35).more h35.size)
  have HIN5 := Lib.hid (HIN.out.later h35)
  have HRT5 : Hid (RTabA w5 rp Lo) := Lib.hid (by
    have h := HRT.out
    cases h with
    | no => exact .no
    | yes wb g v L h1 h2 h3 => exact .yes wb g v L (h1.later h35) h2 h3)
  have HW5 := Lib.hid hw5
  have HBA := Lib.hid hba
  clear hps hb4 h45 h35 hw5 hba HAN HRT HIN x0 x1 x2 x3 x4 x5 x6 x7 x8 x9 x10 x11 x12 k0 k1 k2 k3 k4 k5 k6 k7 k8 k9 k10 k11 k12
  go_upto_region 7 with (first | (refine wp_storeL rowA rfl _ _ rfl _ _ _ rfl rfl rfl rfl rfl rfl ?_))
  go_simp
  rw [← HW5.out, ← HBA.out]
  clear HW5 HBA
  obtain ⟨x0, x1, x2, x3, x4, x5, x6, x7, x8, x9, x10, x11, x12⟩ := SBox.all (HX.out.later HB5.out)
  obtain ⟨k0, k1, k2, k3, k4, k5, k6, k7, k8, k9, k10, k11, k12⟩ := CBox.all (HC.out.later HB5.out)
  go_wp2_with fail
  refine (HRA2.out w5 HRG5.out HIN5.out HRT5.out).mono ?_
  rintro e w6 ⟨b, rfl, HABb, hpsb, hb6⟩
  obtain ⟨bb, hbb⟩ : ∃ bb, bb = w6.heap.size := ⟨_, rfl⟩
  obtain ⟨w7, hw7⟩ : ∃ w7, w7 = w6.alloc (.cells b.cells 44) := ⟨_, rfl⟩
  have h67 : Below w6.heap.size w6 w7 := by rw [hw7]; exact (Below.refl _ _).alloc (Nat.le_refl _) _
  have h57 := hb6.trans (h67.mono hb6.size)
  have HA7 := Lib.hid (HA5.out.later h57)
  have HB7 : Hid (Bx w7 bb 44 b.cells) := Lib.hid (by rw [hw7, hbb]; exact Bx.new _ _ _)
  have HL7 := Lib.hid (HB5.out.trans (h57.mono HB5.out.size))
  have HAP7 := Lib.hid (HAP.out.later h57)
  have HBP7 := Lib.hid (hpsb.pk.later h67)
  have HRG7 := Lib.hid ((HRG5.out.below h57).more h57.size)
  have HX7 := Lib.hid (HX.out.later HL7.out)
  have HW7 := Lib.hid hw7
  have HBB := Lib.hid hbb
  have HEQ : Hid (a.abs = b.abs) := Lib.hid (by rw [HAB.out, HABb.out])
  have HLEN : Hid (a.p.L.length ≤ 100000) := Lib.hid (by
    have h := HFEW.out
    rw [← HAB.out] at h
    have e : a.abs.reply.opts.length = a.p.L.length := by show (NO.absL a.p.L).length = _; simp [NO.absL]
    omega)
  clear hpsb hb6 h67 h57 hw7 hbb HRA2 HFEW HAB HABb HA5 HB5 HAP HRG5 HIN5 HRT5 x0 x1 x2 x3 x4 x5 x6 x7 x8 x9 x10 x11 x12 k0 k1 k2 k3 k4 k5 k6 k7 k8 k9 k10 k11 k12
  go_upto_region 8 with (first | (refine wp_storeL rowA rfl _ _ rfl _ _ _ rfl rfl rfl rfl rfl rfl ?_))
  go_simp
  rw [← HW7.out, ← HBB.out]
  clear HW7 HBB
  have HSM := Lib.hid (fun (d : Nat) (os : Array Obj) => Calls.regrown_of (rsameA_any a b HEQ.out (grow (redrawn w7 d) os) (HAP7.out.later (below_regrown w7 d os)) (HBP7.out.later (below_regrown w7 d os)) HLEN.out))
  have HQI := Lib.hid (fun (d : Nat) (os : Array Obj) => Calls.regrown_of (HRI.out (grow (redrawn w7 d) os) (by have h := HRG7.out.below (below_regrown w7 d os); exact h.more (below_regrown w7 d os).size)))
  have HQR := Lib.hid (fun (d : Nat) (os : Array Obj) => Calls.regrown_of (HRR.out (grow (redrawn w7 d) os) (by have h := HRG7.out.below (below_regrown w7 d os); exact h.more (below_regrown w7 d os).size)))
  have HQA := Lib.hid (bx_regrown HA7.out)
  have HQB := Lib.hid (bx_regrown HB7.out)
  have HQX := Lib.hid (bx_regrown HX7.out)
  clear HRI HRR HEQ HLEN HRG7 HA7 HB7 HX7 HAP7 HBP7
  refine wp_region_quiet_below (by kernel_rfl) (by kernel_rfl) ?_
  repeat (first
    | (go_big_quiet_want; (refine quiet_loadR rowA _ rfl ba rfl HQA.out rfl ?_); go_simp; go_big_quiet_on)
    | (go_big_quiet_want; (refine quiet_loadR rowA _ rfl bb rfl HQB.out rfl ?_); go_simp; go_big_quiet_on)
    | (go_big_quiet_want; (refine quiet_loadR rowS _ rfl w.heap.size rfl HQX.out rfl ?_); go_simp; go_big_quiet_on)
    | go_big_quiet_step ((first | with_reducible exact HSM.out _ _ | with_reducible exact HQI.out _ _ | with_reducible exact HQR.out _ _)))
  refine wpQuiet_nil ?_
  intro _ hw'
  obtain ⟨⟨dq, osq⟩, hw''⟩ := hw'
  subst hw''
  go_wp2
  go_ret
  exact ⟨by simp, HB.out.trans ((HL7.out.trans ((below_regrown w7 dq osq).mono HL7.out.size)).mono HB.out.size)⟩
end Go.Proofs.YtmaohnbddlccdaaGreat
