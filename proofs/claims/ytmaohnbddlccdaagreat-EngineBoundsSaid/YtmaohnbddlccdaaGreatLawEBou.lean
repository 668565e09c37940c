/- The law EngineBounds. -/
import Derived.Test.YtmaohnbddlccdaaGreatMrgEngG
import Derived.Test.YtmaohnbddlccdaaGreatMrgRefM
import Derived.Lib.QuietBelow
import Derived.Deep.DeepCutAuto
namespace Go.Proofs.YtmaohnbddlccdaaGreat
open Go.RowKit Go.Sort

set_option maxRecDepth 100000 in
set_option maxHeartbeats 8000000 in
theorem law_ebou {T : World → (Nat → Prop) → Nat → List LV → Prop} (K : TabK T) (id : Int) (A2 : Option Addr) (c2 : Nat) (ls : List LV) (c : CaseV) (w : World) (hE : El ElemL w w.heap.size A2 ls) (ha : ∀ y ∈ ls, y.addr < 4294967296) (hp : NO.Pk w w.heap.size c.p)
    (hlm : c.p.L.length ≤ 9223372036854775807) (hdm : ∀ y ∈ c.p.L, y.data.length ≤ 9223372036854775807) (hhm : c.p.hw.length ≤ 9223372036854775807) (hls : ls.length ≤ 9223372036854775807) (hci : c.p.ci < 4294967296) :
    Calls Tryz.prog 6 #[.int .i64 id, .slice A2 ls.length c2, c.v] w fun e w' => e = .returned (.bool true) ∧ Below w.heap.size w w' := by
  obtain ⟨w0, hw0⟩ : ∃ w0, w0 = w.alloc (.cells c.cells 34) := ⟨_, rfl⟩
  have hB : Below w.heap.size w w0 := by rw [hw0]; exact (Below.refl _ _).alloc (Nat.le_refl _) _
  have hC : CBox w0 w.heap.size c := by rw [hw0]; exact Bx.new _ _ _
  have HC := Lib.hid hC
  have HB := Lib.hid hB
  have HE := Lib.hid (hE.later hB)
  have HPK := Lib.hid (hp.later hB)
  have HA := Lib.hid ha
  have HW0 := Lib.hid hw0
  have HK := Lib.hid K
  have HAW := Lib.hid (fun V => eawake_any K V)
  have HSI := Lib.hid (fun (i : Int) V => (show Calls Tryz.prog 16 #[.int .i64 i] V fun e w' => ∃ x : SiteV, e = .returned x.v ∧ (∃ A, x = lawS i A) ∧ Rg w' w'.heap.size x.plA x.pl ∧ Below V.heap.size V w' from (site_any i V).mono (by rintro e w' ⟨A, h1, h2, h3⟩; exact ⟨lawS i A, h1, ⟨A, rfl⟩, h2, h3⟩)))
  have HLO := Lib.hid (fun x V (h1 : El ElemL V V.heap.size A2 ls) (h2 : NO.Pk V V.heap.size c.p) (hl : x.pl.length ≤ 9223372036854775807) => elong_any x A2 c2 ls c V h1 h2 hlm hdm hhm hl hls)
  clear hw0 hB hC hE hp ha hdm K
  go_enter Tryz.func6, Tryz.ntmps6
  go_upto_region 1 with fail
  rw [← HW0.out]
  go_wp2_with fail
  refine (HAW.out w0).mono ?_
  rintro e w1 ⟨rfl, hb1⟩
  have HB1 := Lib.hid hb1
  clear hb1 HW0 HAW
  go_wp2_with fail
  refine (HSI.out _ w1).mono ?_
  rintro e w2 ⟨x, rfl, hxs, hrg, hb2⟩
  obtain ⟨g, hg⟩ : ∃ g, g = w2.heap.size := ⟨_, rfl⟩
  obtain ⟨w3, hw3⟩ : ∃ w3, w3 = w2.alloc (.cells x.cells 27) := ⟨_, rfl⟩
  have h23 : Below w2.heap.size w2 w3 := by rw [hw3]; exact (Below.refl _ _).alloc (Nat.le_refl _) _
  have HX : Hid (SBox w3 g x) := Lib.hid (by rw [hw3, hg]; exact Bx.new _ _ _)
  have hpl6 : x.pl = [(1, 6)] := by obtain ⟨A, e⟩ := hxs; rw [e]; rfl
  have hsv : x.server < 4294967296 := by obtain ⟨A, e⟩ := hxs; rw [e]; show 9 < 4294967296; decide
  have HPL := Lib.hid hpl6
  have HSV := Lib.hid hsv
  have HXS := Lib.hid hxs
  have HRG := Lib.hid ((hrg.below h23).more h23.size)
  have HB3 := Lib.hid (HB1.out.trans ((hb2.trans (h23.mono hb2.size)).mono HB1.out.size))
  have HW3 := Lib.hid hw3
  have HG := Lib.hid hg
  clear hxs hrg hb2 h23 hg hw3 HSI hpl6 hsv HB1
  go_upto_region 3 with (first | (refine wp_storeL rowS rfl _ _ rfl _ _ _ rfl rfl rfl rfl rfl rfl ?_))
  go_simp
  rw [← HW3.out, ← HG.out]
  obtain ⟨x0, x1, x2, x3, x4, x5, x6, x7, x8, x9, x10, x11, x12⟩ := SBox.all HX.out
  obtain ⟨k0, k1, k2, k3, k4, k5, k6, k7, k8, k9, k10, k11, k12⟩ := CBox.all (HC.out.later HB3.out)
  have HLL := Lib.hid (HLO.out x w3 (HE.out.later HB3.out) (HPK.out.later HB3.out) (by rw [HPL.out]; decide))
  cases hlong : elongB x ls c
  rotate_left
  · rw [hlong] at HLL
    clear hlong
    go_wp2_with fail
    refine HLL.out.mono ?_
    rintro e w4 ⟨rfl, hb4⟩
    have HB4 := Lib.hid (HB.out.trans ((HB3.out.trans (hb4.mono HB3.out.size)).mono HB.out.size))
    clear hb4 x0 x1 x2 x3 x4 x5 x6 x7 x8 x9 x10 x11 x12 k0 k1 k2 k3 k4 k5 k6 k7 k8 k9 k10 k11 k12
    go_wp2
    go_ret
    exact ⟨rfl, HB4.out⟩
  rw [hlong] at HLL
  have HFW := Lib.hid (few_of hlong)
  clear hlong HLO
  go_wp2_with fail
  refine HLL.out.mono ?_
  rintro e w4 ⟨rfl, hb4⟩
  have HB4 := Lib.hid (HB3.out.trans (hb4.mono HB3.out.size))
  have HX4 := Lib.hid (HX.out.later hb4)
  have HRG4 := Lib.hid ((HRG.out.below hb4).more hb4.size)
  have HMA := Lib.hid (emade_any (c2 := c2) HK.out x A2 ls w4 HRG4.out (by have := HFW.out.hpl; omega) (HE.out.later HB4.out) HFW.out.hls HA.out)
  clear hb4 HLL HB3 HX HRG x0 x1 x2 x3 x4 x5 x6 x7 x8 x9 x10 x11 x12 k0 k1 k2 k3 k4 k5 k6 k7 k8 k9 k10 k11 k12
  obtain ⟨x0, x1, x2, x3, x4, x5, x6, x7, x8, x9, x10, x11, x12⟩ := SBox.all HX4.out
  have k1 := (HC.out.later HB4.out).at_ 1
  have HB04 := Lib.hid (HB.out.trans (HB4.out.mono HB.out.size))
  by_cases hneg : c.now < 0
  · have d1 : decide (c.now < 0) = true := decide_eq_true hneg
    clear hneg
    go_wp2
    go_ret
    exact ⟨rfl, HB04.out⟩
  have d1 : decide (c.now < 0) = false := decide_eq_false hneg
  by_cases hbig : 549755813888 < c.now
  · have d2 : decide (549755813888 < c.now) = true := decide_eq_true hbig
    clear hneg hbig
    go_wp2
    go_ret
    exact ⟨rfl, HB04.out⟩
  have d2 : decide (549755813888 < c.now) = false := decide_eq_false hbig
  have HNW : Hid (0 ≤ c.now ∧ c.now ≤ 549755813888) := Lib.hid ⟨by omega, by omega⟩
  clear hneg hbig HB04
  go_wp2_with fail
  refine HMA.out.mono ?_
  rintro e w5 hmade
  obtain ⟨ol0, code0, tp, rp, Lo, hR, hv, htab, hb5⟩ : ∃ ol0 code0 tp rp Lo, RefRes x.pl ol0 code0 ∧ e = .returned (.tuple #[.pointer tp, .pointer rp]) ∧ TabA T w5 ol0 tp Lo ∧ Below w4.heap.size w4 w5 := by
    rcases hmade with ⟨ol, code, hc, hr, he, hb⟩ | ⟨ol, P, g, gr, v, L, hr, he, hL, h2⟩
    · exact ⟨ol, code, none, none, none, hr, he, .no, hb⟩
    · exact ⟨ol, 0, _, _, some L, hr, he, tabA_of hr hL.out h2.t, h2.low⟩
  subst hv
  have HB5 := Lib.hid (HB4.out.trans (hb5.mono HB4.out.size))
  have HX5 := Lib.hid (HX4.out.later hb5)
  have HPW := Lib.hid HFW.out.pk
  have HR5 := Lib.hid ((HRG4.out.below hb5).more hb5.size)
  have HP5 := Lib.hid (HPK.out.later HB5.out)
  have HAN := Lib.hid (answer_any HK.out x c.p w5 HR5.out (by have := HFW.out.hpl; omega) HP5.out (by have := HPW.out.1; omega) HPW.out.2.1 HPW.out.2.2 HSV.out hci hR htab c.s c.now c.entry)
  obtain ⟨X, hX⟩ : ∃ X, X = answerE x (siteB x code0) (NO.rightB c.p) Lo c.s c.now c.entry c.p.abs := ⟨_, rfl⟩
  rw [← hX] at HAN
  have HSM : Hid (Small X.reply) := Lib.hid (by rw [hX]; exact answer_small _ _ _ _ _ _ _ _)
  have hT : ∀ L, Lo = some L → TabL L := by
    intro L e
    subst e
    cases htab with
    | yes gt P L h hin hlen => exact HK.out.tab h
  have hx10 : x.lead = 10 ∧ x.most = 1000 ∧ x.server = 9 := by obtain ⟨A, e⟩ := HXS.out; rw [e]; exact ⟨rfl, rfl, rfl⟩
  have HS9 := Lib.hid hx10.2.2
  have HOW : Hid (BouE x c.now c.p.abs Lo X) := Lib.hid (by rw [hX]; exact answer_bou _ _ _ hx10.1 hx10.2.1 HNW.out.1 HNW.out.2 hT)
  have HTA := Lib.hid htab
  clear hmade htab hb5 hR hX hT hx10
  clear k1 d1 d2 x0 x1 x2 x3 x4 x5 x6 x7 x8 x9 x10 x11 x12 HMA HX4 HRG4 HB4 HE HA
  obtain ⟨x0, x1, x2, x3, x4, x5, x6, x7, x8, x9, x10, x11, x12⟩ := SBox.all HX5.out
  obtain ⟨k0, k1, k2, k3, k4, k5, k6, k7, k8, k9, k10, k11, k12⟩ := CBox.all (HC.out.later HB5.out)
  go_wp2_with fail
  refine HAN.out.mono ?_
  rintro e w6 ⟨a, rfl, HAB, hps, hb6⟩
  obtain ⟨b, hbb⟩ : ∃ b, b = w6.heap.size := ⟨_, rfl⟩
  obtain ⟨w7, hw7⟩ : ∃ w7, w7 = w6.alloc (.cells a.cells 44) := ⟨_, rfl⟩
  have h67 : Below w6.heap.size w6 w7 := by rw [hw7]; exact (Below.refl _ _).alloc (Nat.le_refl _) _
  have h57 := hb6.trans (h67.mono hb6.size)
  have HX7 : Hid (Bx w7 b 44 a.cells) := Lib.hid (by rw [hw7, hbb]; exact Bx.new _ _ _)
  have HB7 := Lib.hid (HB5.out.trans (h57.mono HB5.out.size))
  have HAP := Lib.hid (hps.pk.later h67)
  have HPK7 := Lib.hid (HP5.out.later h57)
  have HH57 := Lib.hid h57
  have HC7 := Lib.hid (HC.out.later HB7.out)
  have HW7 := Lib.hid hw7
  have HBB := Lib.hid hbb
  have HSMA := Lib.hid (small_mem HAB.out HSM.out)
  clear hps hb6 h67 h57 hw7 hbb HAN x0 x1 x2 x3 x4 x5 x6 x7 x8 x9 x10 x11 x12 k0 k1 k2 k3 k4 k5 k6 k7 k8 k9 k10 k11 k12 HX5 HC
  go_upto_region 8 with (first | (refine wp_storeL rowA rfl _ _ rfl _ _ _ rfl rfl rfl rfl rfl rfl ?_))
  go_simp
  rw [← HW7.out, ← HBB.out]
  have how := HOW.out
  rw [← HAB.out] at how
  have HB07 := Lib.hid (HB.out.trans (HB7.out.mono HB.out.size))
  have y10 := HX7.out.at_ 10
  have HFI := Lib.hid (NO.rfind_any a.p.opA a.p.opC a.p.L 51 w7 HAP.out.opt (by have := HSMA.out.1; omega))
  clear HOW HSM
  cases how with
  | none is bs hf hl h hy =>
    have HF : Hid (NO.findL (NO.absL a.p.L) 51 = (bs, is)) := Lib.hid hf
    rw [HF.out] at HFI
    have ey : a.p.yi = 0 := hy
    have h' : a.send = false ∨ a.send = true ∧ is = false := h
    have HH := Lib.hid h'
    have HEY := Lib.hid ey
    have HLB := Lib.hid hl
    clear hf hl h hy h' ey
    go_wp2_with fail
    refine HFI.out.mono ?_
    rintro e w8 ⟨A9, c9, rfl, hby, hb8⟩
    have HX8 := Lib.hid (HX7.out.later hb8)
    have HB8 := Lib.hid (HB07.out.trans (hb8.mono HB07.out.size))
    have HRN := Lib.hid (NO.rnumber_any A9 c9 bs w8 hby (by have := HLB.out; omega))
    clear hb8 hby y10
    go_wp2_with fail
    refine HRN.out.mono ?_
    rintro e w9 ⟨rfl, rfl⟩
    have y6 : w8.cell? ⟨b, 6, none⟩ = some (.int .u32 0) := by have h := HX8.out.at_ 6; simp only [AnW.cells] at h; rw [HEY.out] at h; exact h
    rcases HH.out with e0 | ⟨e0, rfl⟩
    · have y0 : w8.cell? ⟨b, 0, none⟩ = some (.bool false) := by rw [← e0]; exact HX8.out.at_ 0
      clear e0
      go_wp2
      go_ret
      exact ⟨rfl, HB8.out⟩
    · have y0 : w8.cell? ⟨b, 0, none⟩ = some (.bool true) := by rw [← e0]; exact HX8.out.at_ 0
      clear e0
      go_wp2
      go_ret
      exact ⟨rfl, HB8.out⟩
  | some L m n hs hL hm hf h0 h1 h2 hxi hsi hop ha =>
    subst hL
    obtain ⟨gt, P, htp, ht⟩ : ∃ gt P, tp = some ⟨gt, 0, none⟩ ∧ T w5 P gt L := by
      cases HTA.out with
      | yes gt P L h _ _ => exact ⟨gt, P, rfl, h⟩
    subst htp
    have e0 : a.send = true := hs
    have e2 : a.p.xid = c.p.xid := hxi
    have e7 : a.p.si = 9 := by have h : a.p.si = x.server := hsi; rw [h]; exact HS9.out
    have e1 : a.p.op = 2 := hop
    have HM : Hid (lookE L a.p.yi = some m) := Lib.hid hm
    have hyi : a.p.yi < 4294967296 := by
      obtain ⟨h1, h2⟩ := look_mem HM.out
      have := HK.out.w32 ht m h1
      omega
    have HF : Hid (NO.findL (NO.absL a.p.L) 51 = ((NO.bytR n 4).1, true)) := Lib.hid hf
    rw [HF.out] at HFI
    have HT7 := Lib.hid (HK.out.later ht HH57.out)
    have HNU := Lib.hid (byt_numR (n := n) (by omega) (by omega))
    have HL4 := Lib.hid (byt_four (n := n) (by omega) (by omega)).1
    have HU := Lib.hid (And.intro h0 (And.intro h1 (And.intro h2 ha)))
    have HE := Lib.hid (And.intro e0 (And.intro e1 (And.intro e2 e7)))
    have HYI := Lib.hid hyi
    clear hs hm hf h0 h1 h2 hxi hsi hop ha e0 e1 e2 e7 hyi ht HTA
    go_wp2_with fail
    refine HFI.out.mono ?_
    rintro e w8 ⟨A9, c9, rfl, hby, hb8⟩
    have HX8 := Lib.hid (HX7.out.later hb8)
    have HB8 := Lib.hid (HB07.out.trans (hb8.mono HB07.out.size))
    have HT8 := Lib.hid (HK.out.later HT7.out hb8)
    have HC8 := Lib.hid (HC7.out.later hb8)
    have HP8 := Lib.hid (HPK7.out.later hb8)
    have HRN := Lib.hid (NO.rnumber_any A9 c9 (NO.bytR n 4).1 w8 hby (by rw [HL4.out]; decide))
    clear hb8 hby y10
    go_wp2_with fail
    refine HRN.out.mono ?_
    rintro e w9 ⟨rfl, rfl⟩
    rw [HNU.out]
    have y0 : w8.cell? ⟨b, 0, none⟩ = some (.bool true) := by rw [← HE.out.1]; exact HX8.out.at_ 0
    have y6 := HX8.out.at_ 6
    have HG := Lib.hid (HK.out.get a.p.yi HT8.out HYI.out)
    rw [getL_look, HM.out] at HG
    go_wp2_with fail
    refine HG.out.mono ?_
    rintro e w9 ⟨rfl, hb9⟩
    obtain ⟨w10, hw10⟩ : ∃ w10, w10 = w9.alloc (lbox m) := ⟨_, rfl⟩
    obtain ⟨gm, hgm⟩ : ∃ gm, gm = w9.heap.size := ⟨_, rfl⟩
    have h89 : Below w9.heap.size w9 w10 := by rw [hw10]; exact (Below.refl _ _).alloc (Nat.le_refl _) _
    have h79 := hb9.trans (h89.mono hb9.size)
    have HL10 : Hid (LBox w10 gm m) := Lib.hid (by rw [hw10, hgm]; exact LBox.new w9 m)
    have HC10 := Lib.hid (HC8.out.later h79)
    have HK10 := Lib.hid (HP8.out.later h79)
    have HX10 := Lib.hid (HX8.out.later h79)
    have HB10 := Lib.hid (HB8.out.trans (h79.mono HB8.out.size))
    have HW10 := Lib.hid hw10
    have HGM := Lib.hid hgm
    clear hb9 hw10 hgm h89 h79 y0 y6 HG HX7 HX8 HC7 HC8 HP8 HPK7 HB7 HB5 HB HT7 HT8 HK
    go_upto_region 14 with fail
    rw [← HW10.out, ← HGM.out]
    go_cut [102] (fun s102 wx => s102 = .bool (theirsB m (NO.clientA c.p.abs)) ∧ Below w10.heap.size w10 wx)
    case first =>
      have HTB : Hid (theirsB m (NO.clientA c.p.abs) = (m.bind == 2 && m.cb.toList == NO.clientA c.p.abs)) := Lib.hid (by unfold theirsB; rw [ByteArray.toList_eq, m.cb_data])
      have CX := Lib.hid (fun d os => Calls.regrown_of (NO.client_any c.p _ (HK10.out.later (below_regrown w10 d os)) (by have := HPW.out.1; omega) HPW.out.2.1))
      have l1 := cell_regrown HL10.out.c1
      have l2 := cell_regrown HL10.out.c2
      obtain ⟨-, -, -, k3, k4, k5, k6, k7, k8, k9, k10, k11, k12⟩ := CBox.all HC10.out
      have k3 := cell_regrown k3
      have k4 := cell_regrown k4
      have k5 := cell_regrown k5
      have k6 := cell_regrown k6
      have k7 := cell_regrown k7
      have k8 := cell_regrown k8
      have k9 := cell_regrown k9
      have k10 := cell_regrown k10
      have k11 := cell_regrown k11
      have k12 := cell_regrown k12
      cases h1 : (m.bind == 2)
      all_goals
        have HH1 := Lib.hid h1
        refine wp_region_quiet_below (by kernel_rfl) (by kernel_rfl) ?_
        repeat (first | go_big_quiet_step (first | (go_at_call 20; exact CX.out _ _)) | quiet_step (first | (go_at_call 20; exact CX.out _ _)))
        refine wpQuiet_nil ?_
        intro _ hw'
        obtain ⟨⟨dq, osq⟩, hw''⟩ := hw'
        subst hw''
        go_wp2_with fail
        go_meet
        refine ⟨?_, below_regrown _ dq osq⟩
        rw [HTB.out, HH1.out]
        first | rfl | simp
    case rest =>
      obtain ⟨rfl, hbc⟩ := hcut
      have hu := HU.out
      generalize theirsB m (NO.clientA c.p.abs) = tb at *
      have HB11 := Lib.hid (HB10.out.trans (hbc.mono HB10.out.size))
      have HX11 := Lib.hid (HX10.out.later hbc)
      have HL11 := Lib.hid (HL10.out.later hbc)
      have HC11 := Lib.hid (HC10.out.later hbc)
      have HU := Lib.hid hu
      clear hu hbc HX10 HL10 HC10 HB10
      have k1 := HC11.out.at_ 1
      have k4 := HC11.out.at_ 4
      have l4 := HL11.out.c4
      obtain ⟨e0, e1, e2, e7⟩ := HE.out
      have z1 : wc.cell? ⟨b, 1, none⟩ = some (.int .i64 2) := by rw [← e1]; exact HX11.out.at_ 1
      have z2 : wc.cell? ⟨b, 2, none⟩ = some (.int .u32 (c.p.xid : Int)) := by rw [← e2]; exact HX11.out.at_ 2
      have z7 : wc.cell? ⟨b, 7, none⟩ = some (.int .u32 9) := by have h := HX11.out.at_ 7; simp only [AnW.cells] at h; rw [e7] at h; exact h
      have hw1 : IntKind.i64.wrap (c.now + n) = c.now + n := by have h1 := HU.out; have h2 := HNW.out; simp [IntKind.wrap, IntKind.bits, IntKind.signed]; omega
      have d2 : decide (n ≤ 1000) = true := decide_eq_true HU.out.2.1
      clear e0 e1 e2 e7
      cases tb
      · have hw2 : IntKind.i64.wrap (max c.now 0 + 10) = max c.now 0 + 10 := by have h2 := HNW.out; simp [IntKind.wrap, IntKind.bits, IntKind.signed]; omega
        have d1 : decide (c.now + n ≤ max c.now 0 + 10) = true := decide_eq_true (by have h := HU.out.2.2.1; simpa using h)
        go_wp2
        go_ret
        exact ⟨by simp, HB11.out⟩
      · have hw2 : IntKind.i64.wrap (max c.now m.acked + 10) = max c.now m.acked + 10 := by have h2 := HNW.out; have h3 := HU.out.2.2.2; simp [IntKind.wrap, IntKind.bits, IntKind.signed]; omega
        have d1 : decide (c.now + n ≤ max c.now m.acked + 10) = true := decide_eq_true (by have h := HU.out.2.2.1; simpa using h)
        go_wp2
        go_ret
        exact ⟨by simp, HB11.out⟩
end Go.Proofs.YtmaohnbddlccdaaGreat
