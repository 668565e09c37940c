/- The law EngineOwn. -/
import Derived.Test.YtmaohnbddlccdaaGreatMrgEngG
import Derived.Deep.DeepCutAuto
namespace Go.Proofs.YtmaohnbddlccdaaGreat
open Go.RowKit Go.Sort

set_option maxRecDepth 100000 in
set_option maxHeartbeats 8000000 in
theorem law_eown {T : World → (Nat → Prop) → Nat → List LV → Prop} (K : TabK T) (id : Int) (A2 : Option Addr) (c2 : Nat) (ls : List LV) (c : CaseV) (w : World) (hE : El ElemL w w.heap.size A2 ls) (ha : ∀ y ∈ ls, y.addr < 4294967296) (hp : NO.Pk w w.heap.size c.p)
    (hlm : c.p.L.length ≤ 9223372036854775807) (hdm : ∀ y ∈ c.p.L, y.data.length ≤ 9223372036854775807) (hhm : c.p.hw.length ≤ 9223372036854775807) (hls : ls.length ≤ 9223372036854775807) (hci : c.p.ci < 4294967296) :
    Calls Tryz.prog 5 #[.int .i64 id, .slice A2 ls.length c2, c.v] w fun e w' => e = .returned (.bool true) ∧ Below w.heap.size w w' := by
  obtain ⟨w0, hw0⟩ : ∃ w0, w0 = w.alloc (.cells c.cells 34) := ⟨_, rfl⟩
  have hB : Below w.heap.size w w0 := by rw [hw0]; exact (Below.refl _ _).alloc (Nat.le_refl _) _
  have hC : CBox w0 w.heap.size c := by rw [hw0]; exact Bx.new _ _ _
  have HC := Lib.hid hC
  have HB := Lib.hid hB
  have HE := Lib.hid (hE.later hB)
  have HPK := Lib.hid (hp.later hB)
  have HA := Lib.hid ha
  have HW0 := Lib.hid hw0
  have HK := Lib.hid K
  have HAW := Lib.hid (fun V => eawake_any K V)
  have HSI := Lib.hid (fun (i : Int) V => (show Calls Tryz.prog 16 #[.int .i64 i] V fun e w' => ∃ x : SiteV, e = .returned x.v ∧ (∃ A, x = lawS i A) ∧ Rg w' w'.heap.size x.plA x.pl ∧ Below V.heap.size V w' from (site_any i V).mono (by rintro e w' ⟨A, h1, h2, h3⟩; exact ⟨lawS i A, h1, ⟨A, rfl⟩, h2, h3⟩)))
  have HLO := Lib.hid (fun x V (h1 : El ElemL V V.heap.size A2 ls) (h2 : NO.Pk V V.heap.size c.p) (hl : x.pl.length ≤ 9223372036854775807) => elong_any x A2 c2 ls c V h1 h2 hlm hdm hhm hl hls)
  clear hw0 hB hC hE hp ha hdm K
  go_enter Tryz.func5, Tryz.ntmps5
  go_upto_region 1 with fail
  rw [← HW0.out]
  go_wp2_with fail
  refine (HAW.out w0).mono ?_
  rintro e w1 ⟨rfl, hb1⟩
  have HB1 := Lib.hid hb1
  clear hb1 HW0 HAW
  go_wp2_with fail
  refine (HSI.out _ w1).mono ?_
  rintro e w2 ⟨x, rfl, hxs, hrg, hb2⟩
  obtain ⟨g, hg⟩ : ∃ g, g = w2.heap.size := ⟨_, rfl⟩
  obtain ⟨w3, hw3⟩ : ∃ w3, w3 = w2.alloc (.cells x.cells 27) := ⟨_, rfl⟩
  have h23 : Below w2.heap.size w2 w3 := by rw [hw3]; exact (Below.refl _ _).alloc (Nat.le_refl _) _
  have HX : Hid (SBox w3 g x) := Lib.hid (by rw [hw3, hg]; exact Bx.new _ _ _)
  have hpl6 : x.pl = [(1, 6)] := by obtain ⟨A, e⟩ := hxs; rw [e]; rfl
  have hsv : x.server < 4294967296 := by obtain ⟨A, e⟩ := hxs; rw [e]; show 9 < 4294967296; decide
  have HPL := Lib.hid hpl6
  have HSV := Lib.hid hsv
  have HXS := Lib.hid hxs
  have HRG := Lib.hid ((hrg.below h23).more h23.size)
  have HB3 := Lib.hid (HB1.out.trans ((hb2.trans (h23.mono hb2.size)).mono HB1.out.size))
  have HW3 := Lib.hid hw3
  have HG := Lib.hid hg
  clear hxs hrg hb2 h23 hg hw3 HSI hpl6 hsv HB1
  go_upto_region 3 with (first | (refine wp_storeL rowS rfl _ _ rfl _ _ _ rfl rfl rfl rfl rfl rfl ?_))
  go_simp
  rw [← HW3.out, ← HG.out]
  obtain ⟨x0, x1, x2, x3, x4, x5, x6, x7, x8, x9, x10, x11, x12⟩ := SBox.all HX.out
  obtain ⟨k0, k1, k2, k3, k4, k5, k6, k7, k8, k9, k10, k11, k12⟩ := CBox.all (HC.out.later HB3.out)
  have HLL := Lib.hid (HLO.out x w3 (HE.out.later HB3.out) (HPK.out.later HB3.out) (by rw [HPL.out]; decide))
  cases hlong : elongB x ls c
  rotate_left
  · rw [hlong] at HLL
    clear hlong
    go_wp2_with fail
    refine HLL.out.mono ?_
    rintro e w4 ⟨rfl, hb4⟩
    have HB4 := Lib.hid (HB.out.trans ((HB3.out.trans (hb4.mono HB3.out.size)).mono HB.out.size))
    clear hb4 x0 x1 x2 x3 x4 x5 x6 x7 x8 x9 x10 x11 x12 k0 k1 k2 k3 k4 k5 k6 k7 k8 k9 k10 k11 k12
    go_wp2
    go_ret
    exact ⟨rfl, HB4.out⟩
  rw [hlong] at HLL
  have HFW := Lib.hid (few_of hlong)
  clear hlong HLO
  go_wp2_with fail
  refine HLL.out.mono ?_
  rintro e w4 ⟨rfl, hb4⟩
  have HB4 := Lib.hid (HB3.out.trans (hb4.mono HB3.out.size))
  have HX4 := Lib.hid (HX.out.later hb4)
  have HRG4 := Lib.hid ((HRG.out.below hb4).more hb4.size)
  have HMA := Lib.hid (emade_any (c2 := c2) HK.out x A2 ls w4 HRG4.out (by have := HFW.out.hpl; omega) (HE.out.later HB4.out) HFW.out.hls HA.out)
  clear hb4 HLL HB3 HX HRG x0 x1 x2 x3 x4 x5 x6 x7 x8 x9 x10 x11 x12 k0 k1 k2 k3 k4 k5 k6 k7 k8 k9 k10 k11 k12
  obtain ⟨x0, x1, x2, x3, x4, x5, x6, x7, x8, x9, x10, x11, x12⟩ := SBox.all HX4.out
  go_wp2_with fail
  refine HMA.out.mono ?_
  rintro e w5 hmade
  obtain ⟨ol0, code0, tp, rp, Lo, hR, hv, htab, hb5⟩ : ∃ ol0 code0 tp rp Lo, RefRes x.pl ol0 code0 ∧ e = .returned (.tuple #[.pointer tp, .pointer rp]) ∧ TabA T w5 ol0 tp Lo ∧ Below w4.heap.size w4 w5 := by
    rcases hmade with ⟨ol, code, hc, hr, he, hb⟩ | ⟨ol, P, g, gr, v, L, hr, he, hL, h2⟩
    · exact ⟨ol, code, none, none, none, hr, he, .no, hb⟩
    · exact ⟨ol, 0, _, _, some L, hr, he, tabA_of hr hL.out h2.t, h2.low⟩
  subst hv
  have HB5 := Lib.hid (HB4.out.trans (hb5.mono HB4.out.size))
  have HX5 := Lib.hid (HX4.out.later hb5)
  have HPW := Lib.hid HFW.out.pk
  have HR5 := Lib.hid ((HRG4.out.below hb5).more hb5.size)
  have HP5 := Lib.hid (HPK.out.later HB5.out)
  have HAN := Lib.hid (answer_any HK.out x c.p w5 HR5.out (by have := HFW.out.hpl; omega) HP5.out (by have := HPW.out.1; omega) HPW.out.2.1 HPW.out.2.2 HSV.out hci hR htab c.s c.now c.entry)
  obtain ⟨X, hX⟩ : ∃ X, X = answerE x (siteB x code0) (NO.rightB c.p) Lo c.s c.now c.entry c.p.abs := ⟨_, rfl⟩
  rw [← hX] at HAN
  have HSM : Hid (Small X.reply) := Lib.hid (by rw [hX]; exact answer_small _ _ _ _ _ _ _ _)
  have hT : ∀ L, Lo = some L → TabL L := by
    intro L e
    subst e
    cases htab with
    | yes gt P L h hin hlen => exact HK.out.tab h
  have HOW : Hid (OwnE x c.s c.now c.entry (NO.clientA c.p.abs) Lo X) := Lib.hid (by rw [hX]; exact answer_own _ _ _ hT)
  have HTA := Lib.hid htab
  clear hmade htab hb5 hR hX hT
  clear x0 x1 x2 x3 x4 x5 x6 x7 x8 x9 x10 x11 x12 HMA HX4 HRG4 HB4 HE HA
  obtain ⟨x0, x1, x2, x3, x4, x5, x6, x7, x8, x9, x10, x11, x12⟩ := SBox.all HX5.out
  obtain ⟨k0, k1, k2, k3, k4, k5, k6, k7, k8, k9, k10, k11, k12⟩ := CBox.all (HC.out.later HB5.out)
  go_wp2_with fail
  refine HAN.out.mono ?_
  rintro e w6 ⟨a, rfl, HAB, hps, hb6⟩
  obtain ⟨b, hbb⟩ : ∃ b, b = w6.heap.size := ⟨_, rfl⟩
  obtain ⟨w7, hw7⟩ : ∃ w7, w7 = w6.alloc (.cells a.cells 44) := ⟨_, rfl⟩
  have h67 : Below w6.heap.size w6 w7 := by rw [hw7]; exact (Below.refl _ _).alloc (Nat.le_refl _) _
  have h57 := hb6.trans (h67.mono hb6.size)
  have HX7 : Hid (Bx w7 b 44 a.cells) := Lib.hid (by rw [hw7, hbb]; exact Bx.new _ _ _)
  have HB7 := Lib.hid (HB5.out.trans (h57.mono HB5.out.size))
  have HAP := Lib.hid (hps.pk.later h67)
  have HPK7 := Lib.hid (HP5.out.later h57)
  have HH57 := Lib.hid h57
  have HC7 := Lib.hid (HC.out.later HB7.out)
  have HW7 := Lib.hid hw7
  have HBB := Lib.hid hbb
  have HSMA := Lib.hid (small_mem HAB.out HSM.out)
  have HXB := HX5
  clear hps hb6 h67 h57 hw7 hbb HAN x0 x1 x2 x3 x4 x5 x6 x7 x8 x9 x10 x11 x12 k0 k1 k2 k3 k4 k5 k6 k7 k8 k9 k10 k11 k12 HC
  go_upto_region 8 with (first | (refine wp_storeL rowA rfl _ _ rfl _ _ _ rfl rfl rfl rfl rfl rfl ?_))
  go_simp
  rw [← HW7.out, ← HBB.out]
  have how := HOW.out
  rw [← HAB.out] at how
  have HB07 := Lib.hid (HB.out.trans (HB7.out.mono HB.out.size))
  clear HOW HSM
  cases how with
  | none h =>
    rcases h with h | ⟨h, hy⟩
    · have e0 : a.send = false := h
      have y0 : w7.cell? ⟨b, 0, none⟩ = some (.bool false) := by rw [← e0]; exact HX7.out.at_ 0
      clear h e0
      go_wp2
      go_ret
      exact ⟨rfl, HB07.out⟩
    · have e0 : a.send = true := h
      have ey : a.p.yi = 0 := hy
      have y0 : w7.cell? ⟨b, 0, none⟩ = some (.bool true) := by rw [← e0]; exact HX7.out.at_ 0
      have y6 : w7.cell? ⟨b, 6, none⟩ = some (.int .u32 0) := by have h := HX7.out.at_ 6; simp only [AnW.cells] at h; rw [ey] at h; exact h
      clear h hy e0 ey
      go_wp2
      go_ret
      exact ⟨rfl, HB07.out⟩
  | some L m hs hL hm h =>
    subst hL
    obtain ⟨gt, P, htp, ht⟩ : ∃ gt P, tp = some ⟨gt, 0, none⟩ ∧ T w5 P gt L := by
      cases HTA.out with
      | yes gt P L h _ _ => exact ⟨gt, P, rfl, h⟩
    subst htp
    have e0 : a.send = true := hs
    have HM : Hid (lookE L a.p.yi = some m) := Lib.hid hm
    have hyi : a.p.yi < 4294967296 := by
      obtain ⟨h1, h2⟩ := look_mem HM.out
      have := HK.out.w32 ht m h1
      omega
    have y0 : w7.cell? ⟨b, 0, none⟩ = some (.bool true) := by rw [← e0]; exact HX7.out.at_ 0
    have y6 := HX7.out.at_ 6
    have HG := Lib.hid (HK.out.get a.p.yi (HK.out.later ht HH57.out) hyi)
    rw [getL_look, HM.out] at HG
    have HOR := Lib.hid h
    clear hs hm h e0 ht hyi HTA HK
    cases t6 : ((a.p.yi : Int) == 0)
    rotate_left
    · have HT6 := Lib.hid t6
      go_wp2
      go_ret
      exact ⟨rfl, HB07.out⟩
    go_wp2_with fail
    refine HG.out.mono ?_
    rintro e w8 ⟨rfl, hb8⟩
    obtain ⟨w9, hw9⟩ : ∃ w9, w9 = w8.alloc (lbox m) := ⟨_, rfl⟩
    obtain ⟨gm, hgm⟩ : ∃ gm, gm = w8.heap.size := ⟨_, rfl⟩
    have h89 : Below w8.heap.size w8 w9 := by rw [hw9]; exact (Below.refl _ _).alloc (Nat.le_refl _) _
    have h79 := hb8.trans (h89.mono hb8.size)
    have HL9 : Hid (LBox w9 gm m) := Lib.hid (by rw [hw9, hgm]; exact LBox.new w8 m)
    have HC9 := Lib.hid (HC7.out.later h79)
    have HK9 := Lib.hid (HPK7.out.later h79)
    have HB09 := Lib.hid (HB07.out.trans (h79.mono HB07.out.size))
    have HSB9 := Lib.hid ((HXB.out.later HH57.out).later h79)
    have HW9 := Lib.hid hw9
    have HGM := Lib.hid hgm
    have HCL := Lib.hid (NO.client_any c.p w9 HK9.out (by have := HPW.out.1; omega) HPW.out.2.1)
    clear hb8 hw9 hgm h89 h79 y0 y6 t6 HG HX7 HC7 HPK7 HB7 HB5 HB
    go_upto_region 11 with fail
    rw [← HW9.out, ← HGM.out]
    obtain ⟨k0, k1, k2, k3, k4, k5, k6, k7, k8, k9, k10, k11, k12⟩ := CBox.all HC9.out
    go_wp2_with fail
    refine HCL.out.mono ?_
    rintro e w10 ⟨rfl, hb10⟩
    have HL10 := Lib.hid (HL9.out.later hb10)
    have HC10 := Lib.hid (HC9.out.later hb10)
    have HB10 := Lib.hid (HB09.out.trans (hb10.mono HB09.out.size))
    have HS10 := Lib.hid (HSB9.out.later hb10)
    clear hb10 k0 k1 k2 k3 k4 k5 k6 k7 k8 k9 k10 k11 k12 HCL HL9 HC9 HK9 HB09 HSB9
    obtain ⟨l0, l1, l2, l3, l4, l5, l6, l7⟩ := HL10.out.all
    go_upto_region 12 with fail
    go_cut [16] (fun s16 wx => s16 = .bool (theirsB m (NO.clientA c.p.abs)) ∧ wx = w10)
    case first =>
      have HTB : Hid (theirsB m (NO.clientA c.p.abs) = (m.bind == 2 && m.cb.toList == NO.clientA c.p.abs)) := Lib.hid (by unfold theirsB; rw [ByteArray.toList_eq, m.cb_data])
      cases h1 : (m.bind == 2)
      all_goals
        have HH1 := Lib.hid h1
        go_wp2
        go_meet
        refine ⟨?_, rfl⟩
        rw [HTB.out, HH1.out]
        first | rfl | simp
    case rest =>
      obtain ⟨rfl, hwc⟩ := hcut
      subst hwc
      have HT2 : Hid (theirsB m (NO.clientA c.p.abs) = true → m.bind = 2) := Lib.hid (fun e => by unfold theirsB at e; simp at e; exact e.1)
      generalize theirsB m (NO.clientA c.p.abs) = tb at *
      clear l0 l1 l2 l3 l4 l5 l6 l7
      obtain ⟨x0, x1, x2, -, -, -, -, -, -, -, -, -, -⟩ := SBox.all HS10.out
      obtain ⟨w11, hw11⟩ : ∃ w11, w11 = wc.alloc (NC.r3box 61 x.id x.lead x.guard) := ⟨_, rfl⟩
      obtain ⟨gr, hgr⟩ : ∃ gr, gr = wc.heap.size := ⟨_, rfl⟩
      have h11 : Below wc.heap.size wc w11 := by rw [hw11]; exact (Below.refl _ _).alloc (Nat.le_refl _) _
      have HR11 : Hid (NC.R3 61 w11 gr x.id x.lead x.guard) := Lib.hid (by rw [hw11, hgr]; exact NC.R3.new wc _ _ _ _)
      have HL11 := Lib.hid (HL10.out.later h11)
      have HC11 := Lib.hid (HC10.out.later h11)
      have HB11 := Lib.hid (HB10.out.trans (h11.mono HB10.out.size))
      have HW11 := Lib.hid hw11
      have HGR := Lib.hid hgr
      clear h11 hw11 hgr
      go_upto_region 14 with fail
      rw [← HW11.out, ← HGR.out]
      clear x0 x1 x2 HL10 HC10 HS10
      cases tb
      · have hmay : mayE x c.s c.now c.entry m = true := by rcases HOR.out with h | h <;> first | exact h | cases h
        have HMY := Lib.hid (NC.may_any x.id x.lead x.guard c.s c.now c.entry m w11)
        have hmay2 : NC.mayV x.id x.lead x.guard m c.s c.now c.entry = true := hmay
        rw [hmay2] at HMY
        have hmo := may_own hmay
        have HMO := Lib.hid hmo
        obtain ⟨q0, q1, q2⟩ := HR11.out.all
        obtain ⟨l0, l1, l2, l3, l4, l5, l6, l7⟩ := HL11.out.all
        have k0 := HC11.out.at_ 0
        have k1 := HC11.out.at_ 1
        have k2 := HC11.out.at_ 2
        clear hmay hmay2 hmo HOR HT2
        go_wp2_with fail
        refine HMY.out.mono ?_
        rintro e w12 ⟨rfl, hb12⟩
        have HB12 := Lib.hid (HB11.out.trans (hb12.mono HB11.out.size))
        have HL12 := Lib.hid (HL11.out.later hb12)
        have HC12 := Lib.hid (HC11.out.later hb12)
        clear hb12 q0 q1 q2 l0 l1 l2 l3 l4 l5 l6 l7 k0 k1 k2
        have l1 := HL12.out.c1
        have k0 := HC12.out.at_ 0
        cases t2 : (m.bind == 2)
        · have t3 : (m.bind != 2) = true := by unfold bne; rw [t2]; rfl
          clear t2
          go_wp2
          go_ret
          exact ⟨rfl, HB12.out⟩
        · have t3 : (m.bind != 2) = false := by unfold bne; rw [t2]; rfl
          have t4 : (c.s == 3) = true := by
            rcases HMO.out with h | h
            · rw [t2] at h
              cases h
            · exact h
          clear t2
          go_wp2
          go_ret
          exact ⟨rfl, HB12.out⟩
      · have l1 : w11.cell? ⟨gm, 1, none⟩ = some (.int .i64 2) := by rw [← HT2.out rfl]; exact HL11.out.c1
        go_wp2
        go_ret
        exact ⟨rfl, HB11.out⟩
end Go.Proofs.YtmaohnbddlccdaaGreat
