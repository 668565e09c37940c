/- The law EngineSilent. -/
import Derived.Test.YtmaohnbddlccdaaGreatMrgEngB
import Derived.Deep.DeepCutAuto
namespace Go.Proofs.YtmaohnbddlccdaaGreat
open Go.RowKit Go.Sort

set_option maxRecDepth 100000 in
set_option maxHeartbeats 8000000 in
theorem law_esil {T : World → (Nat → Prop) → Nat → List LV → Prop} (K : TabK T) (x : SiteV) (A2 : Option Addr) (c2 : Nat) (ls : List LV) (c : CaseV) (w : World) (hx : Rg w w.heap.size x.plA x.pl) (hE : El ElemL w w.heap.size A2 ls) (ha : ∀ y ∈ ls, y.addr < 4294967296) (hp : NO.Pk w w.heap.size c.p)
    (hlm : c.p.L.length ≤ 9223372036854775807) (hdm : ∀ y ∈ c.p.L, y.data.length ≤ 9223372036854775807) (hhm : c.p.hw.length ≤ 9223372036854775807) (hl : x.pl.length ≤ 9223372036854775807) (hls : ls.length ≤ 9223372036854775807) (hsv : x.server < 4294967296) (hci : c.p.ci < 4294967296) :
    Calls Tryz.prog 7 #[x.v, .slice A2 ls.length c2, c.v] w fun e w' => e = .returned (.bool true) ∧ Below w.heap.size w w' := by
  obtain ⟨w0, hw0⟩ : ∃ w0, w0 = (w.alloc (.cells x.cells 27)).alloc (.cells c.cells 34) := ⟨_, rfl⟩
  have hs : (w.alloc (.cells x.cells 27)).heap.size = w.heap.size + 1 := by simp
  have hB : Below w.heap.size w w0 := by rw [hw0]; exact ((Below.refl _ _).alloc (Nat.le_refl _) _).alloc (by simp) _
  have hX : SBox w0 w.heap.size x := by rw [hw0]; exact (Bx.new _ _ _).alloc _
  have hC : CBox w0 (w.heap.size + 1) c := by rw [hw0, ← hs]; exact Bx.new _ _ _
  have HX := Lib.hid hX
  have HC := Lib.hid hC
  have HB := Lib.hid hB
  have HRG := Lib.hid ((hx.below hB).more hB.size)
  have HE := Lib.hid (hE.later hB)
  have HPK := Lib.hid (hp.later hB)
  have HA := Lib.hid ha
  have HW0 := Lib.hid hw0
  have HK := Lib.hid K
  have HAW := Lib.hid (fun V => eawake_any K V)
  have HLO := Lib.hid (fun V (h1 : El ElemL V V.heap.size A2 ls) (h2 : NO.Pk V V.heap.size c.p) => elong_any x A2 c2 ls c V h1 h2 hlm hdm hhm hl hls)
  clear hw0 hs hB hX hC hx hE hp ha hdm K
  go_enter Tryz.func7, Tryz.ntmps7
  go_upto_region 1 with fail
  rw [← HW0.out]
  go_wp2_with fail
  refine (HAW.out w0).mono ?_
  rintro e w1 ⟨rfl, hb1⟩
  have HB1 := Lib.hid hb1
  clear hb1 HW0 HAW
  obtain ⟨x0, x1, x2, x3, x4, x5, x6, x7, x8, x9, x10, x11, x12⟩ := SBox.all (HX.out.later HB1.out)
  obtain ⟨k0, k1, k2, k3, k4, k5, k6, k7, k8, k9, k10, k11, k12⟩ := CBox.all (HC.out.later HB1.out)
  have HLL := Lib.hid (HLO.out w1 (HE.out.later HB1.out) (HPK.out.later HB1.out))
  cases hlong : elongB x ls c
  rotate_left
  · rw [hlong] at HLL
    clear hlong
    go_wp2_with fail
    refine HLL.out.mono ?_
    rintro e w2 ⟨rfl, hb2⟩
    have HB2 := Lib.hid (HB.out.trans ((HB1.out.trans (hb2.mono HB1.out.size)).mono HB.out.size))
    clear hb2 x0 x1 x2 x3 x4 x5 x6 x7 x8 x9 x10 x11 x12 k0 k1 k2 k3 k4 k5 k6 k7 k8 k9 k10 k11 k12
    go_wp2
    go_ret
    exact ⟨rfl, HB2.out⟩
  rw [hlong] at HLL
  have HFW := Lib.hid (few_of hlong)
  clear hlong HLO
  go_wp2_with fail
  refine HLL.out.mono ?_
  rintro e w2 ⟨rfl, hb2⟩
  have HB2 := Lib.hid (HB1.out.trans (hb2.mono HB1.out.size))
  have HMA := Lib.hid (emade_any (c2 := c2) HK.out x A2 ls w2 (by have h := HRG.out.below HB2.out; exact h.more HB2.out.size) (by have := HFW.out.hpl; omega) (HE.out.later HB2.out) HFW.out.hls HA.out)
  clear hb2 HLL x0 x1 x2 x3 x4 x5 x6 x7 x8 x9 x10 x11 x12 k0 k1 k2 k3 k4 k5 k6 k7 k8 k9 k10 k11 k12
  obtain ⟨x0, x1, x2, x3, x4, x5, x6, x7, x8, x9, x10, x11, x12⟩ := SBox.all (HX.out.later HB2.out)
  go_wp2_with fail
  refine HMA.out.mono ?_
  rintro e w3 hmade
  obtain ⟨ol0, code0, tp, rp, Lo, hR, hv, htab, hb3⟩ : ∃ ol0 code0 tp rp Lo, RefRes x.pl ol0 code0 ∧ e = .returned (.tuple #[.pointer tp, .pointer rp]) ∧ TabA T w3 ol0 tp Lo ∧ Below w2.heap.size w2 w3 := by
    rcases hmade with ⟨ol, code, hc, hr, he, hb⟩ | ⟨ol, P, g, gr, v, L, hr, he, hL, h2⟩
    · exact ⟨ol, code, none, none, none, hr, he, .no, hb⟩
    · exact ⟨ol, 0, _, _, some L, hr, he, tabA_of hr hL.out h2.t, h2.low⟩
  subst hv
  have HB3 := Lib.hid (HB2.out.trans (hb3.mono HB2.out.size))
  have HPW := Lib.hid HFW.out.pk
  have HR3 := Lib.hid ((HRG.out.below HB3.out).more HB3.out.size)
  have HP3 := Lib.hid (HPK.out.later HB3.out)
  have HAN := Lib.hid (answer_any HK.out x c.p w3 HR3.out (by have := HFW.out.hpl; omega) HP3.out (by have := HPW.out.1; omega) HPW.out.2.1 HPW.out.2.2 hsv hci hR htab c.s c.now c.entry)
  have HRI := Lib.hid (fun V (h : Rg V V.heap.size x.plA x.pl) => (show Calls Tryz.prog 14 #[x.v] V fun e w' => e = .returned (.bool (siteB x code0)) ∧ Below V.heap.size V w' from (sright_any x V h (by have := HFW.out.hpl; omega)).mono (by rintro e w' ⟨ol, code, h1, h2, h3⟩; rw [(res_agree h1 hR).2] at h2; exact ⟨h2, h3⟩)))
  have HPR := Lib.hid (fun V (h : NO.Pk V V.heap.size c.p) => NO.right_any c.p V h (by have := HPW.out.1; omega) (by have := HPW.out.2.2; omega))
  obtain ⟨X, hX⟩ : ∃ X, X = answerE x (siteB x code0) (NO.rightB c.p) Lo c.s c.now c.entry c.p.abs := ⟨_, rfl⟩
  rw [← hX] at HAN
  have HFIT : Hid (Fit c.p.abs X) := Lib.hid (by rw [hX]; exact answer_fit _ _ _ _ _ _ _ _)
  have HNON : Hid (¬ (NC.ServesI c.s ∧ siteB x code0 = true ∧ NO.rightB c.p = true ∧ c.p.op = 1 ∧ 0 ≤ c.now) → X = noA) := Lib.hid (fun h => by rw [hX]; exact answer_none x _ _ Lo c.s c.now c.entry c.p.abs h)
  clear hmade htab hb3 hR hX HMA x0 x1 x2 x3 x4 x5 x6 x7 x8 x9 x10 x11 x12 HRG HE HA HK
  generalize siteB x code0 = ok at *
  generalize NO.rightB c.p = fair at *
  obtain ⟨x0, x1, x2, x3, x4, x5, x6, x7, x8, x9, x10, x11, x12⟩ := SBox.all (HX.out.later HB3.out)
  obtain ⟨k0, k1, k2, k3, k4, k5, k6, k7, k8, k9, k10, k11, k12⟩ := CBox.all (HC.out.later HB3.out)
  go_wp2_with fail
  refine HAN.out.mono ?_
  rintro e w4 ⟨a, rfl, HAB, hps, hb4⟩
  obtain ⟨b, hbb⟩ : ∃ b, b = w4.heap.size := ⟨_, rfl⟩
  obtain ⟨w5, hw5⟩ : ∃ w5, w5 = w4.alloc (.cells a.cells 44) := ⟨_, rfl⟩
  have h45 : Below w4.heap.size w4 w5 := by rw [hw5]; exact (Below.refl _ _).alloc (Nat.le_refl _) _
  have HX5 : Hid (Bx w5 b 44 a.cells) := Lib.hid (by rw [hw5, hbb]; exact Bx.new _ _ _)
  have h05 := HB3.out.trans ((hb4.trans (h45.mono hb4.size)).mono HB3.out.size)
  have HB5 := Lib.hid h05
  have HAP := Lib.hid (hps.pk.later h45)
  have HRG5 := Lib.hid ((HR3.out.below (hb4.trans (h45.mono hb4.size))).more (hb4.trans (h45.mono hb4.size)).size)
  have HPK5 := Lib.hid (HP3.out.later (hb4.trans (h45.mono hb4.size)))
  have HW5 := Lib.hid hw5
  have HBB := Lib.hid hbb
  clear hps hb4 h45 h05 hw5 hbb HAN x0 x1 x2 x3 x4 x5 x6 x7 x8 x9 x10 x11 x12 k0 k1 k2 k3 k4 k5 k6 k7 k8 k9 k10 k11 k12
  go_upto_region 7 with (first | (refine wp_storeL rowA rfl _ _ rfl _ _ _ rfl rfl rfl rfl rfl rfl ?_))
  go_simp
  rw [← HW5.out, ← HBB.out]
  have k0 := (HC.out.later HB5.out).at_ 0
  go_cut [12] (fun s12 wx => s12 = .bool (decide (NC.ServesI c.s)) ∧ wx = w5)
  case first =>
    by_cases s1 : c.s = 1
    · have t1 : (c.s == 1) = true := by simp [s1]
      have HSV : Hid (decide (NC.ServesI c.s) = true) := Lib.hid (decide_eq_true (.inl s1))
      clear s1
      go_wp2
      go_meet
      exact ⟨by rw [HSV.out], rfl⟩
    · have t1 : (c.s == 1) = false := by simpa using s1
      by_cases s2 : c.s = 2
      · have t2 : (c.s == 2) = true := by simp [s2]
        have HSV : Hid (decide (NC.ServesI c.s) = true) := Lib.hid (decide_eq_true (.inr (.inl s2)))
        clear s1 s2
        go_wp2
        go_meet
        exact ⟨by rw [HSV.out], rfl⟩
      · have t2 : (c.s == 2) = false := by simpa using s2
        have HSV : Hid (decide (NC.ServesI c.s) = (c.s == 3)) := Lib.hid (by
          by_cases s3 : c.s = 3
          · rw [decide_eq_true (show NC.ServesI c.s from .inr (.inr s3))]; simp [s3]
          · rw [decide_eq_false (by rintro (h | h | h) <;> contradiction)]; simp [s3])
        clear s1 s2
        go_wp2
        go_meet
        exact ⟨by rw [HSV.out], rfl⟩
  case rest =>
    obtain ⟨rfl, hwc⟩ := hcut
    rw [hwc]
    clear hwc k0
    have HSD : Hid (NC.ServesI c.s ↔ decide (NC.ServesI c.s) = true) := Lib.hid decide_eq_true_iff.symm
    generalize decide (NC.ServesI c.s) = sb at *
    have HRW := Lib.hid (HRI.out w5 (by have h := HRG5.out; exact h))
    go_upto_region 8 with fail
    go_cut [74] (fun s74 wx => s74 = .bool (sb && ok && fair && (c.p.op == 1) && decide (0 ≤ c.now)) ∧ Below w5.heap.size w5 wx)
    case first =>
      cases sb
      · go_wp2
        go_meet
        exact ⟨rfl, Below.refl _ _⟩
      obtain ⟨x0, x1, x2, x3, x4, x5, x6, x7, x8, x9, x10, x11, x12⟩ := SBox.all (HX.out.later HB5.out)
      go_wp2_with fail
      refine HRW.out.mono ?_
      rintro e w6 ⟨rfl, hb6⟩
      have HB6 := Lib.hid hb6
      clear hb6 x0 x1 x2 x3 x4 x5 x6 x7 x8 x9 x10 x11 x12
      cases ok
      · go_wp2
        go_meet
        exact ⟨rfl, HB6.out⟩
      obtain ⟨k0, k1, k2, k3, k4, k5, k6, k7, k8, k9, k10, k11, k12⟩ := CBox.all (HC.out.later (HB5.out.trans (HB6.out.mono HB5.out.size)))
      go_wp2_with fail
      refine (HPR.out w6 (HPK5.out.later HB6.out)).mono ?_
      rintro e w7 ⟨rfl, hb7⟩
      have HB7 := Lib.hid (HB6.out.trans (hb7.mono HB6.out.size))
      clear hb7 k0 k1 k2 k3 k4 k5 k6 k7 k8 k9 k10 k11 k12
      cases fair
      · go_wp2
        go_meet
        exact ⟨rfl, HB7.out⟩
      obtain ⟨k0, k1, k2, k3, k4, k5, k6, k7, k8, k9, k10, k11, k12⟩ := CBox.all (HC.out.later (HB5.out.trans (HB7.out.mono HB5.out.size)))
      cases ho : (c.p.op == 1)
      · have HH := Lib.hid ho
        go_wp2
        go_meet
        exact ⟨by rw [HH.out]; rfl, HB7.out⟩
      · have HH := Lib.hid ho
        go_wp2
        go_meet
        exact ⟨by rw [HH.out]; simp, HB7.out⟩
    case rest =>
      obtain ⟨rfl, hb6⟩ := hcut
      have HX6 := Lib.hid (HX5.out.later hb6)
      have HC6 := Lib.hid (HC.out.later (HB5.out.trans (hb6.mono HB5.out.size)))
      have HP6 := Lib.hid (HAP.out.later hb6)
      have HB6 := Lib.hid (HB.out.trans ((HB5.out.trans (hb6.mono HB5.out.size)).mono HB.out.size))
      clear hb6 HX HC HB HB5 HX5 HAP HRI HPR HRW
      cases hG : (sb && ok && fair && (c.p.op == 1) && decide (0 ≤ c.now))
      · have hno : a.abs = noA := by
          rw [HAB.out]
          refine HNON.out ?_
          rintro ⟨h1, h2, h3, h4, h5⟩
          rw [HSD.out.1 h1, h2, h3] at hG
          simp [h4, h5] at hG
        have e0 : a.send = false := congrArg AnsV.send hno
        have e1 : a.change = false := congrArg AnsV.change hno
        have e2 : a.pot = 0 := congrArg AnsV.pot hno
        have e3 : a.p.abs = zeroPA := congrArg AnsV.reply hno
        have e4 : (NO.absL a.p.L).length = 0 := congrArg (fun r : AnsV => r.reply.opts.length) hno
        have e5 : a.p.L.length ≤ 100000 := by simp [NO.absL] at e4; simp [e4]
        have y0 : wc.cell? ⟨b, 0, none⟩ = some (.bool false) := by rw [← e0]; exact HX6.out.at_ 0
        have y11 : wc.cell? ⟨b, 11, none⟩ = some (.bool false) := by rw [← e1]; exact HX6.out.at_ 11
        have y20 : wc.cell? ⟨b, 20, none⟩ = some (.int .i64 0) := by rw [← e2]; exact HX6.out.at_ 20
        have HSM := Lib.hid (NO.psame_true a.p zeroP e3 wc HP6.out (zeroP_pk wc _) e5)
        have y1 := HX6.out.at_ 1
        have y2 := HX6.out.at_ 2
        have y3 := HX6.out.at_ 3
        have y4 := HX6.out.at_ 4
        have y5 := HX6.out.at_ 5
        have y6 := HX6.out.at_ 6
        have y7 := HX6.out.at_ 7
        have y8 := HX6.out.at_ 8
        have y9 := HX6.out.at_ 9
        have y10 := HX6.out.at_ 10
        clear hG hno HNON HFIT e0 e1 e2 e3 e4 e5
        go_wp2_with fail
        refine HSM.out.mono ?_
        rintro e w8 ⟨rfl, hb8⟩
        have HB8 := Lib.hid (HB6.out.trans (hb8.mono HB6.out.size))
        clear hb8 y0 y1 y2 y3 y4 y5 y6 y7 y8 y9 y10 y11 y20
        go_wp2
        go_ret
        exact ⟨rfl, HB8.out⟩
      · have hfit := HFIT.out
        rw [← HAB.out] at hfit
        clear hG HNON HFIT
        have y1 := HX6.out.at_ 1
        have y2 := HX6.out.at_ 2
        have k4 := HC6.out.at_ 4
        cases hsd : a.send
        · have y0 : wc.cell? ⟨b, 0, none⟩ = some (.bool false) := by rw [← hsd]; exact HX6.out.at_ 0
          clear hfit hsd
          go_wp2
          go_ret
          exact ⟨rfl, HB6.out⟩
        · have y0 : wc.cell? ⟨b, 0, none⟩ = some (.bool true) := by rw [← hsd]; exact HX6.out.at_ 0
          obtain ⟨h1, h2⟩ := hfit hsd
          have e1 : a.p.op = 2 := h1
          have e2 : a.p.xid = c.p.xid := h2
          have z1 : wc.cell? ⟨b, 1, none⟩ = some (.int .i64 2) := by rw [← e1]; exact HX6.out.at_ 1
          have z2 : wc.cell? ⟨b, 2, none⟩ = some (.int .u32 (c.p.xid : Int)) := by rw [← e2]; exact HX6.out.at_ 2
          clear hfit hsd h1 h2 e1 e2 y1 y2
          go_wp2
          go_ret
          exact ⟨by simp, HB6.out⟩
end Go.Proofs.YtmaohnbddlccdaaGreat
