/- The law EngineNotes. -/
import Derived.Test.YtmaohnbddlccdaaGreatMrgEngN
import Derived.Test.YtmaohnbddlccdaaGreatMrgRefM
import Derived.Lib.QuietBelow
import Derived.Deep.DeepCutAuto
namespace Go.Proofs.YtmaohnbddlccdaaGreat
open Go.RowKit Go.Sort

/-- The addresses of the law's own table. -/
theorem six_mem {ol : List (Nat × Nat)} {code : Int} (h : RefRes [(1, 6)] ol code) {a : Nat} (ha : a ∈ (addrsOf ol).take 257) : a ≠ 0 := by
  have h1 := List.mem_of_mem_take ha
  rcases h with ⟨_, rfl, _⟩ | ⟨_, ⟨_, rfl, _⟩ | ⟨_, hi, _⟩⟩
  · simp [addrsOf] at h1
  · simp [addrsOf] at h1
  · have h2 := (hi a).1 h1
    rw [six_addrs] at h2
    rintro rfl
    simp at h2

set_option maxRecDepth 100000 in
set_option maxHeartbeats 8000000 in
theorem law_enot {T : World → (Nat → Prop) → Nat → List LV → Prop} (K : TabK T) (id : Int) (A2 : Option Addr) (c2 : Nat) (ls : List LV) (c : CaseV) (w : World) (hE : El ElemL w w.heap.size A2 ls) (ha : ∀ y ∈ ls, y.addr < 4294967296) (hp : NO.Pk w w.heap.size c.p)
    (hlm : c.p.L.length ≤ 9223372036854775807) (hdm : ∀ y ∈ c.p.L, y.data.length ≤ 9223372036854775807) (hhm : c.p.hw.length ≤ 9223372036854775807) (hls : ls.length ≤ 9223372036854775807) (hci : c.p.ci < 4294967296) :
    Calls Tryz.prog 4 #[.int .i64 id, .slice A2 ls.length c2, c.v] w fun e w' => e = .returned (.bool true) ∧ Below w.heap.size w w' := by
  obtain ⟨w0, hw0⟩ : ∃ w0, w0 = w.alloc (.cells c.cells 34) := ⟨_, rfl⟩
  have hB : Below w.heap.size w w0 := by rw [hw0]; exact (Below.refl _ _).alloc (Nat.le_refl _) _
  have hC : CBox w0 w.heap.size c := by rw [hw0]; exact Bx.new _ _ _
  have HC := Lib.hid hC
  have HB := Lib.hid hB
  have HE := Lib.hid (hE.later hB)
  have HPK := Lib.hid (hp.later hB)
  have HA := Lib.hid ha
  have HW0 := Lib.hid hw0
  have HK := Lib.hid K
  have HAW := Lib.hid (fun V => eawake_any K V)
  have HSI := Lib.hid (fun (i : Int) V => (show Calls Tryz.prog 16 #[.int .i64 i] V fun e w' => ∃ x : SiteV, e = .returned x.v ∧ (∃ A, x = lawS i A) ∧ Rg w' w'.heap.size x.plA x.pl ∧ Below V.heap.size V w' from (site_any i V).mono (by rintro e w' ⟨A, h1, h2, h3⟩; exact ⟨lawS i A, h1, ⟨A, rfl⟩, h2, h3⟩)))
  have HLO := Lib.hid (fun x V (h1 : El ElemL V V.heap.size A2 ls) (h2 : NO.Pk V V.heap.size c.p) (hl : x.pl.length ≤ 9223372036854775807) => elong_any x A2 c2 ls c V h1 h2 hlm hdm hhm hl hls)
  clear hw0 hB hC hE hp ha hdm K
  go_enter Tryz.func4, Tryz.ntmps4
  go_upto_region 1 with fail
  rw [← HW0.out]
  go_wp2_with fail
  refine (HAW.out w0).mono ?_
  rintro e w1 ⟨rfl, hb1⟩
  have HB1 := Lib.hid hb1
  clear hb1 HW0 HAW
  go_wp2_with fail
  refine (HSI.out _ w1).mono ?_
  rintro e w2 ⟨x, rfl, hxs, hrg, hb2⟩
  obtain ⟨g, hg⟩ : ∃ g, g = w2.heap.size := ⟨_, rfl⟩
  obtain ⟨w3, hw3⟩ : ∃ w3, w3 = w2.alloc (.cells x.cells 27) := ⟨_, rfl⟩
  have h23 : Below w2.heap.size w2 w3 := by rw [hw3]; exact (Below.refl _ _).alloc (Nat.le_refl _) _
  have HX : Hid (SBox w3 g x) := Lib.hid (by rw [hw3, hg]; exact Bx.new _ _ _)
  have hpl6 : x.pl = [(1, 6)] := by obtain ⟨A, e⟩ := hxs; rw [e]; rfl
  have hsv : x.server < 4294967296 := by obtain ⟨A, e⟩ := hxs; rw [e]; show 9 < 4294967296; decide
  have HPL := Lib.hid hpl6
  have HSV := Lib.hid hsv
  have HXS := Lib.hid hxs
  have HRG := Lib.hid ((hrg.below h23).more h23.size)
  have HB3 := Lib.hid (HB1.out.trans ((hb2.trans (h23.mono hb2.size)).mono HB1.out.size))
  have HW3 := Lib.hid hw3
  have HG := Lib.hid hg
  clear hxs hrg hb2 h23 hg hw3 HSI hpl6 hsv HB1
  go_upto_region 3 with (first | (refine wp_storeL rowS rfl _ _ rfl _ _ _ rfl rfl rfl rfl rfl rfl ?_))
  go_simp
  rw [← HW3.out, ← HG.out]
  obtain ⟨x0, x1, x2, x3, x4, x5, x6, x7, x8, x9, x10, x11, x12⟩ := SBox.all HX.out
  obtain ⟨k0, k1, k2, k3, k4, k5, k6, k7, k8, k9, k10, k11, k12⟩ := CBox.all (HC.out.later HB3.out)
  have HLL := Lib.hid (HLO.out x w3 (HE.out.later HB3.out) (HPK.out.later HB3.out) (by rw [HPL.out]; decide))
  cases hlong : elongB x ls c
  rotate_left
  · rw [hlong] at HLL
    clear hlong
    go_wp2_with fail
    refine HLL.out.mono ?_
    rintro e w4 ⟨rfl, hb4⟩
    have HB4 := Lib.hid (HB.out.trans ((HB3.out.trans (hb4.mono HB3.out.size)).mono HB.out.size))
    clear hb4 x0 x1 x2 x3 x4 x5 x6 x7 x8 x9 x10 x11 x12 k0 k1 k2 k3 k4 k5 k6 k7 k8 k9 k10 k11 k12
    go_wp2
    go_ret
    exact ⟨rfl, HB4.out⟩
  rw [hlong] at HLL
  have HFW := Lib.hid (few_of hlong)
  clear hlong HLO
  go_wp2_with fail
  refine HLL.out.mono ?_
  rintro e w4 ⟨rfl, hb4⟩
  have HB4 := Lib.hid (HB3.out.trans (hb4.mono HB3.out.size))
  have HX4 := Lib.hid (HX.out.later hb4)
  have HRG4 := Lib.hid ((HRG.out.below hb4).more hb4.size)
  have HMA := Lib.hid (emade_any (c2 := c2) HK.out x A2 ls w4 HRG4.out (by have := HFW.out.hpl; omega) (HE.out.later HB4.out) HFW.out.hls HA.out)
  clear hb4 HLL HB3 HX HRG x0 x1 x2 x3 x4 x5 x6 x7 x8 x9 x10 x11 x12 k0 k1 k2 k3 k4 k5 k6 k7 k8 k9 k10 k11 k12
  obtain ⟨x0, x1, x2, x3, x4, x5, x6, x7, x8, x9, x10, x11, x12⟩ := SBox.all HX4.out
  go_wp2_with fail
  refine HMA.out.mono ?_
  rintro e w5 hmade
  obtain ⟨ol0, code0, tp, rp, Lo, hR, hv, htab, hb5⟩ : ∃ ol0 code0 tp rp Lo, RefRes x.pl ol0 code0 ∧ e = .returned (.tuple #[.pointer tp, .pointer rp]) ∧ TabA T w5 ol0 tp Lo ∧ Below w4.heap.size w4 w5 := by
    rcases hmade with ⟨ol, code, hc, hr, he, hb⟩ | ⟨ol, P, g, gr, v, L, hr, he, hL, h2⟩
    · exact ⟨ol, code, none, none, none, hr, he, .no, hb⟩
    · exact ⟨ol, 0, _, _, some L, hr, he, tabA_of hr hL.out h2.t, h2.low⟩
  subst hv
  have HB5 := Lib.hid (HB4.out.trans (hb5.mono HB4.out.size))
  have HX5 := Lib.hid (HX4.out.later hb5)
  have HPW := Lib.hid HFW.out.pk
  have HR5 := Lib.hid ((HRG4.out.below hb5).more hb5.size)
  have HP5 := Lib.hid (HPK.out.later HB5.out)
  have HAN := Lib.hid (answer_any HK.out x c.p w5 HR5.out (by have := HFW.out.hpl; omega) HP5.out (by have := HPW.out.1; omega) HPW.out.2.1 HPW.out.2.2 HSV.out hci hR htab c.s c.now c.entry)
  have hLo : ∀ L, Lo = some L → ∀ y ∈ L, y.addr ≠ 0 := by
    intro L e y hy
    subst e
    rw [HPL.out] at hR
    cases htab with
    | yes gt P L h hin hlen => exact six_mem hR (hin y hy)
  obtain ⟨X, hX⟩ : ∃ X, X = answerE x (siteB x code0) (NO.rightB c.p) Lo c.s c.now c.entry c.p.abs := ⟨_, rfl⟩
  rw [← hX] at HAN
  have HSM : Hid (Small X.reply) := Lib.hid (by rw [hX]; exact answer_small _ _ _ _ _ _ _ _)
  have HNO : Hid (NoteE (NO.clientA c.p.abs) c.now X) := Lib.hid (by rw [hX]; exact answer_note _ _ _ _ _ _ _ _ hLo)
  clear hmade htab hb5 hR hX hLo HK
  clear x0 x1 x2 x3 x4 x5 x6 x7 x8 x9 x10 x11 x12 HMA HX4 HRG4 HB4 HE HA
  obtain ⟨x0, x1, x2, x3, x4, x5, x6, x7, x8, x9, x10, x11, x12⟩ := SBox.all HX5.out
  obtain ⟨k0, k1, k2, k3, k4, k5, k6, k7, k8, k9, k10, k11, k12⟩ := CBox.all (HC.out.later HB5.out)
  go_wp2_with fail
  refine HAN.out.mono ?_
  rintro e w6 ⟨a, rfl, HAB, hps, hb6⟩
  obtain ⟨b, hbb⟩ : ∃ b, b = w6.heap.size := ⟨_, rfl⟩
  obtain ⟨w7, hw7⟩ : ∃ w7, w7 = w6.alloc (.cells a.cells 44) := ⟨_, rfl⟩
  have h67 : Below w6.heap.size w6 w7 := by rw [hw7]; exact (Below.refl _ _).alloc (Nat.le_refl _) _
  have h57 := hb6.trans (h67.mono hb6.size)
  have HX7 : Hid (Bx w7 b 44 a.cells) := Lib.hid (by rw [hw7, hbb]; exact Bx.new _ _ _)
  have HB7 := Lib.hid (HB5.out.trans (h57.mono HB5.out.size))
  have HAP := Lib.hid (hps.pk.later h67)
  have HPK7 := Lib.hid (HP5.out.later h57)
  have HH57 := Lib.hid h57
  have HC7 := Lib.hid (HC.out.later HB7.out)
  have HW7 := Lib.hid hw7
  have HBB := Lib.hid hbb
  have HSMA := Lib.hid (small_mem HAB.out HSM.out)
  clear hps hb6 h67 h57 hw7 hbb HAN x0 x1 x2 x3 x4 x5 x6 x7 x8 x9 x10 x11 x12 k0 k1 k2 k3 k4 k5 k6 k7 k8 k9 k10 k11 k12 HX5 HC
  go_upto_region 8 with (first | (refine wp_storeL rowA rfl _ _ rfl _ _ _ rfl rfl rfl rfl rfl rfl ?_))
  go_simp
  rw [← HW7.out, ← HBB.out]
  have HKI := Lib.hid (NO.kind_any a.p w7 HAP.out HSMA.out.1 HSMA.out.2)
  have HNA : Hid (NoteE (NO.clientA c.p.abs) c.now a.abs) := Lib.hid (by rw [HAB.out]; exact HNO.out)
  have y1 := HX7.out.at_ 1
  have y2 := HX7.out.at_ 2
  have y3 := HX7.out.at_ 3
  have y4 := HX7.out.at_ 4
  have y5 := HX7.out.at_ 5
  have y6 := HX7.out.at_ 6
  have y7 := HX7.out.at_ 7
  have y8 := HX7.out.at_ 8
  have y9 := HX7.out.at_ 9
  have y10 := HX7.out.at_ 10
  go_wp2_with fail
  refine HKI.out.mono ?_
  rintro e w8 ⟨rfl, hb8⟩
  have HX8 := Lib.hid (HX7.out.later hb8)
  have HB8 := Lib.hid (HB7.out.trans (hb8.mono HB7.out.size))
  have HB08 := Lib.hid (HB.out.trans (HB8.out.mono HB.out.size))
  have HC8 := Lib.hid (HC7.out.later hb8)
  have HP8 := Lib.hid (HAP.out.later hb8)
  have HPK8 := Lib.hid (HPK7.out.later hb8)
  obtain ⟨kk, hkk⟩ : ∃ kk : Int, kk = ((NO.kindA a.p.abs : Nat) : Int) := ⟨_, rfl⟩
  rw [← hkk]
  have hnote := HNA.out
  clear hb8 y1 y2 y3 y4 y5 y6 y7 y8 y9 y10 HKI HNO HNA HX7 HC7 HAP HPK7 HB7 HB5 HB HSM HH57
  cases hnote with
  | still hs hp hc =>
    have e0 : a.send = false := hs
    have e2 : a.pot = 0 := hp
    have y0 : w8.cell? ⟨b, 0, none⟩ = some (.bool false) := by rw [← e0]; exact HX8.out.at_ 0
    have y20 : w8.cell? ⟨b, 20, none⟩ = some (.int .i64 0) := by rw [← e2]; exact HX8.out.at_ 20
    clear hs hp e0 e2 hkk
    cases hch : a.change
    · have y11 : w8.cell? ⟨b, 11, none⟩ = some (.bool false) := by rw [← hch]; exact HX8.out.at_ 11
      clear hch hc
      go_wp2
      go_ret
      exact ⟨rfl, HB08.out⟩
    · have y11 : w8.cell? ⟨b, 11, none⟩ = some (.bool true) := by rw [← hch]; exact HX8.out.at_ 11
      rcases hc with hc | hc | hc
      · have e : a.change = false := hc
        rw [e] at hch
        cases hch
      · have e : a.l.bind = 4 := hc
        have y13 : w8.cell? ⟨b, 13, none⟩ = some (.int .i64 4) := by rw [← e]; exact HX8.out.at_ 13
        clear hch hc e
        go_wp2
        go_ret
        exact ⟨rfl, HB08.out⟩
      · have e : a.l.bind = 5 := hc
        have y13 : w8.cell? ⟨b, 13, none⟩ = some (.int .i64 5) := by rw [← e]; exact HX8.out.at_ 13
        clear hch hc e
        go_wp2
        go_ret
        exact ⟨rfl, HB08.out⟩
  | says k hs hc hk h =>
    have e0 : a.send = true := hs
    have e1 : a.change = false := hc
    have ek : kk = k := hkk.trans hk
    have y0 : w8.cell? ⟨b, 0, none⟩ = some (.bool true) := by rw [← e0]; exact HX8.out.at_ 0
    have y11 : w8.cell? ⟨b, 11, none⟩ = some (.bool false) := by rw [← e1]; exact HX8.out.at_ 11
    clear hs hc hk e0 e1 hkk
    subst ek
    rcases h with rfl | rfl | ⟨rfl, hy⟩
    · go_wp2
      go_ret
      exact ⟨rfl, HB08.out⟩
    · go_wp2
      go_ret
      exact ⟨rfl, HB08.out⟩
    · have ey : a.p.yi = 0 := hy
      have y6 : w8.cell? ⟨b, 6, none⟩ = some (.int .u32 0) := by have h := HX8.out.at_ 6; simp only [AnW.cells] at h; rw [ey] at h; exact h
      clear hy ey
      go_wp2
      go_ret
      exact ⟨rfl, HB08.out⟩
  | gives n hs hc hk hy hf h0 h1 ha hb hcl hu hu2 hp hat hn =>
    have e0 : a.send = true := hs
    have e1 : a.change = true := hc
    have ek : kk = 5 := hkk.trans hk
    have e6 : a.p.yi ≠ 0 := hy
    have e12 : a.l.addr = a.p.yi := ha
    have e13 : a.l.bind = 2 := hb
    have e14 : a.l.client = NO.clientA c.p.abs := hcl
    have e18 : a.l.at_ = c.now := hat
    have u1 : c.now + n ≤ a.l.unt := hu
    have u2 : a.l.unt ≤ 1099511627776 := hu2
    have u3 : a.l.unt ≤ a.pot := hp
    have y0 : w8.cell? ⟨b, 0, none⟩ = some (.bool true) := by rw [← e0]; exact HX8.out.at_ 0
    have y6 := HX8.out.at_ 6
    have y10 := HX8.out.at_ 10
    have t6 : ((a.p.yi : Int) == 0) = false := by simp; omega
    have HF : Hid (NO.findL (NO.absL a.p.L) 51 = ((NO.bytR n 4).1, true)) := Lib.hid hf
    have HFI := Lib.hid (NO.rfind_any a.p.opA a.p.opC a.p.L 51 w8 HP8.out.opt (by have := HSMA.out.1; omega))
    rw [HF.out] at HFI
    have HNU := Lib.hid (byt_numR (n := n) (by omega) h1)
    have HL4 := Lib.hid (byt_four (n := n) (by omega) h1).1
    have HU := Lib.hid (And.intro u1 (And.intro u2 (And.intro u3 (And.intro h0 (And.intro h1 hn)))))
    have HE1 := Lib.hid e1
    have HE2 := Lib.hid (And.intro e12 (And.intro e13 (And.intro e14 e18)))
    clear hs hc hk hy hf ha hb hcl hu hu2 hp hat hn u1 u2 u3 h0 h1 e0 e1 e6 e12 e13 e14 e18 hkk
    subst ek
    go_wp2_with fail
    refine HFI.out.mono ?_
    rintro e w9 ⟨A9, c9, rfl, hby, hb9⟩
    have HB9 := Lib.hid hb9
    have HRN := Lib.hid (NO.rnumber_any A9 c9 (NO.bytR n 4).1 w9 hby (by rw [HL4.out]; decide))
    clear hb9 hby
    go_wp2_with fail
    refine HRN.out.mono ?_
    rintro e w10 ⟨rfl, rfl⟩
    rw [HNU.out]
    go_upto_region 15 with fail
    have HX9 := Lib.hid (HX8.out.later HB9.out)
    have HC9 := Lib.hid (HC8.out.later HB9.out)
    have HK9 := Lib.hid (HPK8.out.later HB9.out)
    have HB10 := Lib.hid (HB08.out.trans (HB9.out.mono HB08.out.size))
    clear y0 y6 y10
    obtain ⟨u1, u2, u3, u4, u5, u6⟩ := HU.out
    obtain ⟨e12, e13, e14, e18⟩ := HE2.out
    have z6 := cell_regrown (HX9.out.at_ 6)
    have z11 : w9.cell? ⟨b, 11, none⟩ = some (.bool true) := by rw [← HE1.out]; exact HX9.out.at_ 11
    have z12 : w9.cell? ⟨b, 12, none⟩ = some (.int .u32 (a.p.yi : Int)) := by rw [← e12]; exact HX9.out.at_ 12
    have z13 : w9.cell? ⟨b, 13, none⟩ = some (.int .i64 2) := by rw [← e13]; exact HX9.out.at_ 13
    have z14 : w9.cell? ⟨b, 14, none⟩ = some (.string ⟨(NO.clientA c.p.abs).toArray⟩) := by rw [← e14]; exact HX9.out.at_ 14
    have z18 : w9.cell? ⟨b, 18, none⟩ = some (.int .i64 c.now) := by rw [← e18]; exact HX9.out.at_ 18
    have z11 := cell_regrown z11
    have z12 := cell_regrown z12
    have z13 := cell_regrown z13
    have z14 := cell_regrown z14
    have z15 := cell_regrown (HX9.out.at_ 15)
    have z18 := cell_regrown z18
    have z20 := cell_regrown (HX9.out.at_ 20)
    obtain ⟨-, k1, -, k3, k4, k5, k6, k7, k8, k9, k10, k11, k12⟩ := CBox.all HC9.out
    have k1 := cell_regrown k1
    have k3 := cell_regrown k3
    have k4 := cell_regrown k4
    have k5 := cell_regrown k5
    have k6 := cell_regrown k6
    have k7 := cell_regrown k7
    have k8 := cell_regrown k8
    have k9 := cell_regrown k9
    have k10 := cell_regrown k10
    have k11 := cell_regrown k11
    have k12 := cell_regrown k12
    have CX := Lib.hid (fun d os => Calls.regrown_of (NO.client_any c.p _ (HK9.out.later (below_regrown _ d os)) (by have := HPW.out.1; omega) HPW.out.2.1))
    have hwr : IntKind.i64.wrap (c.now + n) = c.now + n := by simp [IntKind.wrap, IntKind.bits, IntKind.signed]; omega
    have d1 : decide (c.now + n ≤ a.l.unt) = true := by simp; omega
    have d2 : decide (1 ≤ n) = true := by simp; omega
    have d3 : decide (a.l.unt ≤ a.pot) = true := by simp; omega
    clear u1 u2 u3 u4 u5 u6 e12 e13 e14 e18
    refine wp_region_quiet_below (by kernel_rfl) (by kernel_rfl) ?_
    repeat (first | go_big_quiet_step (first | (go_at_call 20; exact CX.out _ _)) | quiet_step (first | (go_at_call 20; exact CX.out _ _)))
    refine wpQuiet_nil ?_
    intro _ hw'
    obtain ⟨⟨dq, osq⟩, hw''⟩ := hw'
    subst hw''
    go_wp2_with fail
    go_ret
    exact ⟨rfl, HB10.out.trans ((below_regrown _ dq osq).mono HB10.out.size)⟩
end Go.Proofs.YtmaohnbddlccdaaGreat
