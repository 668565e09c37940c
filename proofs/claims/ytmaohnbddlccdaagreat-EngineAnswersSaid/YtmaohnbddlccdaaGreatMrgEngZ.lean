/- engine: Answer. (Written by wip/tools/genengz.py.) -/
import Derived.Test.YtmaohnbddlccdaaGreatMrgEngX
import Derived.Test.YtmaohnbddlccdaaGreatMrgRefR
namespace Go.Proofs.YtmaohnbddlccdaaGreat
open Go.RowKit Go.Sort

/-- The table that Answer is called with: none, or one of these leases, all of this pool. -/
inductive TabA (T : World → (Nat → Prop) → Nat → List LV → Prop) (w : World) (ol : List (Nat × Nat)) : Option Addr → Option (List LV) → Prop
  | no : TabA T w ol none none
  | yes (gt : Nat) (P : Nat → Prop) (L : List LV) (h : T w P gt L) (hin : ∀ y ∈ L, y.addr ∈ (addrsOf ol).take 257) (hlen : ol.length ≤ 1000) : TabA T w ol (some ⟨gt, 0, none⟩) (some L)

theorem ask_set {w3 : World} {g : Nat} {q : QV} (h : Bx w3 g 77 q.cells) (tp : Option Addr) (s now entry : Int) :
    (((w3.setCell ⟨g, 30, none⟩ (.pointer tp)).setCell ⟨g, 31, none⟩ (.int .i64 s)).setCell ⟨g, 32, none⟩ (.int .i64 now)).setCell ⟨g, 33, none⟩ (.int .i64 entry) = w3.setRow g (QV.cells { q with tp := tp, s := s, now := now, entry := entry }) := by
  rw [cell_row h, row_cell h, row_cell h, row_cell h]
  simp only [List.setIfInBounds_toArray, List.set_cons_zero, List.set_cons_succ]

set_option maxRecDepth 100000 in
set_option maxHeartbeats 4000000 in
theorem answer_any {T : World → (Nat → Prop) → Nat → List LV → Prop} (K : TabK T) (x : SiteV) (p : NO.PktV) (w : World) (hx : Rg w w.heap.size x.plA x.pl) (hl : x.pl.length ≤ 1000) (hp : NO.Pk w w.heap.size p) (hL : p.L.length ≤ 1000) (hd : ∀ y ∈ p.L, y.data.length ≤ 1000) (hhw : p.hw.length ≤ 1000) (hsv : x.server < 4294967296) (hci : p.ci < 4294967296)
    {ol0 : List (Nat × Nat)} {code0 : Int} (hR : RefRes x.pl ol0 code0) {tp : Option Addr} {Lo : Option (List LV)} (ht : TabA T w ol0 tp Lo) (s now entry : Int) :
    Calls Tryz.prog 11 #[x.v, .pointer tp, .int .i64 s, .int .i64 now, .int .i64 entry, p.v] w (GivesA w (answerE x (siteB x code0) (NO.rightB p) Lo s now entry p.abs)) := by
  obtain ⟨w0, hw0⟩ : ∃ w0, w0 = ((w.alloc (.cells x.cells 27)).alloc (NO.pbox p)).alloc (.cells zeroA.cells 44) := ⟨_, rfl⟩
  have hs : (w.alloc (.cells x.cells 27)).heap.size = w.heap.size + 1 := by simp
  have hs2 : ((w.alloc (.cells x.cells 27)).alloc (NO.pbox p)).heap.size = w.heap.size + 1 + 1 := by simp
  have hB : Below w.heap.size w w0 := by rw [hw0]; exact (((Below.refl _ _).alloc (Nat.le_refl _) _).alloc (by simp) _).alloc (by simp; omega) _
  have hX : SBox w0 w.heap.size x := by rw [hw0]; exact ((Bx.new _ _ _).alloc _).alloc _
  have hP : Bx w0 (w.heap.size + 1) 32 p.cells := by rw [hw0, ← hs]; exact (Bx.new _ _ _).alloc _
  have hZ : Bx w0 (w.heap.size + 1 + 1) 44 zeroA.cells := by rw [hw0, ← hs2]; exact Bx.new _ _ _
  have HX := Lib.hid hX
  have HP := Lib.hid hP
  have HZ := Lib.hid hZ
  have HB := Lib.hid hB
  have HW0 : Hid (w0 = ((w.alloc (.cells x.cells 27)).alloc (NO.pbox p)).alloc (.cells #[.bool false, .int .i64 0, .int .u32 0, .int .i64 0, .int .i64 0, .int .u32 0, .int .u32 0, .int .u32 0, .int .u32 0, .slice none 0 0, .slice none 0 0, .bool false, .int .u32 0, .int .i64 0, .string ⟨#[]⟩, .int .i64 0, .int .i64 0, .int .i64 0, .int .i64 0, .int .i64 0, .int .i64 0] 44)) := Lib.hid hw0
  have HRG := Lib.hid ((hx.below hB).more hB.size)
  have HPK := Lib.hid (hp.later hB)
  have HRI := Lib.hid (fun V (h : Rg V V.heap.size x.plA x.pl) => (show Calls Tryz.prog 14 #[x.v] V fun e w' => e = .returned (.bool (siteB x code0)) ∧ Below V.heap.size V w' from (sright_any x V h hl).mono (by rintro e w' ⟨ol, code, h1, h2, h3⟩; rw [(res_agree h1 hR).2] at h2; exact ⟨h2, h3⟩)))
  have HSE := Lib.hid (fun V => NC.serves_any s V)
  have HWI := Lib.hid (fun V => within_any now 0 1099511627776 V)
  have HPR := Lib.hid (fun V (h : NO.Pk V V.heap.size p) => NO.right_any p V h (by omega) (by omega))
  have HKD := Lib.hid (fun V (h : NO.Pk V V.heap.size p) => NO.kind_any p V h hL hd)
  have HAK := Lib.hid (fun V (h1 : Rg V V.heap.size x.plA x.pl) (h2 : NO.Pk V V.heap.size p) => ask_any x p V h1 hl h2 hL hd)
  have HRR := Lib.hid hR
  have HK := Lib.hid K
  have HTA := Lib.hid ht
  have HPW := Lib.hid (⟨hx, hp⟩ : Rg w w.heap.size x.plA x.pl ∧ NO.Pk w w.heap.size p)
  have HQO := Lib.hid (⟨hL, hd, hhw, hsv, hci⟩ : p.L.length ≤ 1000 ∧ (∀ y ∈ p.L, y.data.length ≤ 1000) ∧ p.hw.length ≤ 1000 ∧ x.server < 4294967296 ∧ p.ci < 4294967296)
  obtain ⟨X, hX0⟩ : ∃ X, X = answerE x (siteB x code0) (NO.rightB p) Lo s now entry p.abs := ⟨_, rfl⟩
  rw [← hX0]
  unfold answerE at hX0
  have HXX := Lib.hid hX0
  generalize siteB x code0 = ok at *
  generalize NO.rightB p = fair at *
  generalize hsb : decide (NC.ServesI s) = sb at HSE
  have HSB := Lib.hid hsb
  generalize witB now 0 1099511627776 = wb at *
  clear hw0 hs hs2 hx hp hB hX hP hZ hX0 hsb hd hhw hsv hci hR ht K hL hl
  obtain ⟨x0, x1, x2, x3, x4, x5, x6, x7, x8, x9, x10, x11, x12⟩ := SBox.all HX.out
  obtain ⟨p0, p1, p2, p3, p4, p5, p6, p7, p8, p9⟩ := NO.PBox.all (show NO.PBox w0 (w.heap.size + 1) p from HP.out)
  go_enter Tryz.func11, Tryz.ntmps11
  go_upto_region 1 with fail
  rw [← HW0.out]
  go_cut [40] (fun s40 wx => s40 = .bool (!(ok && tp.isSome && sb && wb && fair && (p.op == 1))) ∧ Below w0.heap.size w0 wx)
  case first =>
    go_wp2_with fail
    refine (HRI.out w0 HRG.out).mono ?_
    rintro e w1 ⟨rfl, hb1⟩
    have HB1 := Lib.hid hb1
    clear hb1 x0 x1 x2 x3 x4 x5 x6 x7 x8 x9 x10 x11 x12 p0 p1 p2 p3 p4 p5 p6 p7 p8 p9
    obtain ⟨p0, p1, p2, p3, p4, p5, p6, p7, p8, p9⟩ := NO.PBox.all (show NO.PBox w1 (w.heap.size + 1) p from HP.out.later HB1.out)
    cases ok
    · go_wp2
      go_meet
      exact ⟨rfl, HB1.out⟩
    cases tp with
    | none =>
      go_wp2
      go_meet
      exact ⟨rfl, HB1.out⟩
    | some ta =>
      go_wp2_with fail
      refine (HSE.out w1).mono ?_
      rintro e w' ⟨rfl, rfl⟩
      cases sb
      · go_wp2
        go_meet
        exact ⟨rfl, HB1.out⟩
      go_wp2_with fail
      refine (HWI.out w1).mono ?_
      rintro e w' ⟨rfl, rfl⟩
      cases wb
      · go_wp2
        go_meet
        exact ⟨rfl, HB1.out⟩
      go_wp2_with fail
      refine (HPR.out w1 (HPK.out.later HB1.out)).mono ?_
      rintro e w2 ⟨rfl, hb2⟩
      have HB2 := Lib.hid (HB1.out.trans (hb2.mono HB1.out.size))
      clear hb2 p0 p1 p2 p3 p4 p5 p6 p7 p8 p9
      cases fair
      · go_wp2
        go_meet
        exact ⟨rfl, HB2.out⟩
      have p0 := NO.PBox.c0 (show NO.PBox w2 (w.heap.size + 1) p from HP.out.later HB2.out)
      cases ho : p.op == 1
      all_goals
        go_wp2
        go_meet
        refine ⟨?_, HB2.out⟩
        show Value.bool (!(p.op == 1)) = _
        rw [ho]
        rfl
  case rest =>
    obtain ⟨rfl, hb1⟩ := hcut
    have HB1 := Lib.hid (HB.out.trans (hb1.mono HB.out.size))
    have HX1 := Lib.hid (HX.out.later hb1)
    have HP1 := Lib.hid (HP.out.later hb1)
    have HZ1 := Lib.hid (HZ.out.later hb1)
    have HRG1 := Lib.hid ((HRG.out.below hb1).more hb1.size)
    have HPK1 := Lib.hid (HPK.out.later hb1)
    clear hb1 x0 x1 x2 x3 x4 x5 x6 x7 x8 x9 x10 x11 x12 p0 p1 p2 p3 p4 p5 p6 p7 p8 p9 HX HP HZ HRG HPK HW0 HRI HSE HWI HPR
    cases hgood : (ok && tp.isSome && sb && wb && fair && (p.op == 1))
    · have HXN : Hid (X = noA) := Lib.hid (by
        rw [HXX.out]
        cases hLo : Lo with
        | none => rfl
        | some L =>
          refine if_neg ?_
          rintro ⟨h1, h2, h3, h4, h5⟩
          have ht := HTA.out
          rw [hLo] at ht
          cases ht with
          | yes gt P L h hin hlen =>
            have h2' : sb = true := by rw [← HSB.out]; exact decide_eq_true h2
            rw [h1, h2', h3, h4] at hgood
            have h5' : p.op = 1 := h5
            simp [h5'] at hgood)
      clear hgood
      go_wp2_with (first | (refine wp_storeR rowA rfl _ _ rfl (w.heap.size + 1 + 1) _ rfl rfl HZ1.out rfl rfl rfl ?_))
      exact ans_end (a := zeroA) rfl rfl (HZ1.out.set zeroA.cells) (by rw [HXN.out]; rfl) (zeroP_pks _ _) (HB1.out.trans (below_setRow _ (w.heap.size + 1 + 1) zeroA.cells (by omega)))
    · simp only [Bool.and_eq_true] at hgood
      obtain ⟨⟨⟨⟨⟨g1, g2⟩, g3⟩, g4⟩, g5⟩, g6⟩ := hgood
      have ht := HTA.out
      clear HTA
      cases ht with
      | no => exact absurd g2 (by decide)
      | yes gt P L hT hin hlen =>
        have h6 : p.abs.op = 1 := (show p.op = 1 by simpa using g6)
        have HXK : Hid (X = kindE x L s now entry p.abs) := Lib.hid (by
          rw [HXX.out]
          refine if_pos ⟨g1, ?_, g4, g5, h6⟩
          have e := HSB.out
          rw [g3] at e
          exact of_decide_eq_true e)
        have HT := Lib.hid hT
        have HIN := Lib.hid hin
        clear g1 g2 g3 g4 g5 g6 h6 HXX HSB hT hin
        obtain ⟨x0, x1, x2, x3, x4, x5, x6, x7, x8, x9, x10, x11, x12⟩ := SBox.all HX1.out
        obtain ⟨p0, p1, p2, p3, p4, p5, p6, p7, p8, p9⟩ := NO.PBox.all (show NO.PBox wc (w.heap.size + 1) p from HP1.out)
        go_wp2_with fail
        refine (HAK.out wc HRG1.out HPK1.out).mono ?_
        rintro e w3 ⟨g, ol, code, A, c, hres, rfl, hq3, hrg3, hge3, hb3⟩
        obtain ⟨rfl, rfl⟩ := res_agree hres HRR.out
        have HQ3 := Lib.hid hq3
        have HG3 := Lib.hid hrg3
        have HGE := Lib.hid hge3
        have HB3 := Lib.hid hb3
        have q30 := hq3.at_ 30
        have q31 := hq3.at_ 31
        have q32 := hq3.at_ 32
        have q33 := hq3.at_ 33
        have f30 := hq3.free 30
        have f31 := hq3.free 31
        have f32 := hq3.free 32
        have f33 := hq3.free 33
        clear hres hq3 hrg3 hge3 hb3 x0 x1 x2 x3 x4 x5 x6 x7 x8 x9 x10 x11 x12 p0 p1 p2 p3 p4 p5 p6 p7 p8 p9 HAK
        go_upto_region 5 with fail
        rw [ask_set HQ3.out]
        obtain ⟨q, hq⟩ : ∃ q : QV, q = ⟨x, A, c, ol, p, NO.clientA p.abs, NO.askA p.abs, wantE x p.abs, some ⟨gt, 0, none⟩, s, now, entry⟩ := ⟨_, rfl⟩
        obtain ⟨w4, hw4⟩ : ∃ w4, w4 = w3.setRow g (QV.cells ⟨x, A, c, ol, p, NO.clientA p.abs, NO.askA p.abs, wantE x p.abs, some ⟨gt, 0, none⟩, s, now, entry⟩) := ⟨_, rfl⟩
        rw [← hw4]
        have h34 : Below g w3 w4 := by rw [hw4]; exact below_setRow _ _ _ (Nat.le_refl _)
        have hlo : Below wc.heap.size w3 w4 := h34.mono HGE.out
        have hB4 : Below wc.heap.size wc w4 := HB3.out.trans hlo
        have hb4 : Below w.heap.size w w4 := HB1.out.trans (hB4.mono HB1.out.size)
        have hqt : QT T w4 P g gt q L := by
          have hbx : Bx w4 g 77 q.cells := by rw [hw4, hq]; exact HQ3.out.set _
          have hqx : q = ⟨x, A, c, ol, p, NO.clientA p.abs, NO.askA p.abs, wantE x p.abs, some ⟨gt, 0, none⟩, s, now, entry⟩ := hq
          refine ⟨⟨hbx, ?_⟩, HK.out.later HT.out hb4, ?_, ?_, ?_, ?_, HK.out.w32 HT.out⟩
          · rw [hqx]; exact HPW.out.2.later hb4
          · rw [hqx]; exact (HG3.out.below h34).more (Nat.le_trans (Nat.le_of_lt HQ3.out.lt) h34.size)
          · rw [hqx]
          · rw [hqx]; exact hlen
          · rw [hqx]; exact HIN.out
        have hAS : AskS q x p s now entry := by rw [hq]; exact ⟨rfl, rfl, rfl, rfl, rfl, rfl, rfl, rfl⟩
        have hTab := HK.out.tab HT.out
        have hok : QOk q := by
          obtain ⟨h1, h2, h3, h4, h5⟩ := HQO.out
          rw [hq]
          refine ⟨h3, h4, ?_, ?_, h5, h1, h2⟩
          · show (NO.clientA p.abs).length ≤ 1000
            unfold NO.clientA
            split
            · exact h3
            · exact NO.fd_len p h2 61
          · show NO.askA p.abs < 4294967296
            unfold NO.askA
            split
            · rename_i h; exact NO.num4_lt _ h
            · exact h5
        have HREP := Lib.hid (fun V (h : QM V g q) => (show Calls Tryz.prog 38 #[ptE g, .int .i64 5, .slice none 0 0] V (GivesP V (replyE x p.abs 5 [])) from by have e := reply_any (M := []) (A := none) (c := 0) h 5 NO.Op.nil (by simp) hok.hw hok.sv; rw [hAS.hx, hAS.hp] at e; exact e))
        have HF1 := Lib.hid (fun V (h : QT T V P g gt q L) => (show Calls Tryz.prog 33 #[ptE g] V (GivesA V (offerE x L s now entry p.abs)) from by have e := discover_any HK.out h hok; rw [disc_q hAS hTab] at e; exact e))
        have HF3 := Lib.hid (fun V (h : QT T V P g gt q L) => (show Calls Tryz.prog 34 #[ptE g] V (GivesA V (requestE x L s now entry p.abs)) from by have e := request_any HK.out h hok; rw [request_q hAS] at e; exact e))
        have HF4 := Lib.hid (fun V (h : QT T V P g gt q L) => (show Calls Tryz.prog 35 #[ptE g] V (GivesA V (declineE L p.abs)) from by have e := decline_any HK.out h hok; rw [decline_q hAS] at e; exact e))
        have HF7 := Lib.hid (fun V (h : QT T V P g gt q L) => (show Calls Tryz.prog 36 #[ptE g] V (GivesA V (releaseE L now p.abs)) from by have e := release_any HK.out h hok; rw [release_q hAS] at e; exact e))
        have HQT := Lib.hid hqt
        have HP4 := Lib.hid (HP1.out.below hB4 HP1.out.lt)
        have HZ4 := Lib.hid (HZ1.out.below hB4 HZ1.out.lt)
        have HB4 := Lib.hid hb4
        have HPK4 := Lib.hid (HPW.out.2.later hb4)
        have HLT : Hid (w.heap.size + 1 + 1 < w4.heap.size) := Lib.hid HZ4.out.lt
        clear q30 q31 q32 q33 f30 f31 f32 f33 hq hw4 h34 hlo hB4 hb4 hqt hAS hTab hok hlen HT HIN HRR HPW HQO HQ3 HG3 HGE HB3 HX1 HP1 HZ1 HRG1 HPK1 HB1
        obtain ⟨p0, p1, p2, p3, p4, p5, p6, p7, p8, p9⟩ := NO.PBox.all (show NO.PBox w4 (w.heap.size + 1) p from HP4.out)
        go_wp2_with fail
        refine (HKD.out w4 HPK4.out).mono ?_
        rintro e w5 ⟨rfl, hb5⟩
        have HQ5 := Lib.hid (HQT.out.later HK.out hb5)
        have HZ5 := Lib.hid (HZ4.out.later hb5)
        have HB5 := Lib.hid (HB4.out.trans (hb5.mono HB4.out.size))
        have HL5 : Hid (w.heap.size + 1 + 1 < w5.heap.size) := Lib.hid HZ5.out.lt
        clear hb5 p0 p1 p2 p3 p4 p5 p6 p7 p8 p9 HKD
        obtain ⟨kd, hkd⟩ : ∃ kd, kd = NO.kindA p.abs := ⟨_, rfl⟩
        rw [← hkd]
        have HXD := HXK.out
        unfold kindE at HXD
        rw [← hkd] at HXD
        have HXQ := Lib.hid HXD
        clear HXD hkd HXK
        by_cases k1 : kd = 1
        · rw [if_pos k1] at HXQ
          have t1 : ((kd : Int) == 1) = true := by simp [k1]
          clear k1
          go_wp2_with fail
          refine (HF1.out w5 HQ5.out).mono ?_
          rintro e w6 ⟨a, rfl, HAB, hps, hb6⟩
          have HZ6 := Lib.hid (HZ5.out.later hb6)
          have HB6 := Lib.hid (HB5.out.trans (hb6.mono HB5.out.size))
          have HP6 := Lib.hid hps
          clear hps hb6
          go_wp2_with (first | (refine wp_storeR rowA rfl _ _ rfl (w.heap.size + 1 + 1) _ rfl rfl HZ6.out rfl rfl rfl ?_))
          exact ans_end (a := a) rfl rfl (HZ6.out.set _) (by rw [HXQ.out]; exact HAB.out) ((HP6.out.set HZ6.out HL5.out (ansW_no8 zeroA) _).more (by have := HL5.out; omega)) (HB6.out.trans (below_setRow _ (w.heap.size + 1 + 1) _ (by omega)))
        rw [if_neg k1] at HXQ
        have t1 : ((kd : Int) == 1) = false := by simp; omega
        clear k1
        by_cases k3 : kd = 3
        · rw [if_pos k3] at HXQ
          have t3 : ((kd : Int) == 3) = true := by simp [k3]
          clear k3
          go_wp2_with fail
          refine (HF3.out w5 HQ5.out).mono ?_
          rintro e w6 ⟨a, rfl, HAB, hps, hb6⟩
          have HZ6 := Lib.hid (HZ5.out.later hb6)
          have HB6 := Lib.hid (HB5.out.trans (hb6.mono HB5.out.size))
          have HP6 := Lib.hid hps
          clear hps hb6
          go_wp2_with (first | (refine wp_storeR rowA rfl _ _ rfl (w.heap.size + 1 + 1) _ rfl rfl HZ6.out rfl rfl rfl ?_))
          exact ans_end (a := a) rfl rfl (HZ6.out.set _) (by rw [HXQ.out]; exact HAB.out) ((HP6.out.set HZ6.out HL5.out (ansW_no8 zeroA) _).more (by have := HL5.out; omega)) (HB6.out.trans (below_setRow _ (w.heap.size + 1 + 1) _ (by omega)))
        rw [if_neg k3] at HXQ
        have t3 : ((kd : Int) == 3) = false := by simp; omega
        clear k3
        by_cases k4 : kd = 4
        · rw [if_pos k4] at HXQ
          have t4 : ((kd : Int) == 4) = true := by simp [k4]
          clear k4
          go_wp2_with fail
          refine (HF4.out w5 HQ5.out).mono ?_
          rintro e w6 ⟨a, rfl, HAB, hps, hb6⟩
          have HZ6 := Lib.hid (HZ5.out.later hb6)
          have HB6 := Lib.hid (HB5.out.trans (hb6.mono HB5.out.size))
          have HP6 := Lib.hid hps
          clear hps hb6
          go_wp2_with (first | (refine wp_storeR rowA rfl _ _ rfl (w.heap.size + 1 + 1) _ rfl rfl HZ6.out rfl rfl rfl ?_))
          exact ans_end (a := a) rfl rfl (HZ6.out.set _) (by rw [HXQ.out]; exact HAB.out) ((HP6.out.set HZ6.out HL5.out (ansW_no8 zeroA) _).more (by have := HL5.out; omega)) (HB6.out.trans (below_setRow _ (w.heap.size + 1 + 1) _ (by omega)))
        rw [if_neg k4] at HXQ
        have t4 : ((kd : Int) == 4) = false := by simp; omega
        clear k4
        by_cases k7 : kd = 7
        · rw [if_pos k7] at HXQ
          have t7 : ((kd : Int) == 7) = true := by simp [k7]
          clear k7
          go_wp2_with fail
          refine (HF7.out w5 HQ5.out).mono ?_
          rintro e w6 ⟨a, rfl, HAB, hps, hb6⟩
          have HZ6 := Lib.hid (HZ5.out.later hb6)
          have HB6 := Lib.hid (HB5.out.trans (hb6.mono HB5.out.size))
          have HP6 := Lib.hid hps
          clear hps hb6
          go_wp2_with (first | (refine wp_storeR rowA rfl _ _ rfl (w.heap.size + 1 + 1) _ rfl rfl HZ6.out rfl rfl rfl ?_))
          exact ans_end (a := a) rfl rfl (HZ6.out.set _) (by rw [HXQ.out]; exact HAB.out) ((HP6.out.set HZ6.out HL5.out (ansW_no8 zeroA) _).more (by have := HL5.out; omega)) (HB6.out.trans (below_setRow _ (w.heap.size + 1 + 1) _ (by omega)))
        rw [if_neg k7] at HXQ
        have t7 : ((kd : Int) == 7) = false := by simp; omega
        clear k7
        by_cases k8 : kd = 8
        · rw [if_pos k8] at HXQ
          have t8 : ((kd : Int) == 8) = true := by simp [k8]
          clear k8
          go_wp2_with fail
          refine (HREP.out w5 HQ5.out.m).mono ?_
          rintro e w6 ⟨pr, rfl, HPP, hps, hb6⟩
          have HS := Lib.hid (sent_any pr w6)
          have HPS := Lib.hid hps
          have HB6 := Lib.hid hb6
          clear hps hb6
          go_wp2_with fail
          refine HS.out.mono ?_
          rintro e w7 ⟨rfl, hb7⟩
          have HZ7 := Lib.hid ((HZ5.out.later HB6.out).later hb7)
          have HB7 := Lib.hid (HB5.out.trans ((HB6.out.trans (hb7.mono HB6.out.size)).mono HB5.out.size))
          have HP7 := Lib.hid (HPS.out.later hb7)
          clear hb7
          go_wp2_with (first | (refine wp_storeR rowA rfl _ _ rfl (w.heap.size + 1 + 1) _ rfl rfl HZ7.out rfl rfl rfl ?_))
          exact ans_end (a := ⟨true, pr, false, zeroL, 0⟩) rfl rfl (HZ7.out.set _) (by rw [HXQ.out]; show AnsV.mk _ pr.abs _ _ _ = _; rw [HPP.out]; rfl) ((HP7.out.set HZ7.out HL5.out (ansW_no8 zeroA) _).more (by have := HL5.out; omega)) (HB7.out.trans (below_setRow _ (w.heap.size + 1 + 1) _ (by omega)))
        rw [if_neg k8] at HXQ
        have t8 : ((kd : Int) == 8) = false := by simp; omega
        clear k8
        go_wp2_with (first | (refine wp_storeR rowA rfl _ _ rfl (w.heap.size + 1 + 1) _ rfl rfl HZ5.out rfl rfl rfl ?_))
        exact ans_end (a := zeroA) rfl rfl (HZ5.out.set zeroA.cells) (by rw [HXQ.out]; rfl) (zeroP_pks _ _) (HB5.out.trans (below_setRow _ (w.heap.size + 1 + 1) zeroA.cells (by omega)))
end Go.Proofs.YtmaohnbddlccdaaGreat
