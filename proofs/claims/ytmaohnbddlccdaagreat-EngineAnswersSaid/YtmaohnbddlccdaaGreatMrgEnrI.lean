/- Joined texts: EnrI, EnrS. -/
import Derived.Test.YtmaohnbddlccdaaGreatMrgEnrG
import Derived.Test.YtmaohnbddlccdaaGreatMrgEnrE
import Derived.Test.YtmaohnbddlccdaaGreatMrgPktE
import Derived.Test.YtmaohnbddlccdaaGreatMrgEngO
import Derived.Lib.QuietBelow

/- engine, the document's: Answer. (Written by wip/tools/genenri.py.) -/
section
namespace Go.Proofs.YtmaohnbddlccdaaGreat
open Go.RowKit Go.Sort

theorem ref_agree {l ol om : List (Nat × Nat)} {c d : Int} (h : RefRes l ol c) (k : RefRes l om d) : ol = om ∧ c = d := by
  rcases h with ⟨⟨x, hx, hb⟩, rfl, rfl⟩ | ⟨hv, h⟩
  · rcases k with ⟨_, rfl, rfl⟩ | ⟨hv, _⟩
    · exact ⟨rfl, rfl⟩
    · exact absurd (hv x hx) (by omega)
  · rcases k with ⟨⟨x, hx, hb⟩, _⟩ | ⟨_, k⟩
    · exact absurd (hv x hx) (by omega)
    · rcases h with ⟨⟨L, L1, L2, L3⟩, rfl, rfl⟩ | ⟨h1, h2, h3, rfl⟩
      · rcases k with ⟨_, rfl, rfl⟩ | ⟨k1, k2, k3, rfl⟩
        · exact ⟨rfl, rfl⟩
        · have := sorted_sub L _ L1 k1.sorted (fun a ha => (k2 a).2 (L3 a ha))
          omega
      · rcases k with ⟨⟨L, L1, L2, L3⟩, _, _⟩ | ⟨k1, k2, k3, rfl⟩
        · have := sorted_sub L _ L1 h1.sorted (fun a ha => (h2 a).2 (L3 a ha))
          omega
        · exact ⟨canon_unique _ _ h1 k1 fun a => (h2 a).trans (k2 a).symm, rfl⟩

/-- The document's table: none, or one of these leases. -/
inductive RTabA (w : World) : Option Addr → Option (List LV) → Prop
  | no : RTabA w none none
  | yes (wb : World) (g : Nat) (v : Value) (L : List LV) (h : RTb wb w g v L) (hL : L.length ≤ 1000) (hU : ∀ y ∈ L, NC.moV y.unt = y.unt) : RTabA w (some ⟨g, 0, none⟩) (some L)

set_option maxRecDepth 100000 in
set_option maxHeartbeats 8000000 in
theorem ranswer_any (x : SiteV) (p : NO.PktV) (w : World) (hx : Rg w w.heap.size x.plA x.pl) (hl : x.pl.length ≤ 1000) (hi : RIn w x p) (hL1 : p.L.length ≤ 100) {ol0 : List (Nat × Nat)} {code0 : Int} (hR : RefRes x.pl ol0 code0) {rp : Option Addr} {Lo : Option (List LV)} (ht : RTabA w rp Lo) (s now entry : Int) :
    Calls Tryz.prog 12 #[x.v, .pointer rp, .int .i64 s, .int .i64 now, .int .i64 entry, p.v] w (GivesA w (answerE x (siteB x code0) (NO.rightB p) Lo s now entry p.abs)) := by
  obtain ⟨w0, hw0⟩ : ∃ w0, w0 = (((w.alloc (.cells x.cells 27)).alloc (NO.pbox p)).alloc (.cells #[.bool false, .int .i64 0, .int .u32 0, .int .i64 0, .int .i64 0, .int .u32 0, .int .u32 0, .int .u32 0, .int .u32 0, .slice none 0 0, .slice none 0 0, .bool false, .int .u32 0, .int .i64 0, .string ⟨#[]⟩, .int .i64 0, .int .i64 0, .int .i64 0, .int .i64 0, .int .i64 0, .int .i64 0] 44)) := ⟨_, rfl⟩
  have HX0 : Hid (RBx w w0 x p) := Lib.hid (by rw [hw0]; exact RBx.start w x p)
  have HI0 := Lib.hid (hi.later HX0.out.low)
  have HRG0 := Lib.hid ((hx.below HX0.out.low).more HX0.out.low.size)
  have HW0 := Lib.hid hw0
  have HTA := Lib.hid ht
  have HRI := Lib.hid (fun V (h : Rg V V.heap.size x.plA x.pl) => (show Calls Tryz.prog 15 #[x.v] V fun e w' => e = .returned (.bool (siteB x code0)) ∧ Below V.heap.size V w' from (rsright_any x V h hl).mono (by rintro e w' ⟨ol, code, h1, h2, h3⟩; rw [(ref_agree h1 hR).2] at h2; exact ⟨h2, h3⟩)))
  have HPR := Lib.hid (fun V (h : RIn V x p) => NO.rright_any p V h.pk hL1 h.dat)
  have HSE := Lib.hid (fun V => NC.rserves_any s V)
  have HWI := Lib.hid (fun V => rwithin_any now 0 1099511627776 V)
  have HCL := Lib.hid (fun V (h : RIn V x p) => NO.rclient_any p V h.pk h.len h.dat)
  have HAS := Lib.hid (fun V (h : RIn V x p) => rask_any x p V h.pk h.len h.dat)
  have HKD := Lib.hid (fun V (h : RIn V x p) => NO.rkind_any p V h.pk h.len h.dat)
  have HRE := Lib.hid (fun V (h : RIn V x p) => rreply_any x p 5 V h.pk h.hw h.sv (by decide))
  have HTH := Lib.hid (fun m V => rtheirs_any m (NO.clientA p.abs) V)
  obtain ⟨X, hX⟩ : ∃ X, X = answerE x (siteB x code0) (NO.rightB p) Lo s now entry p.abs := ⟨_, rfl⟩
  rw [← hX]
  unfold answerE at hX
  have HXX := Lib.hid hX
  generalize siteB x code0 = ok at *
  generalize NO.rightB p = fair at *
  generalize hsb : decide (NC.ServesI s) = sb at HSE
  have HSB := Lib.hid hsb
  generalize witB now 0 1099511627776 = wb at *
  clear hw0 hx hi hL1 hR ht hX hsb hl
  obtain ⟨x0, x1, x2, x3, x4, x5, x6, x7, x8, x9, x10, x11, x12⟩ := SBox.all HX0.out.hx
  go_enter Tryz.func12, Tryz.ntmps12
  go_upto_region 1 with fail
  rw [← HW0.out]
  go_wp2_with fail
  refine (HRI.out w0 HRG0.out).mono ?_
  rintro e w1 ⟨rfl, hb1⟩
  have HX1 := Lib.hid (HX0.out.later hb1)
  have HI1 := Lib.hid (HI0.out.later hb1)
  clear hb1 HX0 HI0 HRG0 HRI HW0 x0 x1 x2 x3 x4 x5 x6 x7 x8 x9 x10 x11 x12
  obtain ⟨p0, p1, p2, p3, p4, p5, p6, p7, p8, p9⟩ := NO.PBox.all HX1.out.hp
  go_wp2_with fail
  refine (HPR.out w1 HI1.out).mono ?_
  rintro e w2 ⟨rfl, hb2⟩
  have HX2 := Lib.hid (HX1.out.later hb2)
  have HI2 := Lib.hid (HI1.out.later hb2)
  clear hb2 HX1 HI1 HPR p0 p1 p2 p3 p4 p5 p6 p7 p8 p9
  go_upto_region 3 with fail
  have p0 := NO.PBox.c0 HX2.out.hp
  go_cut [50] (fun s50 wx => s50 = .bool (!(ok && rp.isSome && sb && wb && fair && (p.op == 1))) ∧ wx = w2)
  case first =>
    cases ok
    · go_wp2
      go_meet
      exact ⟨rfl, rfl⟩
    cases rp with
    | none =>
      go_wp2
      go_meet
      exact ⟨rfl, rfl⟩
    | some ta =>
      go_wp2_with fail
      refine (HSE.out w2).mono ?_
      rintro e w' ⟨rfl, rfl⟩
      cases sb
      · go_wp2
        go_meet
        exact ⟨rfl, rfl⟩
      go_wp2_with fail
      refine (HWI.out w2).mono ?_
      rintro e w' ⟨rfl, rfl⟩
      cases wb
      · go_wp2
        go_meet
        exact ⟨rfl, rfl⟩
      cases fair
      · go_wp2
        go_meet
        exact ⟨rfl, rfl⟩
      cases ho : p.op == 1
      all_goals
        have HO := Lib.hid ho
        go_wp2
        go_meet
        refine ⟨?_, rfl⟩
        show Value.bool (!(p.op == 1)) = _
        rw [HO.out]
        rfl
  case rest =>
    obtain ⟨rfl, hwc⟩ := hcut
    rw [hwc]
    clear hwc p0 HSE HWI
    cases hgood : (ok && rp.isSome && sb && wb && fair && (p.op == 1))
    · have HXN : Hid (X = noA) := Lib.hid (by
        rw [HXX.out]
        cases hLo : Lo with
        | none => rfl
        | some L =>
          refine if_neg ?_
          rintro ⟨h1, h2, h3, h4, h5⟩
          have ht := HTA.out
          rw [hLo] at ht
          cases ht with
          | yes wb2 g v L h hL hU =>
            have h2' : sb = true := by rw [← HSB.out]; exact decide_eq_true h2
            rw [h1, h2', h3, h4] at hgood
            have h5' : p.op = 1 := h5
            simp [h5'] at hgood)
      clear hgood
      go_wp2_with (first | (refine wp_storeR rowA rfl _ _ rfl (w.heap.size + 1 + 1) _ rfl rfl HX2.out.hz rfl rfl rfl ?_))
      exact HX2.out.end_ zeroA rfl rfl (by rw [HXN.out]; rfl) (zeroP_pks _ _)
    · simp only [Bool.and_eq_true] at hgood
      obtain ⟨⟨⟨⟨⟨g1, g2⟩, g3⟩, g4⟩, g5⟩, g6⟩ := hgood
      have ht := HTA.out
      clear HTA
      cases ht with
      | no => exact absurd g2 (by decide)
      | yes wb2 g v L hT hLn hU =>
        have h6 : p.abs.op = 1 := (show p.op = 1 by simpa using g6)
        have HXK : Hid (X = kindE x L s now entry p.abs) := Lib.hid (by
          rw [HXX.out]
          refine if_pos ⟨g1, ?_, g4, g5, h6⟩
          have e := HSB.out
          rw [g3] at e
          exact of_decide_eq_true e)
        have HT2 := Lib.hid (hT.later HX2.out.low)
        have HLN := Lib.hid hLn
        have HU := Lib.hid hU
        clear g1 g2 g3 g4 g5 g6 h6 HXX HSB hT hLn hU
        obtain ⟨p0, p1, p2, p3, p4, p5, p6, p7, p8, p9⟩ := NO.PBox.all HX2.out.hp
        go_wp2_with fail
        refine (HCL.out w2 HI2.out).mono ?_
        rintro e w3 ⟨rfl, hb3⟩
        have HX3 := Lib.hid (HX2.out.later hb3)
        have HI3 := Lib.hid (HI2.out.later hb3)
        have HT3 := Lib.hid (HT2.out.later hb3)
        clear hb3 HX2 HI2 HT2 HCL p0 p1 p2 p3 p4 p5 p6 p7 p8 p9
        obtain ⟨x0, x1, x2, x3, x4, x5, x6, x7, x8, x9, x10, x11, x12⟩ := SBox.all HX3.out.hx
        obtain ⟨p0, p1, p2, p3, p4, p5, p6, p7, p8, p9⟩ := NO.PBox.all HX3.out.hp
        go_wp2_with fail
        refine (HAS.out w3 HI3.out).mono ?_
        rintro e w4 ⟨rfl, hb4⟩
        have HX4 := Lib.hid (HX3.out.later hb4)
        have HI4 := Lib.hid (HI3.out.later hb4)
        have HT4 := Lib.hid (HT3.out.later hb4)
        clear hb4 HX3 HI3 HT3 HAS x0 x1 x2 x3 x4 x5 x6 x7 x8 x9 x10 x11 x12 p0 p1 p2 p3 p4 p5 p6 p7 p8 p9
        obtain ⟨p0, p1, p2, p3, p4, p5, p6, p7, p8, p9⟩ := NO.PBox.all HX4.out.hp
        go_wp2_with fail
        refine (HKD.out w4 HI4.out).mono ?_
        rintro e w5 ⟨rfl, hb5⟩
        have HX5 := Lib.hid (HX4.out.later hb5)
        have HI5 := Lib.hid (HI4.out.later hb5)
        have HT5 := Lib.hid (HT4.out.later hb5)
        clear hb5 HX4 HI4 HT4 HKD p0 p1 p2 p3 p4 p5 p6 p7 p8 p9
        obtain ⟨kd, hkd⟩ : ∃ kd, kd = NO.kindA p.abs := ⟨_, rfl⟩
        rw [← hkd]
        have HXD := HXK.out
        unfold kindE at HXD
        rw [← hkd] at HXD
        have HXQ := Lib.hid HXD
        clear HXD hkd HXK
        have HLT5 : Hid (w.heap.size + 1 + 1 < w5.heap.size) := Lib.hid HX5.out.hz.lt
        by_cases k1 : kd = 1
        · rw [if_pos k1] at HXQ
          have t1 : ((kd : Int) == 1) = true := by simp [k1]
          clear k1
          obtain ⟨x0, x1, x2, x3, x4, x5, x6, x7, x8, x9, x10, x11, x12⟩ := SBox.all HX5.out.hx
          obtain ⟨p0, p1, p2, p3, p4, p5, p6, p7, p8, p9⟩ := NO.PBox.all HX5.out.hp
          have HF := Lib.hid (roffer_any x p s now entry HT5.out HLN.out HI5.out)
          go_wp2_with fail
          refine HF.out.mono ?_
          rintro e w6 ⟨a, rfl, HAB, hps, hb6⟩
          have HX6 := Lib.hid (HX5.out.later hb6)
          have HP6 := Lib.hid hps
          clear hps hb6 x0 x1 x2 x3 x4 x5 x6 x7 x8 x9 x10 x11 x12 p0 p1 p2 p3 p4 p5 p6 p7 p8 p9
          go_wp2_with (first | (refine wp_storeR rowA rfl _ _ rfl (w.heap.size + 1 + 1) _ rfl rfl HX6.out.hz rfl rfl rfl ?_))
          exact HX6.out.end_ a rfl rfl (by rw [HXQ.out]; exact HAB.out) ((HP6.out.set HX6.out.hz HLT5.out (ansW_no8 zeroA) _).more (by have := HLT5.out; omega))
        rw [if_neg k1] at HXQ
        have t1 : ((kd : Int) == 1) = false := by simp; omega
        clear k1
        by_cases k3 : kd = 3
        · rw [if_pos k3] at HXQ
          have t3 : ((kd : Int) == 3) = true := by simp [k3]
          clear k3
          obtain ⟨x0, x1, x2, x3, x4, x5, x6, x7, x8, x9, x10, x11, x12⟩ := SBox.all HX5.out.hx
          obtain ⟨p0, p1, p2, p3, p4, p5, p6, p7, p8, p9⟩ := NO.PBox.all HX5.out.hp
          have HF := Lib.hid (rrequest_any x p s now entry HT5.out HLN.out HU.out HI5.out)
          go_wp2_with fail
          refine HF.out.mono ?_
          rintro e w6 ⟨a, rfl, HAB, hps, hb6⟩
          have HX6 := Lib.hid (HX5.out.later hb6)
          have HP6 := Lib.hid hps
          clear hps hb6 x0 x1 x2 x3 x4 x5 x6 x7 x8 x9 x10 x11 x12 p0 p1 p2 p3 p4 p5 p6 p7 p8 p9
          go_wp2_with (first | (refine wp_storeR rowA rfl _ _ rfl (w.heap.size + 1 + 1) _ rfl rfl HX6.out.hz rfl rfl rfl ?_))
          exact HX6.out.end_ a rfl rfl (by rw [HXQ.out]; exact HAB.out) ((HP6.out.set HX6.out.hz HLT5.out (ansW_no8 zeroA) _).more (by have := HLT5.out; omega))
        rw [if_neg k3] at HXQ
        have t3 : ((kd : Int) == 3) = false := by simp; omega
        clear k3
        by_cases k4 : kd = 4
        · rw [if_pos k4] at HXQ
          have t4 : ((kd : Int) == 4) = true := by simp [k4]
          clear k4
          have HG := Lib.hid (rget_any (NO.askA p.abs) HT5.out (by have := HLN.out; omega))
          obtain ⟨q, e, hq1, hq2, hqe⟩ : ∃ (q : LV) (e : Int), (getL L (NO.askA p.abs)).1 = q ∧ (getL L (NO.askA p.abs)).2 = e ∧ (lookE L (NO.askA p.abs) = none ∧ e = 4 ∨ lookE L (NO.askA p.abs) = some q ∧ e = 0) := by
            rw [getL_look]
            cases lookE L (NO.askA p.abs) with
            | none => exact ⟨zeroL, 4, rfl, rfl, .inl ⟨rfl, rfl⟩⟩
            | some m => exact ⟨m, 0, rfl, rfl, .inr ⟨rfl, rfl⟩⟩
          rw [hq1, hq2] at HG
          have HE04 : Hid (e = 4 ∨ e = 0) := Lib.hid (by rcases hqe with ⟨-, h⟩ | ⟨-, h⟩; exact .inl h; exact .inr h)
          have HXR : Hid (X = if (e == 0 && theirsB q (NO.clientA p.abs)) = true then ⟨false, zeroPA, true, bareL q.addr 5 q.ver, 0⟩ else noA) := Lib.hid (by
            rw [HXQ.out]
            rcases hqe with ⟨hl, rfl⟩ | ⟨hl, rfl⟩
            · unfold declineE; rw [hl]; simp
            · unfold declineE; rw [hl]
              cases hth : theirsB q (NO.clientA p.abs) <;> simp [Option.filter, hth])
          clear hq1 hq2 hqe HXQ
          go_wp2_with fail
          refine HG.out.mono ?_
          rintro e6 w6 ⟨rfl, hb6⟩
          obtain ⟨w7, hw7⟩ : ∃ w7, w7 = w6.alloc (lbox q) := ⟨_, rfl⟩
          obtain ⟨gl, hgl⟩ : ∃ gl, gl = w6.heap.size := ⟨_, rfl⟩
          have h67 : Below w6.heap.size w6 w7 := by rw [hw7]; exact (Below.refl _ _).alloc (Nat.le_refl _) _
          have h57 := hb6.trans (h67.mono hb6.size)
          have HX7 := Lib.hid (HX5.out.later h57)
          have HGL2 : Hid (w.heap.size + 1 + 1 < gl) := Lib.hid (by rw [hgl]; exact Nat.lt_of_lt_of_le HLT5.out hb6.size)
          have HL7 : Hid (LBox w7 gl q) := Lib.hid (by rw [hw7, hgl]; exact LBox.new w6 q)
          have HW7 := Lib.hid hw7
          have HGL := Lib.hid hgl
          clear hb6 hw7 hgl h67 h57 HX5 HI5 HT5 HG
          go_upto_region 14 with fail
          rw [← HW7.out, ← HGL.out]
          clear HW7 HGL
          go_cut [94] (fun s1 wx => s1 = .bool (e == 0 && theirsB q (NO.clientA p.abs)) ∧ Below w7.heap.size w7 wx)
          case first =>
            rcases HE04.out with rfl | rfl
            · go_wp2
              go_meet
              exact ⟨rfl, Below.refl _ _⟩
            · obtain ⟨l0, l1, l2, l3, l4, l5, l6, l7⟩ := HL7.out.all
              have HTQ := Lib.hid (HTH.out q w7)
              cases hth : theirsB q (NO.clientA p.abs)
              all_goals
                rw [hth] at HTQ
                have HTT := Lib.hid hth
                go_wp2_with fail
                refine HTQ.out.mono ?_
                rintro e8 w8 ⟨rfl, hb8⟩
                have HB8 := Lib.hid hb8
                clear hb8 l0 l1 l2 l3 l4 l5 l6 l7
                go_wp2
                go_meet
                exact ⟨by rw [HTT.out]; rfl, HB8.out⟩
          case rest =>
            obtain ⟨rfl, hb8⟩ := hcut
            have HX8 := Lib.hid (HX7.out.later hb8)
            have HL8 := Lib.hid (HL7.out.later hb8)
            clear hb8 HX7 HL7 HTH
            generalize (e == 0 && theirsB q (NO.clientA p.abs)) = mb at *
            cases mb
            · rw [if_neg (by decide)] at HXR
              go_wp2_with (first | (refine wp_storeR rowA rfl _ _ rfl (w.heap.size + 1 + 1) _ rfl rfl HX8.out.hz rfl rfl rfl ?_))
              exact HX8.out.end_ zeroA rfl rfl (by rw [HXR.out]; rfl) (zeroP_pks _ _)
            rw [if_pos rfl] at HXR
            have HBA := Lib.hid (rbare_any q.addr 5 q.ver wc)
            obtain ⟨l0, l1, l2, l3, l4, l5, l6, l7⟩ := HL8.out.all
            go_wp2_with fail
            refine HBA.out.mono ?_
            rintro e9 w9 ⟨rfl, hb9⟩
            have HX9 := Lib.hid (HX8.out.later hb9)
            clear hb9 l0 l1 l2 l3 l4 l5 l6 l7
            go_wp2_with (first | (refine wp_storeR rowA rfl _ _ rfl (w.heap.size + 1 + 1) (⟨false, zeroP, true, bareL q.addr 5 q.ver, 0⟩ : AnW).cells rfl rfl HX9.out.hz rfl rfl rfl ?_))
            exact HX9.out.end_ (⟨false, zeroP, true, bareL q.addr 5 q.ver, 0⟩ : AnW) rfl rfl (by rw [HXR.out]; rfl) (zeroP_pks _ _)
        rw [if_neg k4] at HXQ
        have t4 : ((kd : Int) == 4) = false := by simp; omega
        clear k4
        by_cases k7 : kd = 7
        · rw [if_pos k7] at HXQ
          have t7 : ((kd : Int) == 7) = true := by simp [k7]
          clear k7
          have HG := Lib.hid (rget_any (p.ci) HT5.out (by have := HLN.out; omega))
          obtain ⟨q, e, hq1, hq2, hqe⟩ : ∃ (q : LV) (e : Int), (getL L (p.ci)).1 = q ∧ (getL L (p.ci)).2 = e ∧ (lookE L (p.ci) = none ∧ e = 4 ∨ lookE L (p.ci) = some q ∧ e = 0) := by
            rw [getL_look]
            cases lookE L (p.ci) with
            | none => exact ⟨zeroL, 4, rfl, rfl, .inl ⟨rfl, rfl⟩⟩
            | some m => exact ⟨m, 0, rfl, rfl, .inr ⟨rfl, rfl⟩⟩
          rw [hq1, hq2] at HG
          have HE04 : Hid (e = 4 ∨ e = 0) := Lib.hid (by rcases hqe with ⟨-, h⟩ | ⟨-, h⟩; exact .inl h; exact .inr h)
          have HXR : Hid (X = if (e == 0 && theirsB q (NO.clientA p.abs)) = true then ⟨false, zeroPA, true, { q with bind := 4, at_ := now }, 0⟩ else noA) := Lib.hid (by
            rw [HXQ.out]
            rcases hqe with ⟨hl, rfl⟩ | ⟨hl, rfl⟩
            · unfold releaseE; rw [show p.abs.ci = p.ci from rfl, hl]; simp
            · unfold releaseE; rw [show p.abs.ci = p.ci from rfl, hl]
              cases hth : theirsB q (NO.clientA p.abs) <;> simp [Option.filter, hth])
          clear hq1 hq2 hqe HXQ
          have p4 := NO.PBox.c4 HX5.out.hp
          go_wp2_with fail
          refine HG.out.mono ?_
          rintro e6 w6 ⟨rfl, hb6⟩
          obtain ⟨w7, hw7⟩ : ∃ w7, w7 = w6.alloc (lbox q) := ⟨_, rfl⟩
          obtain ⟨gl, hgl⟩ : ∃ gl, gl = w6.heap.size := ⟨_, rfl⟩
          have h67 : Below w6.heap.size w6 w7 := by rw [hw7]; exact (Below.refl _ _).alloc (Nat.le_refl _) _
          have h57 := hb6.trans (h67.mono hb6.size)
          have HX7 := Lib.hid (HX5.out.later h57)
          have HGL2 : Hid (w.heap.size + 1 + 1 < gl) := Lib.hid (by rw [hgl]; exact Nat.lt_of_lt_of_le HLT5.out hb6.size)
          have HL7 : Hid (LBox w7 gl q) := Lib.hid (by rw [hw7, hgl]; exact LBox.new w6 q)
          have HW7 := Lib.hid hw7
          have HGL := Lib.hid hgl
          clear hb6 hw7 hgl h67 h57 HX5 HI5 HT5 HG p4
          go_upto_region 18 with fail
          rw [← HW7.out, ← HGL.out]
          clear HW7 HGL
          go_cut [116] (fun s1 wx => s1 = .bool (e == 0 && theirsB q (NO.clientA p.abs)) ∧ Below w7.heap.size w7 wx)
          case first =>
            rcases HE04.out with rfl | rfl
            · go_wp2
              go_meet
              exact ⟨rfl, Below.refl _ _⟩
            · obtain ⟨l0, l1, l2, l3, l4, l5, l6, l7⟩ := HL7.out.all
              have HTQ := Lib.hid (HTH.out q w7)
              cases hth : theirsB q (NO.clientA p.abs)
              all_goals
                rw [hth] at HTQ
                have HTT := Lib.hid hth
                go_wp2_with fail
                refine HTQ.out.mono ?_
                rintro e8 w8 ⟨rfl, hb8⟩
                have HB8 := Lib.hid hb8
                clear hb8 l0 l1 l2 l3 l4 l5 l6 l7
                go_wp2
                go_meet
                exact ⟨by rw [HTT.out]; rfl, HB8.out⟩
          case rest =>
            obtain ⟨rfl, hb8⟩ := hcut
            have HX8 := Lib.hid (HX7.out.later hb8)
            have HL8 := Lib.hid (HL7.out.later hb8)
            clear hb8 HX7 HL7 HTH
            generalize (e == 0 && theirsB q (NO.clientA p.abs)) = mb at *
            cases mb
            · rw [if_neg (by decide)] at HXR
              go_wp2_with (first | (refine wp_storeR rowA rfl _ _ rfl (w.heap.size + 1 + 1) _ rfl rfl HX8.out.hz rfl rfl rfl ?_))
              exact HX8.out.end_ zeroA rfl rfl (by rw [HXR.out]; rfl) (zeroP_pks _ _)
            rw [if_pos rfl] at HXR
            have l1 := HL8.out.c1
            have f1 := HL8.out.free 1
            have l6 : (wc.setCell ⟨gl, 1, none⟩ (.int .i64 4)).cell? ⟨gl, 6, none⟩ = some (.int .i64 q.at_) := (HL8.out.store (m' := { q with bind := 4 }) 1 (.int .i64 4) rfl).c6
            have f6 := (HL8.out.store (m' := { q with bind := 4 }) 1 (.int .i64 4) rfl).free 6
            go_upto_region 21 with fail
            obtain ⟨w9, hw9⟩ : ∃ w9, w9 = (wc.setCell ⟨gl, 1, none⟩ (.int .i64 4)).setCell ⟨gl, 6, none⟩ (.int .i64 now) := ⟨_, rfl⟩
            rw [← hw9]
            have HL9 : Hid (LBox w9 gl { q with bind := 4, at_ := now }) := Lib.hid (by rw [hw9]; exact (HL8.out.store (m' := { q with bind := 4 }) 1 (.int .i64 4) rfl).store (m' := { q with bind := 4, at_ := now }) 6 (.int .i64 now) rfl)
            have hb89 : Below (w.heap.size + 1 + 1 + 1) wc w9 := by rw [hw9]; exact ((Below.refl _ _).setCell (p := ⟨gl, 1, none⟩) (by have := HGL2.out; show _ ≤ gl; omega) _).setCell (p := ⟨gl, 6, none⟩) (by have := HGL2.out; show _ ≤ gl; omega) _
            have HX9 : Hid (RBx w w9 x p) := Lib.hid ⟨HX8.out.hx.below hb89 (by omega), (show Bx _ (w.heap.size + 1) 32 p.cells from Bx.below (show Bx wc (w.heap.size + 1) 32 p.cells from HX8.out.hp) hb89 (by omega)), HX8.out.hz.below hb89 (by omega), HX8.out.low.trans (hb89.mono (by omega))⟩
            clear l1 f1 l6 f6 hw9 hb89
            obtain ⟨l0, l1, l2, l3, l4, l5, l6, l7⟩ := HL9.out.all
            go_wp2_with (first | (refine wp_storeR rowA rfl _ _ rfl (w.heap.size + 1 + 1) (⟨false, zeroP, true, { q with bind := 4, at_ := now }, 0⟩ : AnW).cells rfl rfl HX9.out.hz rfl rfl rfl ?_))
            exact HX9.out.end_ (⟨false, zeroP, true, { q with bind := 4, at_ := now }, 0⟩ : AnW) rfl rfl (by rw [HXR.out]; rfl) (zeroP_pks _ _)
        rw [if_neg k7] at HXQ
        have t7 : ((kd : Int) == 7) = false := by simp; omega
        clear k7
        by_cases k8 : kd = 8
        · rw [if_pos k8] at HXQ
          have t8 : ((kd : Int) == 8) = true := by simp [k8]
          clear k8
          obtain ⟨x0, x1, x2, x3, x4, x5, x6, x7, x8, x9, x10, x11, x12⟩ := SBox.all HX5.out.hx
          obtain ⟨p0, p1, p2, p3, p4, p5, p6, p7, p8, p9⟩ := NO.PBox.all HX5.out.hp
          go_wp2_with fail
          refine (HRE.out w5 HI5.out).mono ?_
          rintro e w6 ⟨q6, rfl, HAB, hps, hb6⟩
          have HX6 := Lib.hid (HX5.out.later hb6)
          have HP6 := Lib.hid hps
          clear hps hb6 x0 x1 x2 x3 x4 x5 x6 x7 x8 x9 x10 x11 x12 p0 p1 p2 p3 p4 p5 p6 p7 p8 p9
          go_wp2_with (first | (refine wp_storeR rowA rfl _ _ rfl (w.heap.size + 1 + 1) (⟨true, q6, false, zeroL, 0⟩ : AnW).cells rfl rfl HX6.out.hz rfl rfl rfl ?_))
          refine HX6.out.end_ (⟨true, q6, false, zeroL, 0⟩ : AnW) rfl rfl ?_ ((HP6.out.set HX6.out.hz HLT5.out (no8_of rfl) _).more (by have := HLT5.out; omega))
          rw [HXQ.out]
          show AnsV.mk true q6.abs false zeroL 0 = _
          rw [HAB.out]
          rfl
        rw [if_neg k8] at HXQ
        have t8 : ((kd : Int) == 8) = false := by simp; omega
        clear k8
        go_wp2_with (first | (refine wp_storeR rowA rfl _ _ rfl (w.heap.size + 1 + 1) _ rfl rfl HX5.out.hz rfl rfl rfl ?_))
        exact HX5.out.end_ zeroA rfl rfl (by rw [HXQ.out]; rfl) (zeroP_pks _ _)
end Go.Proofs.YtmaohnbddlccdaaGreat
end

/- engine, the document's: Same, of two answers that tell the same. -/
section
namespace Go.Proofs.YtmaohnbddlccdaaGreat
open Go.RowKit Go.Sort
attribute [local go_sem ↓] run_eqlL run_neqL run_guardL

set_option maxRecDepth 100000 in
set_option maxHeartbeats 4000000 in
theorem rsameA_any (a b : AnW) (hab : a.abs = b.abs) (w : World) (ha : NO.Pk w w.heap.size a.p) (hb : NO.Pk w w.heap.size b.p) (hL : a.p.L.length ≤ 100000) :
    Calls Tryz.prog 13 #[a.v, b.v] w fun e w' => e = .returned (.bool true) ∧ Below w.heap.size w w' := by
  obtain ⟨w0, hw0⟩ : ∃ w0, w0 = (w.alloc (.cells a.cells 44)).alloc (.cells b.cells 44) := ⟨_, rfl⟩
  have hs : (w.alloc (.cells a.cells 44)).heap.size = w.heap.size + 1 := by simp
  have hB : Below w.heap.size w w0 := by rw [hw0]; exact ((Below.refl _ _).alloc (Nat.le_refl _) _).alloc (by simp) _
  have HA : Hid (Bx w0 w.heap.size 44 a.cells) := Lib.hid (by rw [hw0]; exact (Bx.new _ _ _).alloc _)
  have HBB : Hid (Bx w0 (w.heap.size + 1) 44 b.cells) := Lib.hid (by rw [hw0, ← hs]; exact Bx.new _ _ _)
  have e1 : b.send = a.send := (congrArg AnsV.send hab).symm
  have e2 : b.change = a.change := (congrArg AnsV.change hab).symm
  have e3 : b.l = a.l := (congrArg AnsV.lease hab).symm
  have e4 : b.pot = a.pot := (congrArg AnsV.pot hab).symm
  have HSM := Lib.hid (NO.psame_true a.p b.p (congrArg AnsV.reply hab) w0 (ha.later hB) (hb.later hB) hL)
  have HB := Lib.hid hB
  have HW0 := Lib.hid hw0
  have y1 := HA.out.at_ 1
  have y2 := HA.out.at_ 2
  have y3 := HA.out.at_ 3
  have y4 := HA.out.at_ 4
  have y5 := HA.out.at_ 5
  have y6 := HA.out.at_ 6
  have y7 := HA.out.at_ 7
  have y8 := HA.out.at_ 8
  have y9 := HA.out.at_ 9
  have y10 := HA.out.at_ 10
  have z1 := HBB.out.at_ 1
  have z2 := HBB.out.at_ 2
  have z3 := HBB.out.at_ 3
  have z4 := HBB.out.at_ 4
  have z5 := HBB.out.at_ 5
  have z6 := HBB.out.at_ 6
  have z7 := HBB.out.at_ 7
  have z8 := HBB.out.at_ 8
  have z9 := HBB.out.at_ 9
  have z10 := HBB.out.at_ 10
  clear hw0 hs hB hab ha hb hL
  go_enter Tryz.func13, Tryz.ntmps13
  go_upto_region 1 with fail
  rw [← HW0.out]
  go_wp2_with fail
  refine HSM.out.mono ?_
  rintro e w1 ⟨rfl, hb1⟩
  have HA1 := Lib.hid (HA.out.later hb1)
  have HB1 := Lib.hid (HBB.out.later hb1)
  have HL1 := Lib.hid (HB.out.trans (hb1.mono HB.out.size))
  clear hb1 y1 y2 y3 y4 y5 y6 y7 y8 y9 y10 z1 z2 z3 z4 z5 z6 z7 z8 z9 z10
  obtain ⟨bs, bp, bc, bl, bt⟩ := b
  dsimp only at e1 e2 e3 e4
  subst e1 e2 e3 e4
  have a0 : w1.cell? ⟨w.heap.size, 0, none⟩ = some (.bool a.send) := HA1.out.at_ 0
  have a11 : w1.cell? ⟨w.heap.size, 11, none⟩ = some (.bool a.change) := HA1.out.at_ 11
  have a12 : w1.cell? ⟨w.heap.size, 12, none⟩ = some (.int .u32 (a.l.addr : Int)) := HA1.out.at_ 12
  have a13 : w1.cell? ⟨w.heap.size, 13, none⟩ = some (.int .i64 a.l.bind) := HA1.out.at_ 13
  have a14 : w1.cell? ⟨w.heap.size, 14, none⟩ = some (.string a.l.cb) := HA1.out.at_ 14
  have a15 : w1.cell? ⟨w.heap.size, 15, none⟩ = some (.int .i64 a.l.unt) := HA1.out.at_ 15
  have a16 : w1.cell? ⟨w.heap.size, 16, none⟩ = some (.int .i64 a.l.acked) := HA1.out.at_ 16
  have a17 : w1.cell? ⟨w.heap.size, 17, none⟩ = some (.int .i64 a.l.told) := HA1.out.at_ 17
  have a18 : w1.cell? ⟨w.heap.size, 18, none⟩ = some (.int .i64 a.l.at_) := HA1.out.at_ 18
  have a19 : w1.cell? ⟨w.heap.size, 19, none⟩ = some (.int .i64 a.l.ver) := HA1.out.at_ 19
  have a20 : w1.cell? ⟨w.heap.size, 20, none⟩ = some (.int .i64 a.pot) := HA1.out.at_ 20
  have b0 : w1.cell? ⟨w.heap.size + 1, 0, none⟩ = some (.bool a.send) := HB1.out.at_ 0
  have b11 : w1.cell? ⟨w.heap.size + 1, 11, none⟩ = some (.bool a.change) := HB1.out.at_ 11
  have b12 : w1.cell? ⟨w.heap.size + 1, 12, none⟩ = some (.int .u32 (a.l.addr : Int)) := HB1.out.at_ 12
  have b13 : w1.cell? ⟨w.heap.size + 1, 13, none⟩ = some (.int .i64 a.l.bind) := HB1.out.at_ 13
  have b14 : w1.cell? ⟨w.heap.size + 1, 14, none⟩ = some (.string a.l.cb) := HB1.out.at_ 14
  have b15 : w1.cell? ⟨w.heap.size + 1, 15, none⟩ = some (.int .i64 a.l.unt) := HB1.out.at_ 15
  have b16 : w1.cell? ⟨w.heap.size + 1, 16, none⟩ = some (.int .i64 a.l.acked) := HB1.out.at_ 16
  have b17 : w1.cell? ⟨w.heap.size + 1, 17, none⟩ = some (.int .i64 a.l.told) := HB1.out.at_ 17
  have b18 : w1.cell? ⟨w.heap.size + 1, 18, none⟩ = some (.int .i64 a.l.at_) := HB1.out.at_ 18
  have b19 : w1.cell? ⟨w.heap.size + 1, 19, none⟩ = some (.int .i64 a.l.ver) := HB1.out.at_ 19
  have b20 : w1.cell? ⟨w.heap.size + 1, 20, none⟩ = some (.int .i64 a.pot) := HB1.out.at_ 20
  have hE : eqL (a.l.addr : Int) a.l.bind a.l.cb a.l.unt a.l.acked a.l.told a.l.at_ a.l.ver (a.l.addr : Int) a.l.bind a.l.cb a.l.unt a.l.acked a.l.told a.l.at_ a.l.ver = true := by rw [eqL_of]; simp
  generalize a.send = sd at *
  generalize a.change = ch at *
  cases sd <;> cases ch
  all_goals
    go_wp2
    go_ret
    exact ⟨by simp, HL1.out⟩
end Go.Proofs.YtmaohnbddlccdaaGreat
end
