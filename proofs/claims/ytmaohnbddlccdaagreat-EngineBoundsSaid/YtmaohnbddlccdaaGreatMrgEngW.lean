/- engine: gives, request. -/
import Derived.Test.YtmaohnbddlccdaaGreatMrgEngV
namespace Go.Proofs.YtmaohnbddlccdaaGreat
open Go.RowKit Go.Sort

def givesQ (q : QV) (m : LV) : Bool := decide (1 ≤ longQ q m) && (theirsB m q.cl || mayQ q m)
def requestQ (q : QV) (L : List LV) : AnsV :=
  if toldE q.p.abs = true ∧ NO.numL (NO.fd q.p.abs 54) ≠ q.x.server then noA
  else match atE (givesQ q) L q.ad with
    | some m => boundQ q m
    | none => if (atE sharedB L q.ad).isSome = true ∧ toldE q.p.abs = false then noA else sentA (replyE q.x q.p.abs 6 [])

set_option maxRecDepth 100000 in
set_option maxHeartbeats 2000000 in
theorem qgives_any {g : Nat} {q : QV} (m : LV) {w : World} (hq : QM w g q) : Calls Tryz.prog 77 #[ptE g, m.v] w fun e w' => e = .returned (.bool (givesQ q m)) ∧ Below w.heap.size w w' := by
  obtain ⟨w0, hw0⟩ : ∃ w0, w0 = w.alloc (lbox m) := ⟨_, rfl⟩
  have HL : Hid (LBox w0 w.heap.size m) := Lib.hid (by rw [hw0]; exact LBox.new w m)
  have HQ : Hid (QM w0 g q) := Lib.hid (by rw [hw0]; exact hq.alloc _)
  have HB : Hid (Below w.heap.size w w0) := Lib.hid (by rw [hw0]; exact (Below.refl _ _).alloc (Nat.le_refl _) _)
  have HW0 := Lib.hid hw0
  have HLO := Lib.hid (fun V (h : QM V g q) => (show Calls Tryz.prog 73 #[ptE g, m.v] V fun e w' => e = .returned (.int .i64 (longQ q m)) ∧ Below V.heap.size V w' from qlong_any m h))
  have HH := Lib.hid (fun V (h : QM V g q) => qhas_any m h)
  have HM := Lib.hid (fun V (h : QM V g q) => (show Calls Tryz.prog 119 #[ptE g, m.v] V fun e w' => e = .returned (.bool (mayQ q m)) ∧ Below V.heap.size V w' from qmay_any m h))
  unfold givesQ
  generalize longQ q m = n at *
  generalize theirsB m q.cl = b1 at *
  generalize mayQ q m = b2 at *
  clear hw0 hq
  obtain ⟨l0, l1, l2, l3, l4, l5, l6, l7⟩ := HL.out.all
  by_cases hn : 1 ≤ n
  · rw [decide_eq_true hn]
    cases b1
    · go_enter Tryz.func77, Tryz.ntmps77
      go_upto_region 1 with fail
      rw [← HW0.out]
      go_wp2_with fail
      refine (HLO.out _ HQ.out).mono ?_
      rintro e w1 ⟨rfl, hb1⟩
      have HQ1 := Lib.hid (HQ.out.later hb1)
      have HL1 := Lib.hid (HL.out.later hb1)
      have HB1 := Lib.hid (HB.out.trans (hb1.mono HB.out.size))
      clear hb1 l0 l1 l2 l3 l4 l5 l6 l7
      obtain ⟨l0, l1, l2, l3, l4, l5, l6, l7⟩ := HL1.out.all
      go_wp2_with fail
      refine (HH.out _ HQ1.out).mono ?_
      rintro e w2 ⟨rfl, hb2⟩
      have HQ2 := Lib.hid (HQ1.out.later hb2)
      have HL2 := Lib.hid (HL1.out.later hb2)
      have HB2 := Lib.hid (HB1.out.trans (hb2.mono HB1.out.size))
      clear hb2 l0 l1 l2 l3 l4 l5 l6 l7
      obtain ⟨l0, l1, l2, l3, l4, l5, l6, l7⟩ := HL2.out.all
      go_wp2_with fail
      refine (HM.out _ HQ2.out).mono ?_
      rintro e w3 ⟨rfl, hb3⟩
      have HB3 := Lib.hid (HB2.out.trans (hb3.mono HB2.out.size))
      clear hb3 l0 l1 l2 l3 l4 l5 l6 l7
      go_wp2
      go_ret
      exact ⟨rfl, HB3.out⟩
    · go_enter Tryz.func77, Tryz.ntmps77
      go_upto_region 1 with fail
      rw [← HW0.out]
      go_wp2_with fail
      refine (HLO.out _ HQ.out).mono ?_
      rintro e w1 ⟨rfl, hb1⟩
      have HQ1 := Lib.hid (HQ.out.later hb1)
      have HL1 := Lib.hid (HL.out.later hb1)
      have HB1 := Lib.hid (HB.out.trans (hb1.mono HB.out.size))
      clear hb1 l0 l1 l2 l3 l4 l5 l6 l7
      obtain ⟨l0, l1, l2, l3, l4, l5, l6, l7⟩ := HL1.out.all
      go_wp2_with fail
      refine (HH.out _ HQ1.out).mono ?_
      rintro e w2 ⟨rfl, hb2⟩
      have HB2 := Lib.hid (HB1.out.trans (hb2.mono HB1.out.size))
      clear hb2 l0 l1 l2 l3 l4 l5 l6 l7
      go_wp2
      go_ret
      exact ⟨rfl, HB2.out⟩
  · rw [decide_eq_false hn]
    go_enter Tryz.func77, Tryz.ntmps77
    go_upto_region 1 with fail
    rw [← HW0.out]
    go_wp2_with fail
    refine (HLO.out _ HQ.out).mono ?_
    rintro e w1 ⟨rfl, hb1⟩
    have HB1 := Lib.hid (HB.out.trans (hb1.mono HB.out.size))
    clear hb1 l0 l1 l2 l3 l4 l5 l6 l7
    go_wp2
    go_ret
    exact ⟨rfl, HB1.out⟩

set_option maxRecDepth 100000 in
set_option maxHeartbeats 4000000 in
theorem request_any {T : World → (Nat → Prop) → Nat → List LV → Prop} (K : TabK T) {w : World} {P : Nat → Prop} {g gt : Nat} {q : QV} {L : List LV} (h : QT T w P g gt q L) (ho : QOk q) :
    Calls Tryz.prog 34 #[ptE g] w (GivesA w (requestQ q L)) := by
  obtain ⟨w0, hw0⟩ : ∃ w0, w0 = w.alloc (.cells zeroA.cells 44) := ⟨_, rfl⟩
  have hB : Below w.heap.size w w0 := by rw [hw0]; exact (Below.refl _ _).alloc (Nat.le_refl _) _
  have hZ : Bx w0 w.heap.size 44 zeroA.cells := by rw [hw0]; exact Bx.new _ _ _
  have HQ := Lib.hid (h.later K hB)
  have HB := Lib.hid hB
  have HZ := Lib.hid hZ
  have HK := Lib.hid K
  have HO := Lib.hid ho
  have HW0 : Hid (w0 = w.alloc (.cells #[.bool false, .int .i64 0, .int .u32 0, .int .i64 0, .int .i64 0, .int .u32 0, .int .u32 0, .int .u32 0, .int .u32 0, .slice none 0 0, .slice none 0 0, .bool false, .int .u32 0, .int .i64 0, .string ⟨#[]⟩, .int .i64 0, .int .i64 0, .int .i64 0, .int .i64 0, .int .i64 0, .int .i64 0] 44)) := Lib.hid hw0
  have HSV := Lib.hid (server_any HQ.out.m HO.out.len HO.out.dat)
  have HA1 := Lib.hid (fun V (hV : QT T V P g gt q L) => qat_any K hV q.ad HO.out.ad (f := 77) (pre := #[ptE g]) (p := givesQ q) (fun _ _ => rfl) (fun m W hW => qgives_any m hW.m))
  have HA2 := Lib.hid (fun V (hV : QT T V P g gt q L) => qat_any K hV q.ad HO.out.ad (f := 79) (pre := #[]) (p := sharedB) (fun _ _ => rfl) (fun m W _ => shared_any m W))
  obtain ⟨X, hX⟩ : ∃ X, X = requestQ q L := ⟨_, rfl⟩
  rw [← hX]
  unfold requestQ at hX
  have HXX := Lib.hid hX
  clear hw0 hB hZ h K ho hX
  generalize toldE q.p.abs = told at *
  generalize NO.numL (NO.fd q.p.abs 54) = srv at *
  obtain ⟨sv, hsv⟩ : ∃ sv, sv = (if told = true then (srv : Int) else 0) := ⟨_, rfl⟩
  rw [← hsv] at HSV
  have HSE := Lib.hid hsv
  clear hsv
  generalize atE (givesQ q) L q.ad = r at *
  generalize atE sharedB L q.ad = r2 at *
  go_enter Tryz.func34, Tryz.ntmps34
  go_upto_region 1 with fail
  rw [← HW0.out]
  go_wp2_with fail
  refine HSV.out.mono ?_
  rintro e w1 ⟨rfl, hb1⟩
  have HQ1 := Lib.hid (HQ.out.later HK.out hb1)
  have HZ1 := Lib.hid (HZ.out.later hb1)
  have HB1 := Lib.hid (HB.out.trans (hb1.mono HB.out.size))
  clear hb1 HQ HZ HB HW0
  have c3 := HQ1.out.m.c3
  have c28 := HQ1.out.m.c28
  go_upto_region 2 with fail
  go_cut [4, 23] (fun s4 s23 wx => s4 = .bool told ∧ s23 = .bool (told && decide (srv ≠ q.x.server)) ∧ wx = w1)
  case first =>
    cases told
    · go_wp2
      go_meet
      exact ⟨rfl, rfl, rfl⟩
    · have e := HSE.out
      rw [if_pos rfl] at e
      subst e
      by_cases hs : srv = q.x.server
      · have t1 : ((srv : Int) != (q.x.server : Int)) = false := by simp [hs]
        have HSS := Lib.hid hs
        clear hs
        go_wp2
        go_meet
        refine ⟨rfl, ?_, rfl⟩
        simp [HSS.out]
      · have t1 : ((srv : Int) != (q.x.server : Int)) = true := by simp; omega
        have HSS := Lib.hid hs
        clear hs
        go_wp2
        go_meet
        refine ⟨rfl, ?_, rfl⟩
        simp [HSS.out]
  case rest =>
    obtain ⟨rfl, rfl, hw⟩ := hcut
    have hbad : (told && decide (srv ≠ q.x.server)) = decide (told = true ∧ srv ≠ q.x.server) := by cases told <;> simp
    rw [hbad]
    rw [hw]
    clear hw hbad
    by_cases hb : told = true ∧ srv ≠ q.x.server
    · rw [if_pos hb] at HXX
      rw [decide_eq_true hb]
      clear hb c3 c28
      go_wp2_with (first | (refine wp_storeR rowA rfl _ _ rfl w.heap.size _ rfl rfl HZ1.out rfl rfl rfl ?_))
      exact ans_end (a := zeroA) rfl rfl (HZ1.out.set zeroA.cells) (by rw [HXX.out]; rfl) (zeroP_pks _ _) (HB1.out.trans (below_setRow _ w.heap.size zeroA.cells (Nat.le_refl _)))
    · rw [if_neg hb] at HXX
      rw [decide_eq_false hb]
      clear hb c3
      have HA1' := Lib.hid (HA1.out _ HQ1.out)
      cases r with
      | some m =>
        have HXS : Hid (X = boundQ q m) := Lib.hid HXX.out
        have HBO := Lib.hid (fun V (h : QM V g q) => bound_any h HO.out m)
        clear HXX HA1 HA2
        go_wp2_with fail
        refine HA1'.out.mono ?_
        rintro e w2 ⟨rfl, hb2⟩
        have HZ2 := Lib.hid ((HZ1.out.later hb2).alloc (lbox m))
        have h2 := HB1.out.trans (hb2.mono HB1.out.size)
        have HB2 := Lib.hid (h2.alloc h2.size (lbox m))
        have HQ2 := Lib.hid ((HQ1.out.later HK.out hb2).alloc HK.out (lbox m))
        have HX2 := Lib.hid (LBox.new w2 m)
        clear hb2 h2 c28
        obtain ⟨x0, x1, x2, x3, x4, x5, x6, x7⟩ := HX2.out.all
        go_wp2_with fail
        refine (HBO.out _ HQ2.out.m).mono ?_
        rintro e w3 ⟨a, rfl, HAB, hps, hb3⟩
        have HLT : Hid (w.heap.size < (w2.alloc (lbox m)).heap.size) := Lib.hid HZ2.out.lt
        have HZ3 := Lib.hid (HZ2.out.later hb3)
        have HB3 := Lib.hid (HB2.out.trans (hb3.mono HB2.out.size))
        have HP3 := Lib.hid hps
        clear hps hb3 x0 x1 x2 x3 x4 x5 x6 x7
        go_wp2_with (first | (refine wp_storeR rowA rfl _ _ rfl w.heap.size _ rfl rfl HZ3.out rfl rfl rfl ?_))
        exact ans_end (a := a) rfl rfl (HZ3.out.set _) (by rw [HXS.out]; exact HAB.out) ((HP3.out.set HZ3.out HLT.out (ansW_no8 zeroA) _).more (Nat.le_of_lt HLT.out)) (HB3.out.trans (below_setRow _ w.heap.size _ (Nat.le_refl _)))
      | none =>
        have HXN : Hid (X = if r2.isSome = true ∧ told = false then noA else sentA (replyE q.x q.p.abs 6 [])) := Lib.hid HXX.out
        clear HXX HA1
        go_wp2_with fail
        refine HA1'.out.mono ?_
        rintro e w2 ⟨rfl, hb2⟩
        have HZ2 := Lib.hid ((HZ1.out.later hb2).alloc (lbox zeroL))
        have h2 := HB1.out.trans (hb2.mono HB1.out.size)
        have HB2 := Lib.hid (h2.alloc h2.size (lbox zeroL))
        have HQ2 := Lib.hid ((HQ1.out.later HK.out hb2).alloc HK.out (lbox zeroL))
        clear hb2 h2 c28
        have c28 := HQ2.out.m.c28
        go_wp2_with fail
        refine (HA2.out _ HQ2.out).mono ?_
        rintro e w3 ⟨rfl, hb3⟩
        have HZ3 := Lib.hid ((HZ2.out.later hb3).alloc (lbox (r2.getD zeroL)))
        have h3 := HB2.out.trans (hb3.mono HB2.out.size)
        have HB3 := Lib.hid (h3.alloc h3.size (lbox (r2.getD zeroL)))
        have HQ3 := Lib.hid ((HQ2.out.later HK.out hb3).alloc HK.out (lbox (r2.getD zeroL)))
        clear hb3 h3 c28 HA2 HA1'
        generalize r2.getD zeroL = m3 at *
        generalize r2.isSome = is at *
        by_cases hc : is = true ∧ told = false
        · rw [if_pos hc] at HXN
          obtain ⟨rfl, rfl⟩ := hc
          go_wp2_with (first | (refine wp_storeR rowA rfl _ _ rfl w.heap.size _ rfl rfl HZ3.out rfl rfl rfl ?_))
          exact ans_end (a := zeroA) rfl rfl (HZ3.out.set zeroA.cells) (by rw [HXN.out]; rfl) (zeroP_pks _ _) (HB3.out.trans (below_setRow _ w.heap.size zeroA.cells (Nat.le_refl _)))
        · rw [if_neg hc] at HXN
          have HRP := Lib.hid (fun V (h : QM V g q) => (show Calls Tryz.prog 38 #[ptE g, .int .i64 6, .slice none 0 0] V (GivesP V (replyE q.x q.p.abs 6 [])) from reply_any (M := []) (A := none) (c := 0) h 6 NO.Op.nil (by simp) HO.out.hw HO.out.sv))
          generalize replyE q.x q.p.abs 6 [] = Y at *
          have hcc : is = false ∨ told = true := by cases is <;> cases told <;> simp_all
          clear hc
          rcases hcc with rfl | rfl
          · go_wp2_with fail
            refine (HRP.out _ HQ3.out.m).mono ?_
            rintro e w4 ⟨p, rfl, HP, hps, hb4⟩
            have HS := Lib.hid (sent_any p w4)
            have HPS := Lib.hid hps
            have HB4 := Lib.hid hb4
            clear hps hb4
            go_wp2_with fail
            refine HS.out.mono ?_
            rintro e w5 ⟨rfl, hb5⟩
            have HLT : Hid (w.heap.size < (w3.alloc (lbox m3)).heap.size) := Lib.hid HZ3.out.lt
            have HZ5 := Lib.hid ((HZ3.out.later HB4.out).later hb5)
            have HB5 := Lib.hid (HB3.out.trans ((HB4.out.trans (hb5.mono HB4.out.size)).mono HB3.out.size))
            have HP5 := Lib.hid (HPS.out.later hb5)
            clear hb5
            go_wp2_with (first | (refine wp_storeR rowA rfl _ _ rfl w.heap.size _ rfl rfl HZ5.out rfl rfl rfl ?_))
            exact ans_end (a := ⟨true, p, false, zeroL, 0⟩) rfl rfl (HZ5.out.set _) (by rw [HXN.out]; show AnsV.mk _ p.abs _ _ _ = _; rw [HP.out]; rfl) ((HP5.out.set HZ5.out HLT.out (ansW_no8 zeroA) _).more (Nat.le_of_lt HLT.out)) (HB5.out.trans (below_setRow _ w.heap.size _ (Nat.le_refl _)))
          · cases is
            all_goals
              go_wp2_with fail
              refine (HRP.out _ HQ3.out.m).mono ?_
              rintro e w4 ⟨p, rfl, HP, hps, hb4⟩
              have HS := Lib.hid (sent_any p w4)
              have HPS := Lib.hid hps
              have HB4 := Lib.hid hb4
              clear hps hb4
              go_wp2_with fail
              refine HS.out.mono ?_
              rintro e w5 ⟨rfl, hb5⟩
              have HLT : Hid (w.heap.size < (w3.alloc (lbox m3)).heap.size) := Lib.hid HZ3.out.lt
              have HZ5 := Lib.hid ((HZ3.out.later HB4.out).later hb5)
              have HB5 := Lib.hid (HB3.out.trans ((HB4.out.trans (hb5.mono HB4.out.size)).mono HB3.out.size))
              have HP5 := Lib.hid (HPS.out.later hb5)
              clear hb5
              go_wp2_with (first | (refine wp_storeR rowA rfl _ _ rfl w.heap.size _ rfl rfl HZ5.out rfl rfl rfl ?_))
              exact ans_end (a := ⟨true, p, false, zeroL, 0⟩) rfl rfl (HZ5.out.set _) (by rw [HXN.out]; show AnsV.mk _ p.abs _ _ _ = _; rw [HP.out]; rfl) ((HP5.out.set HZ5.out HLT.out (ansW_no8 zeroA) _).more (Nat.le_of_lt HLT.out)) (HB5.out.trans (below_setRow _ w.heap.size _ (Nat.le_refl _)))
end Go.Proofs.YtmaohnbddlccdaaGreat
