/- The law PacketBack. -/
import Derived.Test.YtmlckjccgdmknaaBackP
import Derived.Test.YtmlckjccgdmknaaPktS
import Derived.Test.YtmlckjccgdmknaaPktW
import Derived.Deep.DeepCutAuto
namespace Go.Proofs.Ytmlckjccgdmknaa
open Go.RowKit Go.Sort

set_option maxRecDepth 100000 in
set_option maxHeartbeats 3000000 in
theorem law_pback (p : PktV) (A : Option Addr) (c : Nat) (b : List UInt8) (w : World) (hp : Pk w w.heap.size p) (hR : PkR p) (hlm : p.L.length ≤ 9223372036854775807) (hdm : ∀ x ∈ p.L, x.data.length ≤ 9223372036854775807) (hhm : p.hw.length ≤ 9223372036854775807)
    (hb : By w w.heap.size A b) (hcap : b.length ≤ c) (hbm : b.length ≤ 9223372036854775807) :
    Calls Try.prog 6 #[p.v, .slice A b.length c] w fun e w' => e = .returned (.bool true) ∧ Below w.heap.size w w' := by
  obtain ⟨w0, hw0⟩ : ∃ w0, w0 = w.alloc (pbox p) := ⟨_, rfl⟩
  have HB0 : Hid (Below w.heap.size w w0) := Lib.hid (by rw [hw0]; exact (Below.refl _ _).alloc (Nat.le_refl _) _)
  have HX0 : Hid (PBox w0 w.heap.size p) := Lib.hid (by rw [hw0]; exact PBox.new w p)
  have HP0 : Hid (Pk w0 w0.heap.size p) := Lib.hid (hp.later HB0.out)
  have HA := Lib.hid (awake_any w0)
  have HF := Lib.hid (fun W (h : Pk W W.heap.size p) => pfew_any p W h hlm hdm hhm)
  have HW := Lib.hid hw0
  have HBY := Lib.hid hb
  have HRR := Lib.hid hR
  clear hp hdm hw0 hb hR
  cases hfew : pfewB p
  · rw [hfew] at HF
    clear hfew
    go_enter Try.func6, Try.ntmps6
    go_wp2_with fail
    rw [← HW.out]
    refine HA.out.mono ?_
    rintro e w1 ⟨rfl, hB1⟩
    obtain ⟨c0, c1, c2, c3, c4, c5, c6, c7, c8, c9⟩ := (HX0.out.later hB1).all
    go_wp2_with fail
    refine (HF.out w1 (HP0.out.later hB1)).mono ?_
    rintro e w' ⟨rfl, rfl⟩
    go_wp2
    go_ret
    exact ⟨rfl, (HB0.out.trans (hB1.mono HB0.out.size)).alloc (Nat.le_trans HB0.out.size hB1.size) _⟩
  · have hfl : (p.L.length ≤ 100 ∧ ∀ x ∈ p.L, x.data.length ≤ 1000) ∧ p.hw.length < 1000 := by
      simp [pfewB] at hfew
      exact ⟨(few_iff p.L).1 hfew.1, hfew.2⟩
    have HFL := Lib.hid hfl
    rw [hfew] at HF
    clear hfew hfl
    by_cases hbig : 3000 < b.length
    · have hd : decide ((3000 : Int) < (b.length : Int)) = true := by simp; omega
      go_enter Try.func6, Try.ntmps6
      go_wp2_with fail
      rw [← HW.out]
      refine HA.out.mono ?_
      rintro e w1 ⟨rfl, hB1⟩
      obtain ⟨c0, c1, c2, c3, c4, c5, c6, c7, c8, c9⟩ := (HX0.out.later hB1).all
      go_wp2_with fail
      refine (HF.out w1 (HP0.out.later hB1)).mono ?_
      rintro e w' ⟨rfl, rfl⟩
      go_wp2
      go_ret
      exact ⟨rfl, (HB0.out.trans (hB1.mono HB0.out.size)).alloc (Nat.le_trans HB0.out.size hB1.size) _⟩
    · have hd : decide ((3000 : Int) < (b.length : Int)) = false := by simp; omega
      go_enter Try.func6, Try.ntmps6
      go_wp2_with fail
      rw [← HW.out]
      refine HA.out.mono ?_
      rintro e w1 ⟨rfl, hB1⟩
      have HX1 := Lib.hid (HX0.out.later hB1)
      have HP1 := Lib.hid (HP0.out.later hB1)
      have HB1 := Lib.hid (HB0.out.trans (hB1.mono HB0.out.size))
      clear hB1
      obtain ⟨c0, c1, c2, c3, c4, c5, c6, c7, c8, c9⟩ := HX1.out.all
      go_wp2_with fail
      refine (HF.out w1 HP1.out).mono ?_
      rintro e w2 ⟨rfl, hw2⟩
      have hB2 : Below w1.heap.size w1 w2 := by rw [hw2]; exact (Below.refl _ _).alloc (Nat.le_refl _) _
      clear hw2 c0 c1 c2 c3 c4 c5 c6 c7 c8 c9
      have HX2 := Lib.hid (HX1.out.later hB2)
      have HP2 := Lib.hid (HP1.out.later hB2)
      have HB2 := Lib.hid (HB1.out.trans (hB2.mono HB1.out.size))
      clear hB2
      obtain ⟨c0, c1, c2, c3, c4, c5, c6, c7, c8, c9⟩ := HX2.out.all
      go_wp2_with fail
      refine (pencode_any p w2 HP2.out HRR.out (Nat.le_trans HFL.out.1.1 (by decide)) hhm).mono ?_
      rintro e w3 ⟨A3, k3, rfl, hby3, hck3, hB3⟩
      clear c0 c1 c2 c3 c4 c5 c6 c7 c8 c9
      have HX3 := Lib.hid (HX2.out.later hB3)
      have HP3 := Lib.hid (HP2.out.later hB3)
      have HB3 := Lib.hid (HB2.out.trans (hB3.mono HB2.out.size))
      clear hB3
      obtain ⟨bl, hbl⟩ : ∃ bl, bl = (encP p.abs).1 := ⟨_, rfl⟩
      obtain ⟨ec, hec⟩ : ∃ ec, ec = (encP p.abs).2 := ⟨_, rfl⟩
      rw [← hbl] at hby3 hck3
      rw [← hbl, ← hec]
      have HBL := Lib.hid hbl
      have HEC := Lib.hid hec
      have HBY3 := Lib.hid hby3
      clear hbl hec hby3
      go_upto_if 40 with fail
      go_cut [] (fun wx => Below w.heap.size w wx)
      case first =>
        cases hr : rightA p.abs
        · obtain rfl : ec = 1 := by rw [HEC.out, encP_bad hr]
          clear hr
          go_wp2_with fail
          go_meet
          exact HB3.out
        · obtain rfl : ec = 0 := by rw [HEC.out, encP_ok hr]
          have hble : bl = headL p.abs ++ (encL p.abs.opts).1 := by rw [HBL.out, encP_ok hr]
          have hdec : decP bl = (p.abs, 0) := by rw [hble]; exact dec_enc hr (fits_of HRR.out)
          have hbl3 : bl.length ≤ 3000 := by
            have h1 := hr
            unfold rightA at h1
            rw [Bool.and_eq_true] at h1
            have h2 := headL_length p.abs ((headA_iff _).1 h1.2).2.2.2.2
            have h3 := encL_len p.abs.opts
            rw [hble, List.length_append]
            omega
          have HD := Lib.hid (pdecode_any A3 k3 bl w3 HBY3.out hck3 hbl3)
          rw [hdec] at HD
          clear hr hble hdec
          go_wp2_with fail
          refine HD.out.mono ?_
          rintro e w4 ⟨q, rfl, hab, hpk, hRq, hL, hw16, hB4⟩
          obtain ⟨v4, hv4⟩ : ∃ v4, v4 = w4.alloc (pbox q) := ⟨_, rfl⟩
          have hBv : Below w4.heap.size w4 v4 := by rw [hv4]; exact (Below.refl _ _).alloc (Nat.le_refl _) _
          have hX3 := (HX3.out.later hB4).later hBv
          have hX4 : PBox v4 w4.heap.size q := by rw [hv4]; exact PBox.new w4 q
          have HB4 := Lib.hid ((HB3.out.trans (hB4.mono HB3.out.size)).trans (hBv.mono (Nat.le_trans HB3.out.size hB4.size)))
          have HS := Lib.hid (psame_true p q hab.symm v4 ((HP3.out.later hB4).later hBv) (hpk.later hBv) (by have := HFL.out.1.1; omega))
          obtain ⟨c0, c1, c2, c3, c4, c5, c6, c7, c8, c9⟩ := hX3.all
          obtain ⟨d0, d1, d2, d3, d4, d5, d6, d7, d8, d9⟩ := hX4.all
          have HV4 := Lib.hid hv4
          clear hab hpk hRq hB4 hBv hX3 hX4 hv4
          go_upto_region 8 with fail
          change Code.wp _ _ _ _ (w4.alloc (pbox q))
          rw [← HV4.out]
          go_wp2_with fail
          refine HS.out.mono ?_
          rintro e w5 ⟨rfl, hB5⟩
          go_wp2_with fail
          go_meet
          exact HB4.out.trans (hB5.mono HB4.out.size)
      case rest =>
        have HBYc := Lib.hid (HBY.out.later hcut)
        have HBc := Lib.hid hcut
        clear hcut
        go_wp2_with fail
        refine (pdecode_any A c b wc HBYc.out hcap (by omega)).mono ?_
        rintro e w4 ⟨q, rfl, hab, hpk, hRq, hL, hw16, hB4⟩
        obtain ⟨v4, hv4⟩ : ∃ v4, v4 = w4.alloc (pbox q) := ⟨_, rfl⟩
        have hBv : Below w4.heap.size w4 v4 := by rw [hv4]; exact (Below.refl _ _).alloc (Nat.le_refl _) _
        have HX4 : Hid (PBox v4 w4.heap.size q) := Lib.hid (by rw [hv4]; exact PBox.new w4 q)
        have HP4 := Lib.hid (hpk.later hBv)
        have HB4 := Lib.hid ((HBc.out.trans (hB4.mono HBc.out.size)).trans (hBv.mono (Nat.le_trans HBc.out.size hB4.size)))
        have HBY4 := Lib.hid ((HBYc.out.later hB4).later hBv)
        have HV4 := Lib.hid hv4
        have HAB := Lib.hid hab
        have HRQ := Lib.hid hRq
        obtain ⟨fc, hfc⟩ : ∃ fc, fc = (decP b).2 := ⟨_, rfl⟩
        rw [← hfc]
        have HFC := Lib.hid hfc
        clear hab hpk hRq hB4 hBv hv4 hfc
        cases hkz : (fc != 0)
        rotate_left
        · have hde := dec_err (b := b) (by rw [← HFC.out]; simpa using hkz)
          obtain rfl : fc = 2 := by rw [HFC.out, hde]
          have hq0 : q.hw.length = 0 := by
            have h1 : q.abs.hw = zeroP.abs.hw := by rw [HAB.out, hde]
            have h2 : q.hw = [] := h1
            rw [h2]; rfl
          have d8 := HX4.out.c8
          rw [hq0] at d8
          clear hde hkz hq0
          go_upto_region 12 with fail
          change Code.wp _ _ _ _ (w4.alloc (pbox q))
          rw [← HV4.out]
          go_wp2
          go_ret
          exact ⟨rfl, HB4.out⟩
        · obtain rfl : fc = 0 := by simpa using hkz
          obtain ⟨g1, g2, g3, g4, g5, g6, g7⟩ := enc_dec (b := b) HFC.out.symm
          obtain ⟨d0, d1, d2, d3, d4, d5, d6, d7, d8, d9⟩ := HX4.out.all
          have HE := Lib.hid (pencode_any q v4 HP4.out HRQ.out hL (by omega))
          rw [HAB.out, g3] at HE
          have hdd := dec_enc g1 g2
          obtain ⟨dl, hdl⟩ : ∃ dl, dl = headL (decP b).1 ++ (encL (decP b).1.opts).1 := ⟨_, rfl⟩
          rw [← hdl] at HE hdd g5
          have htk : dl.take 240 = b.take 240 := by rw [hdl, ← g6, ← g4]; exact List.take_left
          have h240 : 240 ≤ dl.length := by rw [hdl, List.length_append]; omega
          have HTK := Lib.hid htk
          have HDD := Lib.hid hdd
          have hle : (dl.length : Int) ≤ (b.length : Int) := by omega
          have htl : (b.take 240).length = 240 := by rw [List.length_take]; omega
          have HTL := Lib.hid htl
          clear g1 g2 g3 g4 g6 hdd hdl htk htl hkz
          go_upto_region 12 with fail
          change Code.wp _ _ _ _ (w4.alloc (pbox q))
          rw [← HV4.out]
          go_wp2_with fail
          refine HE.out.mono ?_
          rintro e w5 ⟨A5, k5, rfl, hby5, hck5, hB5⟩
          have HX5 := Lib.hid (HX4.out.later hB5)
          have HP5 := Lib.hid (HP4.out.later hB5)
          have HB5 := Lib.hid (HB4.out.trans (hB5.mono HB4.out.size))
          have HBY5 := Lib.hid (HBY4.out.later hB5)
          have HDY5 := Lib.hid hby5
          have HD := Lib.hid (pdecode_any A5 k5 dl w5 hby5 hck5 (by omega))
          rw [HDD.out] at HD
          clear hB5 hby5 d0 d1 d2 d3 d4 d5 d6 d7 d8 d9
          go_wp2_with fail
          refine HD.out.mono ?_
          rintro e w6 ⟨q2, rfl, hab2, hpk2, hRq2, hL2, hw2, hB6⟩
          obtain ⟨v6, hv6⟩ : ∃ v6, v6 = w6.alloc (pbox q2) := ⟨_, rfl⟩
          have hBv : Below w6.heap.size w6 v6 := by rw [hv6]; exact (Below.refl _ _).alloc (Nat.le_refl _) _
          have hX5 := (HX5.out.later hB6).later hBv
          have hX6 : PBox v6 w6.heap.size q2 := by rw [hv6]; exact PBox.new w6 q2
          have HB6 := Lib.hid ((HB5.out.trans (hB6.mono HB5.out.size)).trans (hBv.mono (Nat.le_trans HB5.out.size hB6.size)))
          have HBY6 := Lib.hid ((HBY5.out.later hB6).later hBv)
          have HDY6 := Lib.hid ((HDY5.out.later hB6).later hBv)
          have HS := Lib.hid (psame_true q q2 (HAB.out.trans hab2.symm) v6 ((HP5.out.later hB6).later hBv) (hpk2.later hBv) (by omega))
          obtain ⟨c0, c1, c2, c3, c4, c5, c6, c7, c8, c9⟩ := hX5.all
          obtain ⟨d0, d1, d2, d3, d4, d5, d6, d7, d8, d9⟩ := hX6.all
          have HV6 := Lib.hid hv6
          clear hab2 hpk2 hRq2 hB6 hBv hX5 hX6 hv6
          go_upto_region 16 with fail
          change Code.wp _ _ _ _ (w6.alloc (pbox q2))
          rw [← HV6.out]
          go_wp2_with fail
          refine HS.out.mono ?_
          rintro e w7 ⟨rfl, hB7⟩
          have hby7 := HBY6.out.later hB7
          have hdy7 := HDY6.out.later hB7
          have HB7 := Lib.hid (HB6.out.trans (hB7.mono HB6.out.size))
          have hs1 := run_headB A5 dl.length k5 240 (by omega) (by omega)
          have hs2 := run_headB A b.length c 240 (by omega) (by omega)
          rw [show (240 : Int).toNat = 240 from rfl] at hs1 hs2
          have t1 := str_regrown k5 (hdy7.take 240)
          have t2 := str_regrown c (hby7.take 240)
          rw [HTK.out, HTL.out] at t1
          rw [HTL.out] at t2
          have hself : (b.take 240 == b.take 240) = true := by simp
          have hle2 : decide ((dl.length : Int) ≤ (b.length : Int)) = true := by simpa using hle
          clear c0 c1 c2 c3 c4 c5 c6 c7 c8 c9 d0 d1 d2 d3 d4 d5 d6 d7 d8 d9 hB7 hby7 hdy7
          go_wp2_with fail
          refine wp_region_quiet_below (by kernel_rfl) (by kernel_rfl) ?_
          repeat (quiet_step (fail))
          refine wpQuiet_nil ?_
          intro _ hw'
          obtain ⟨⟨dq, osq⟩, hw''⟩ := hw'
          subst hw''
          go_wp2
          go_ret
          exact ⟨by simp, HB7.out.trans ((below_regrown w7 dq osq).mono HB7.out.size)⟩
end Go.Proofs.Ytmlckjccgdmknaa
