/- The law MessageOnce. -/
import Derived.Test.YtgdkioegadbnmaaMsgD
import Derived.Test.YtgdkioegadbnmaaLawMEnc
import Derived.Deep.DeepCutAuto
namespace Go.Proofs.Ytgdkioegadbnmaa
open Go.RowKit Go.Sort
attribute [local go_sem ↓] run_eqlC run_neqC run_guardC

theorem rowE (w : World) : Row w (w.alloc (.cells #[] 5)) (.slice (some ⟨w.heap.size, 0, none⟩) 0 0) [] :=
  ⟨World.ownsRow_lit (base := w.heap.size) (e := 5) (size := 1) w #[] 0 (Nat.le_refl _) (by unfold maxLen; omega) rfl, (Below.refl _ _).alloc (Nat.le_refl _) _⟩
theorem enc_small {m : MsgV} (h : rightM m = true) : 9 ≤ (encM m).length ∧ (encM m).length ≤ 63 := by
  have hl := enc_length m
  have hc := size_small ((right_iff m).1 h)
  unfold sizeM at hl
  split at hl
  · omega
  · split at hl
    · omega
    · split at hl <;> omega

set_option maxRecDepth 100000 in
set_option maxHeartbeats 4000000 in
theorem law_monce (m n : MsgV) (A1 : Option Addr) (c1 : Nat) (b : List UInt8) (w : World) (ha : m.addr < 4294967296) (hna : n.addr < 4294967296) (hb : By w w.heap.size A1 b) (_hbc : b.length ≤ c1) (hbl : b.length ≤ 9223372036854775807) :
    Calls Try.prog 6 #[m.v, n.v, .slice A1 b.length c1] w fun e w' => e = .returned (.bool true) ∧ Below w.heap.size w w' := by
  obtain ⟨w0, hw0⟩ : ∃ w0, w0 = (w.alloc (mbox m)).alloc (mbox n) := ⟨_, rfl⟩
  have HX : Hid (MBox w0 w.heap.size m) := Lib.hid (by rw [hw0]; exact (MBox.new w m).alloc _)
  have HN : Hid (MBox w0 (w.heap.size + 1) n) := Lib.hid (by rw [hw0]; have h := MBox.new (w.alloc (mbox m)) n; simpa only [World.size_alloc] using h)
  have HB0 : Hid (Below w.heap.size w w0) := Lib.hid (by rw [hw0]; exact ((Below.refl _ _).alloc (Nat.le_refl _) _).alloc (by simp) _)
  have HY0 : Hid (By w0 w0.heap.size A1 b) := Lib.hid (hb.later HB0.out)
  have HW0 := Lib.hid hw0
  have HE := Lib.hid (fun W => encode_any m ha W)
  have HF := Lib.hid (fun W => encode_any n hna W)
  clear hw0 hb
  by_cases g1 : 1000 < m.client.size
  · have hd : decide ((1000 : Int) < (m.client.size : Int)) = true := by simp; omega
    go_enter Try.func6, Try.ntmps6
    go_wp2_with fail
    rw [← HW0.out]
    refine (awake_any _).mono ?_
    rintro e w1 ⟨rfl, hB1⟩
    have c7 := (HX.out.later hB1).c7
    have d7 := (HN.out.later hB1).c7
    go_wp2
    go_ret
    exact ⟨rfl, HB0.out.trans (hB1.mono HB0.out.size)⟩
  have hd : decide ((1000 : Int) < (m.client.size : Int)) = false := by simp; omega
  by_cases g2 : 1000 < n.client.size
  · have hd2 : decide ((1000 : Int) < (n.client.size : Int)) = true := by simp; omega
    go_enter Try.func6, Try.ntmps6
    go_wp2_with fail
    rw [← HW0.out]
    refine (awake_any _).mono ?_
    rintro e w1 ⟨rfl, hB1⟩
    have c7 := (HX.out.later hB1).c7
    have d7 := (HN.out.later hB1).c7
    go_wp2
    go_ret
    exact ⟨rfl, HB0.out.trans (hB1.mono HB0.out.size)⟩
  have hd2 : decide ((1000 : Int) < (n.client.size : Int)) = false := by simp; omega
  by_cases g3 : b.length < 1
  · have hd3 : decide ((b.length : Int) < 1) = true := by simp; omega
    go_enter Try.func6, Try.ntmps6
    go_wp2_with fail
    rw [← HW0.out]
    refine (awake_any _).mono ?_
    rintro e w1 ⟨rfl, hB1⟩
    have c7 := (HX.out.later hB1).c7
    have d7 := (HN.out.later hB1).c7
    go_wp2
    go_ret
    exact ⟨rfl, HB0.out.trans (hB1.mono HB0.out.size)⟩
  have hd3 : decide ((b.length : Int) < 1) = false := by simp; omega
  by_cases g4 : 100 < b.length
  · have hd4 : decide ((100 : Int) < (b.length : Int)) = true := by simp; omega
    go_enter Try.func6, Try.ntmps6
    go_wp2_with fail
    rw [← HW0.out]
    refine (awake_any _).mono ?_
    rintro e w1 ⟨rfl, hB1⟩
    have c7 := (HX.out.later hB1).c7
    have d7 := (HN.out.later hB1).c7
    go_wp2
    go_ret
    exact ⟨rfl, HB0.out.trans (hB1.mono HB0.out.size)⟩
  have hd4 : decide ((100 : Int) < (b.length : Int)) = false := by simp; omega
  have hb1 : 1 ≤ b.length := by omega
  have hb100 : b.length ≤ 100 := by omega
  clear g1 g2 g3 g4
  go_enter Try.func6, Try.ntmps6
  go_wp2_with fail
  rw [← HW0.out]
  refine (awake_any _).mono ?_
  rintro e w1 ⟨rfl, hB1⟩
  have HX1 := Lib.hid (HX.out.later hB1)
  have HN1 := Lib.hid (HN.out.later hB1)
  have HB1 := Lib.hid (HB0.out.trans (hB1.mono HB0.out.size))
  have HY1 := Lib.hid (HY0.out.later hB1)
  obtain ⟨c0, c1, c2, c3, c4, c5, c6, c7, c8, c9, c10⟩ := HX1.out.all
  have d7 := HN1.out.c7
  clear hB1
  go_wp2_with fail
  refine (HE.out _).mono ?_
  rintro e w2 ⟨A2, k2, rfl, hby2, hk2, hB2⟩
  clear c0 c1 c2 c3 c4 c5 c6 c7 c8 c9 c10
  have HX2 := Lib.hid (HX1.out.later hB2)
  have HN2 := Lib.hid (HN1.out.later hB2)
  have HB2 := Lib.hid (HB1.out.trans (hB2.mono HB1.out.size))
  have HY2 := Lib.hid (HY1.out.later hB2)
  have HP2 := Lib.hid hby2
  have HK2 := Lib.hid hk2
  clear hB2 d7 hby2 hk2
  obtain ⟨c0, c1, c2, c3, c4, c5, c6, c7, c8, c9, c10⟩ := HN2.out.all
  go_wp2_with fail
  refine (HF.out _).mono ?_
  rintro e w3 ⟨A3, k3, rfl, hby3, hk3, hB3⟩
  clear c0 c1 c2 c3 c4 c5 c6 c7 c8 c9 c10
  have HX3 := Lib.hid (HX2.out.later hB3)
  have HN3 := Lib.hid (HN2.out.later hB3)
  have HB3 := Lib.hid (HB2.out.trans (hB3.mono HB2.out.size))
  have HY3 := Lib.hid (HY2.out.later hB3)
  have HP3 := Lib.hid (HP2.out.later hB3)
  have HQ3 := Lib.hid hby3
  clear hB3 hby3 hk3 HE HF
  cases hr : rightM m
  · have hR : encR m = ([], 1) := by simp [encR, hr]
    rw [hR]
    clear hr
    dsimp only
    go_wp2
    go_ret
    exact ⟨rfl, HB3.out⟩
  cases hs : rightM n
  · have hR : encR m = (encM m, 0) := by simp [encR, hr]
    have hS : encR n = ([], 1) := by simp [encR, hs]
    rw [hR, hS]
    clear hr hs
    dsimp only
    go_wp2
    go_ret
    exact ⟨rfl, HB3.out⟩
  have hR : encR m = (encM m, 0) := by simp [encR, hr]
  have hS : encR n = (encM n, 0) := by simp [encR, hs]
  simp only [hR] at HP3 HK2
  simp only [hS] at HQ3
  rw [hR, hS]
  dsimp only
  obtain ⟨t, ht⟩ : ∃ t, t = decide (m = n) := ⟨_, rfl⟩
  have hq1 : eqB m.kind m.life m.seen m.xid m.state (m.addr : Int) m.bind m.client m.pot m.at_ m.ok n.kind n.life n.seen n.xid n.state (n.addr : Int) n.bind n.client n.pot n.at_ n.ok = t := by rw [eqB_of, ht]
  have hq2 : (encM m == encM n) = t := by
    rw [ht, Bool.eq_iff_iff]
    simp only [beq_iff_eq, decide_eq_true_eq]
    exact ⟨fun h => enc_inj hr hs ha hna h, fun h => by rw [h]⟩
  have HM := Lib.hid (decM_more hr ha (r := b) (by intro h; rw [h] at hb1; simp at hb1))
  obtain ⟨hl9, hl63⟩ := enc_small hr
  have HLs := Lib.hid (decM_less hr ha (b := (encM m).take ((encM m).length - 1)) (r := (encM m).drop ((encM m).length - 1)) (by intro h; have := congrArg List.length h; simp at this; omega) (List.take_append_drop _ _).symm)
  clear hr hs hR hS ht
  obtain ⟨la, hla⟩ : ∃ la, la = encM m := ⟨_, rfl⟩
  obtain ⟨lb, hlb⟩ : ∃ lb, lb = encM n := ⟨_, rfl⟩
  rw [← hla] at HP3 HK2 HM HLs hq2 hl9 hl63 ⊢
  rw [← hlb] at HQ3 hq2 ⊢
  clear hla hlb
  have hrow := rowE w3
  have hbe := HP3.out.later ((Below.refl _ w3).alloc (Nat.le_refl _) (.cells #[] 5))
  have HHEAD := run_headB A2 la.length k2 ((la.length : Int) - 1) (by omega) (by have := HK2.out; omega)
  obtain ⟨p, hp⟩ : ∃ p, p = la.length - 1 := ⟨_, rfl⟩
  rw [show ((la.length : Int) - 1).toNat = p by omega] at HHEAD
  rw [← hp] at HLs
  have HPp := Lib.hid hp
  have hpl : p ≤ la.length := by omega
  clear hp
  go_wp2_with (first
    | (at_builtin; refine wpList_rowV rfl (.tmp 59) (.tmp 60) rfl rfl hrow la rfl rfl hbe 0 63 (by simp) hl63 (by omega) ?_; intro A5 k5 w5 l5 HL5 hl5 R5 _ _; have hbm := (HY3.out.later R5.low))
    | (at_builtin; refine wpList_rowV rfl (.tmp 61) (.tmp 62) rfl rfl R5 b rfl rfl hbm 63 100 (by omega) hb100 (by omega) ?_; intro A6 k6 w6 l6 HL6 hl6 R6 hk6 hby6))
  have hD6 := decode_any A6 k6 l6 w6 hby6 hk6
  have e6 : l6 = la ++ b := by rw [HL6.out, HL5.out]; simp
  rw [show decM l6 = (zeroM, 2) by rw [e6]; exact HM.out] at hD6
  have HD6 := Lib.hid hD6
  clear hD6 e6 hby6 hk6 hbm hbe hrow
  have HB6 := Lib.hid (HB3.out.trans (R6.low.mono HB3.out.size))
  have HR6 := Lib.hid R6.low
  clear R5 R6
  refine HD6.out.mono ?_
  rintro e w7 ⟨rfl, hB7⟩
  have HB7 := Lib.hid (HB6.out.trans (hB7.mono HB6.out.size))
  have hB37 := HR6.out.trans (hB7.mono HR6.out.size)
  obtain ⟨w8, hw8⟩ : ∃ w8, w8 = w7.alloc (mbox zeroM) := ⟨_, rfl⟩
  have hB8 : Below w7.heap.size w7 w8 := by rw [hw8]; exact (Below.refl _ _).alloc (Nat.le_refl _) _
  have HB38 := Lib.hid (hB37.trans (hB8.mono hB37.size))
  have HB8 := Lib.hid (HB7.out.trans (hB8.mono HB7.out.size))
  have HW8 := Lib.hid hw8
  clear hB7 hB37 hB8 hw8
  go_upto_region 9 with fail
  rw [← HW8.out]
  have hD9 := decode_any A2 k2 (la.take p) w8 ((HP3.out.later HB38.out).take p) (by rw [List.length_take]; have := HK2.out; omega)
  rw [HLs.out, show (la.take p).length = p by rw [List.length_take]; omega] at hD9
  have HD9 := Lib.hid hD9
  clear hD9
  go_wp2_with fail
  refine HD9.out.mono ?_
  rintro e w9 ⟨rfl, hB9⟩
  obtain ⟨w10, hw10⟩ : ∃ w10, w10 = w9.alloc (mbox zeroM) := ⟨_, rfl⟩
  have hB10 : Below w9.heap.size w9 w10 := by rw [hw10]; exact (Below.refl _ _).alloc (Nat.le_refl _) _
  have HB39 := Lib.hid (HB38.out.trans (hB9.mono HB38.out.size))
  have HB310 := Lib.hid (HB39.out.trans (hB10.mono HB39.out.size))
  have HB9 := Lib.hid (HB8.out.trans (hB9.mono HB8.out.size))
  have HB10 := Lib.hid (HB9.out.trans (hB10.mono HB9.out.size))
  have HW10 := Lib.hid hw10
  clear hB9 hB10 hw10
  have HX10 := Lib.hid (HX3.out.later HB310.out)
  have HN10 := Lib.hid (HN3.out.later HB310.out)
  have s1 := str_regrown k2 (HP3.out.later HB310.out)
  have s2 := str_regrown k3 (HQ3.out.later HB310.out)
  obtain ⟨q0, q1, q2, q3, q4, q5, q6, q7, q8, q9, q10⟩ := HX10.out.allR
  obtain ⟨r0, r1, r2, r3, r4, r5, r6, r7, r8, r9, r10⟩ := HN10.out.allR
  have ht : (t == t) = true := by simp
  clear HHEAD
  go_upto_region 10 with fail
  rw [← HW10.out]
  refine wp_region_quiet_below (by kernel_rfl) (by kernel_rfl) ?_
  repeat (quiet_step (fail))
  refine wpQuiet_nil ?_
  intro _ hw'
  obtain ⟨⟨dq, osq⟩, hw''⟩ := hw'
  subst hw''
  go_wp2
  go_ret
  exact ⟨by simp, HB10.out.trans ((below_regrown w10 dq osq).mono HB10.out.size)⟩
end Go.Proofs.Ytgdkioegadbnmaa
