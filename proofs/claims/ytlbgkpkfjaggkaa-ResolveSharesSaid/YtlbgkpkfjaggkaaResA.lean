/- resolve: fits; the document's fair. -/
import Derived.Test.YtlbgkpkfjaggkaaResM
import Derived.Test.YtlbgkpkfjaggkaaLeaR
import Derived.Test.YtlbgkpkfjaggkaaLeaQ
namespace Go.Proofs.Ytlbgkpkfjaggkaa
open Go.RowKit Go.Sort

set_option maxRecDepth 100000 in
set_option maxHeartbeats 2000000 in
theorem fits_any (l : LV) (m : MsgV) (w : World) : Calls Try.prog 13 #[l.v, m.v] w fun e w' => e = .returned (.bool (decide (Fits l m))) ∧ Below w.heap.size w w' := by
  have HR := Lib.hid (fun V => right_any l V)
  obtain ⟨w0, hw0, hl, hm, hb⟩ := lay2_facts w l m
  have HL := Lib.hid hl
  have HM := Lib.hid hm
  have HB := Lib.hid hb
  have HW0 := Lib.hid hw0
  clear hl hm hb hw0
  have HF : Hid (decide (Fits l m) = decide (m.kind = 2 ∧ m.addr = l.addr ∧ RightL l ∧ 0 ≤ m.bind ∧ m.bind ≤ 5 ∧ (HeldL m.bind → 1 ≤ m.client.size ∧ m.client.size ≤ 32))) := Lib.hid (by unfold Fits; rfl)
  generalize decide (Fits l m) = z at *
  obtain ⟨r, hr⟩ : ∃ r, r = decide (RightL l) := ⟨_, rfl⟩
  rw [← hr] at HR
  have HRR := Lib.hid hr
  clear hr
  obtain ⟨c0, c1, c2, c3, c4, c5, c6, c7⟩ := HL.out.all
  obtain ⟨m0, m1, m2, m3, m4, m5, m6, m7, m8, m9, m10⟩ := HM.out.all
  by_cases hk : m.kind = 2
  rotate_left
  · have t : (m.kind != 2) = true := by simpa using hk
    go_enter Try.func13, Try.ntmps13
    go_upto_region 1 with fail
    rw [← HW0.out]
    go_wp2
    go_ret
    refine ⟨?_, HB.out⟩
    rw [HF.out]
    simp [hk]
  have t : (m.kind != 2) = false := by simpa using hk
  by_cases ha : m.addr = l.addr
  rotate_left
  · have t2 : ((m.addr : Int) != (l.addr : Int)) = true := by simp; omega
    go_enter Try.func13, Try.ntmps13
    go_upto_region 1 with fail
    rw [← HW0.out]
    go_wp2
    go_ret
    refine ⟨?_, HB.out⟩
    rw [HF.out]
    simp [ha]
  have t2 : ((m.addr : Int) != (l.addr : Int)) = false := by simp; omega
  have HK := Lib.hid hk
  have HA := Lib.hid ha
  clear hk ha
  cases r
  · go_enter Try.func13, Try.ntmps13
    go_upto_region 1 with fail
    rw [← HW0.out]
    go_wp2_with fail
    refine (HR.out _).mono ?_
    rintro e w1 ⟨rfl, hb1⟩
    have HB1 := Lib.hid (HB.out.trans (hb1.mono HB.out.size))
    clear hb1
    go_wp2
    go_ret
    refine ⟨?_, HB1.out⟩
    have h := HRR.out
    have h' : ¬ RightL l := by simpa using h.symm
    rw [HF.out]
    simp [h']
  have HRI : Hid (RightL l) := Lib.hid (by have h := HRR.out; simpa using h.symm)
  have HF2 : Hid (z = decide (0 ≤ m.bind ∧ m.bind ≤ 5 ∧ (HeldL m.bind → 1 ≤ m.client.size ∧ m.client.size ≤ 32))) := Lib.hid (by rw [HF.out, decide_eq_decide]; exact ⟨fun h => h.2.2.2, fun h => ⟨HK.out, HA.out, HRI.out, h⟩⟩)
  clear HF HRR
  go_enter Try.func13, Try.ntmps13
  go_upto_region 1 with fail
  rw [← HW0.out]
  go_wp2_with fail
  refine (HR.out _).mono ?_
  rintro e w1 ⟨rfl, hb1⟩
  have HB1 := Lib.hid (HB.out.trans (hb1.mono HB.out.size))
  have HM1 := Lib.hid (HM.out.later hb1)
  clear hb1 c0 c1 c2 c3 c4 c5 c6 c7 m0 m1 m2 m3 m4 m5 m6 m7 m8 m9 m10
  obtain ⟨m0, m1, m2, m3, m4, m5, m6, m7, m8, m9, m10⟩ := HM1.out.all
  by_cases hh : m.bind = 2 ∨ m.bind = 3 ∨ m.bind = 4
  · have HF3 : Hid (z = decide (1 ≤ m.client.size ∧ m.client.size ≤ 32)) := Lib.hid (by
      rw [HF2.out, decide_eq_decide]
      exact ⟨fun h => h.2.2 hh, fun h => ⟨by omega, by omega, fun _ => h⟩⟩)
    by_cases h1 : 1 ≤ m.client.size
    · have d : decide ((1 : Int) ≤ (m.client.size : Int)) = true := by simp; omega
      have HF4 : Hid (z = decide ((m.client.size : Int) ≤ 32)) := Lib.hid (by rw [HF3.out, decide_eq_decide]; omega)
      clear h1
      rcases hh with hb | hb | hb
      · have t0 : (m.bind == 2) = true := by rw [hb]; rfl
        clear hb
        go_wp2
        go_ret
        rw [HF4.out]
        exact ⟨rfl, HB1.out⟩
      · have t0 : (m.bind == 2) = false := by rw [hb]; rfl
        have t1 : (m.bind == 3) = true := by rw [hb]; rfl
        clear hb
        go_wp2
        go_ret
        rw [HF4.out]
        exact ⟨rfl, HB1.out⟩
      · have t0 : (m.bind == 2) = false := by rw [hb]; rfl
        have t1 : (m.bind == 3) = false := by rw [hb]; rfl
        have t3 : (m.bind == 4) = true := by rw [hb]; rfl
        clear hb
        go_wp2
        go_ret
        rw [HF4.out]
        exact ⟨rfl, HB1.out⟩
    · have d : decide ((1 : Int) ≤ (m.client.size : Int)) = false := by simp; omega
      have HF4 : Hid (z = false) := Lib.hid (by rw [HF3.out, decide_eq_false_iff_not]; omega)
      clear h1
      rcases hh with hb | hb | hb
      · have t0 : (m.bind == 2) = true := by rw [hb]; rfl
        clear hb
        go_wp2
        go_ret
        rw [HF4.out]
        exact ⟨rfl, HB1.out⟩
      · have t0 : (m.bind == 2) = false := by rw [hb]; rfl
        have t1 : (m.bind == 3) = true := by rw [hb]; rfl
        clear hb
        go_wp2
        go_ret
        rw [HF4.out]
        exact ⟨rfl, HB1.out⟩
      · have t0 : (m.bind == 2) = false := by rw [hb]; rfl
        have t1 : (m.bind == 3) = false := by rw [hb]; rfl
        have t3 : (m.bind == 4) = true := by rw [hb]; rfl
        clear hb
        go_wp2
        go_ret
        rw [HF4.out]
        exact ⟨rfl, HB1.out⟩
  · have t0 : (m.bind == 2) = false := by simp; omega
    have t1 : (m.bind == 3) = false := by simp; omega
    have t3 : (m.bind == 4) = false := by simp; omega
    have HN := Lib.hid hh
    clear hh
    by_cases h0 : m.bind = 0 ∨ m.bind = 1 ∨ m.bind = 5
    · have HF4 : Hid (z = true) := Lib.hid (by
        rw [HF2.out, decide_eq_true_eq]
        exact ⟨by omega, by omega, fun h => absurd h HN.out⟩)
      rcases h0 with hb | hb | hb
      · have s0 : (m.bind == 0) = true := by rw [hb]; rfl
        clear hb
        go_wp2
        go_ret
        rw [HF4.out]
        exact ⟨rfl, HB1.out⟩
      · have s0 : (m.bind == 0) = false := by rw [hb]; rfl
        have s1 : (m.bind == 1) = true := by rw [hb]; rfl
        clear hb
        go_wp2
        go_ret
        rw [HF4.out]
        exact ⟨rfl, HB1.out⟩
      · have s0 : (m.bind == 0) = false := by rw [hb]; rfl
        have s1 : (m.bind == 1) = false := by rw [hb]; rfl
        have s2 : (m.bind == 5) = true := by rw [hb]; rfl
        clear hb
        go_wp2
        go_ret
        rw [HF4.out]
        exact ⟨rfl, HB1.out⟩
    · have s0 : (m.bind == 0) = false := by simp; omega
      have s1 : (m.bind == 1) = false := by simp; omega
      have s2 : (m.bind == 5) = false := by simp; omega
      have HF4 : Hid (z = false) := Lib.hid (by
        rw [HF2.out, decide_eq_false_iff_not]
        have := HN.out
        omega)
      clear h0
      go_wp2
      go_ret
      rw [HF4.out]
      exact ⟨rfl, HB1.out⟩

set_option maxRecDepth 100000 in
set_option maxHeartbeats 2000000 in
theorem fair_any (l : LV) (m : MsgV) (w : World) : Calls Try.prog 20 #[l.v, m.v] w fun e w' => e = .returned (.bool (decide (Fits l m))) ∧ Below w.heap.size w w' := by
  have HR := Lib.hid (fun V => rright_any l V)
  have HH := Lib.hid (fun V => held_any m.bind V)
  obtain ⟨w0, hw0, hl, hm, hb⟩ := lay2_facts w l m
  have HL := Lib.hid hl
  have HM := Lib.hid hm
  have HB := Lib.hid hb
  have HW0 := Lib.hid hw0
  clear hl hm hb hw0
  have HF : Hid (decide (Fits l m) = decide (m.kind = 2 ∧ m.addr = l.addr ∧ RightL l ∧ 0 ≤ m.bind ∧ m.bind ≤ 5 ∧ (HeldL m.bind → 1 ≤ m.client.size ∧ m.client.size ≤ 32))) := Lib.hid (by unfold Fits; rfl)
  generalize decide (Fits l m) = z at *
  obtain ⟨r, hr⟩ : ∃ r, r = decide (RightL l) := ⟨_, rfl⟩
  rw [← hr] at HR
  have HRR := Lib.hid hr
  obtain ⟨hd, hhd⟩ : ∃ hd, hd = decide (HeldL m.bind) := ⟨_, rfl⟩
  rw [← hhd] at HH
  have HHD := Lib.hid hhd
  clear hr hhd
  obtain ⟨c0, c1, c2, c3, c4, c5, c6, c7⟩ := HL.out.all
  go_enter Try.func20, Try.ntmps20
  go_upto_region 1 with fail
  rw [← HW0.out]
  go_wp2_with fail
  refine (HR.out _).mono ?_
  rintro e w1 ⟨rfl, hb1⟩
  have HB1 := Lib.hid (HB.out.trans (hb1.mono HB.out.size))
  have HM1 := Lib.hid (HM.out.later hb1)
  have HL1 := Lib.hid (HL.out.later hb1)
  clear hb1 c0 c1 c2 c3 c4 c5 c6 c7 HB HM HL
  obtain ⟨c0, c1, c2, c3, c4, c5, c6, c7⟩ := HL1.out.all
  obtain ⟨m0, m1, m2, m3, m4, m5, m6, m7, m8, m9, m10⟩ := HM1.out.all
  cases r
  · go_wp2
    go_ret
    refine ⟨?_, HB1.out⟩
    have h := HRR.out
    have h' : ¬ RightL l := by simpa using h.symm
    rw [HF.out]
    simp [h']
  have HRI : Hid (RightL l) := Lib.hid (by have h := HRR.out; simpa using h.symm)
  by_cases hk : m.kind = 2
  rotate_left
  · have t : (m.kind != 2) = true := by simpa using hk
    go_wp2
    go_ret
    refine ⟨?_, HB1.out⟩
    rw [HF.out]
    simp [hk]
  have t : (m.kind != 2) = false := by simpa using hk
  by_cases ha : m.addr = l.addr
  rotate_left
  · have t2 : ((m.addr : Int) != (l.addr : Int)) = true := by simp; omega
    go_wp2
    go_ret
    refine ⟨?_, HB1.out⟩
    rw [HF.out]
    simp [ha]
  have t2 : ((m.addr : Int) != (l.addr : Int)) = false := by simp; omega
  have HF2 : Hid (z = decide (0 ≤ m.bind ∧ m.bind ≤ 5 ∧ (HeldL m.bind → 1 ≤ m.client.size ∧ m.client.size ≤ 32))) := Lib.hid (by rw [HF.out, decide_eq_decide]; exact ⟨fun h => h.2.2.2, fun h => ⟨hk, ha, HRI.out, h⟩⟩)
  clear hk ha HF HRR
  cases t3 : decide (m.bind < 0)
  rotate_left
  · go_wp2
    go_ret
    refine ⟨?_, HB1.out⟩
    rw [HF2.out]
    have h : m.bind < 0 := by simpa using t3
    rw [decide_eq_false (fun x : 0 ≤ m.bind ∧ _ => absurd x.1 (by omega))]
    rfl
  cases t4 : decide (5 < m.bind)
  rotate_left
  · go_wp2
    go_ret
    refine ⟨?_, HB1.out⟩
    rw [HF2.out]
    have h : 5 < m.bind := by simpa using t4
    rw [decide_eq_false (fun x : 0 ≤ m.bind ∧ m.bind ≤ 5 ∧ _ => absurd x.2.1 (by omega))]
    rfl
  have HF3 : Hid (z = decide (HeldL m.bind → 1 ≤ m.client.size ∧ m.client.size ≤ 32)) := Lib.hid (by
    rw [HF2.out, decide_eq_decide]
    have h3 : ¬ m.bind < 0 := by simpa using t3
    have h4 : ¬ 5 < m.bind := by simpa using t4
    exact ⟨fun h => h.2.2, fun h => ⟨by omega, by omega, h⟩⟩)
  clear HF2
  go_upto_region 4 with fail
  go_wp2_with fail
  refine (HH.out _).mono ?_
  rintro e w' ⟨rfl, rfl⟩
  cases hd
  · go_wp2
    go_ret
    refine ⟨?_, HB1.out⟩
    have h := HHD.out
    have h' : ¬ HeldL m.bind := by simpa using h.symm
    rw [HF3.out]
    simp [h']
  · have HF4 : Hid (z = decide (1 ≤ m.client.size ∧ m.client.size ≤ 32)) := Lib.hid (by
      have h := HHD.out
      have h' : HeldL m.bind := by simpa using h.symm
      rw [HF3.out, decide_eq_decide]
      exact ⟨fun x => x h', fun x _ => x⟩)
    by_cases h1 : 1 ≤ m.client.size
    · have d : decide ((1 : Int) ≤ (m.client.size : Int)) = true := by simp; omega
      have HF5 : Hid (z = decide ((m.client.size : Int) ≤ 32)) := Lib.hid (by rw [HF4.out, decide_eq_decide]; omega)
      clear h1
      go_wp2
      go_ret
      rw [HF5.out]
      exact ⟨rfl, HB1.out⟩
    · have d : decide ((1 : Int) ≤ (m.client.size : Int)) = false := by simp; omega
      have HF5 : Hid (z = false) := Lib.hid (by rw [HF4.out, decide_eq_false_iff_not]; omega)
      clear h1
      go_wp2
      go_ret
      rw [HF5.out]
      exact ⟨rfl, HB1.out⟩
end Go.Proofs.Ytlbgkpkfjaggkaa
