/- The law ResolveAgree, walked. -/
import Derived.Test.YtlbgkpkfjaggkaaResV
namespace Go.Proofs.Ytlbgkpkfjaggkaa
open Go.RowKit Go.Sort
attribute [local go_sem ↓] run_eqlL run_neqL run_guardL

/-- Where one server tells what it knows, and that is so, the other one has it bound alike. -/
theorem tk_agree {l o : LV} {m : MsgV} {ov rc rel : Bool} (ho : RightL o) (h3 : o.bind ≠ 3) (h4 : o.bind ≠ 4) (hb : m.bind = o.bind) (hc : m.client = o.cb) (hp : m.pot = max o.unt o.told) (ha : o.bind = 0 ∨ o.bind = 1 → m.at_ = o.ver) (h : (tkV l m ov rc rel).2 = true) :
    ((o.bind = 0 ∨ o.bind = 1) → o.ver ≤ l.ver → (tkV l m ov rc rel).1 = l) ∧ (((o.bind = 0 ∨ o.bind = 1) → l.ver < o.ver) → (tkV l m ov rc rel).1.bind = o.bind ∧ (tkV l m ov rc rel).1.cb = o.cb ∧ (o.bind = 2 → o.unt ≤ (tkV l m ov rc rel).1.told) ∧ ((o.bind = 0 ∨ o.bind = 1) → (tkV l m ov rc rel).1.ver = o.ver)) := by
  have hu := ho.unt
  have ht := ho.told
  have hv := ho.ver
  unfold TimeL at hu ht hv
  have hm : o.unt ≤ moV m.pot := by rw [hp]; unfold moV limV; omega
  rcases tk_cases l m ov rc rel with ⟨_, e⟩ | ⟨_, h2, e⟩ | ⟨_, h2, _⟩ | ⟨_, h2, _⟩ | ⟨_, h2, e⟩ | ⟨_, h2, e⟩
  · rw [e] at h; cases h
  · rw [hb] at h2
    refine ⟨fun hx => by omega, fun _ => ?_⟩
    rcases act_cases l m (ov && rc) with ⟨e1, e2, e3⟩ | ⟨_, _, e3⟩ | ⟨_, _, e3⟩
    · rw [e, e3]
      refine ⟨by show l.bind = o.bind; omega, by show l.cb = o.cb; rw [e2, hc], fun _ => ?_, fun hx => by omega⟩
      show o.unt ≤ max l.told (moV m.pot)
      omega
    · rw [e, e3] at h; cases h
    · rw [e, e3]
      refine ⟨by show 2 = o.bind; omega, by rw [newL_cb, hc], fun _ => hm, fun hx => by omega⟩
  · exact absurd (hb ▸ h2) h3
  · exact absurd (hb ▸ h2) h4
  · rw [hb] at h2
    refine ⟨fun hx => by omega, fun _ => ?_⟩
    rw [e]
    refine ⟨by show 5 = o.bind; omega, ?_, fun hx => by omega, fun hx => by omega⟩
    refine (LV.cb_eq _ _).2 ?_
    rw [(ho.bare (by unfold HeldL; omega)).1]
    rfl
  · rw [hb] at h2
    have ha := ha h2
    rcases sha_cases l m (ov && rc) with ⟨_, e3⟩ | ⟨_, e1, e2, e3⟩ | ⟨_, e1, e3⟩
    · rw [e, e3] at h; cases h
    · rw [e, e3]
      refine ⟨fun _ hx => by omega, fun _ => ⟨hb, ?_, fun hx => by omega, fun _ => ha⟩⟩
      refine (LV.cb_eq _ _).2 ?_
      rw [(ho.bare (by unfold HeldL; omega)).1]
      rfl
    · rw [e, e3]
      exact ⟨fun _ _ => rfl, fun hx => by have := hx h2; omega⟩

set_option maxRecDepth 100000 in
set_option maxHeartbeats 4000000 in
theorem law_ragree (l o : LV) (s now g : Int) (w : World) : Calls Try.prog 6 #[l.v, o.v, r3v s now g] w fun e w' => e = .returned (.bool true) ∧ Below w.heap.size w w' := by
  have HA := Lib.hid (fun V => reawake_any V)
  have HI := Lib.hid (fun V => rright_any o V)
  have HT := Lib.hid (fun (mm : MsgV) V => take_any l mm s now g V)
  have HAG := Lib.hid (fun (mm : MsgV) => @tk_agree l o mm (pastV now l.unt 0) (recB s) (relB l mm g))
  obtain ⟨k, hk⟩ : ∃ k, k = max o.unt o.told := ⟨_, rfl⟩
  have hmx : (if o.unt < o.told then o.told else o.unt) = k := by split <;> omega
  have HK := Lib.hid hk
  clear hk
  obtain ⟨r, hr⟩ : ∃ r, r = decide (RightL o) := ⟨_, rfl⟩
  rw [← hr] at HI
  have HRR := Lib.hid hr
  clear hr
  obtain ⟨w0, hw0⟩ : ∃ w0, w0 = ((w.alloc (lbox l)).alloc (lbox o)).alloc (r3box 29 s now g) := ⟨_, rfl⟩
  have HL : Hid (LBox w0 w.heap.size l) := Lib.hid (by rw [hw0]; exact ((LBox.new w l).alloc _).alloc _)
  have HO : Hid (LBox w0 (w.heap.size + 1) o) := Lib.hid (by rw [hw0]; have h := LBox.new (w.alloc (lbox l)) o; rw [show (w.alloc (lbox l)).heap.size = w.heap.size + 1 by simp] at h; exact h.alloc _)
  have HC : Hid (R3 29 w0 (w.heap.size + 1 + 1) s now g) := Lib.hid (by rw [hw0]; have h := R3.new ((w.alloc (lbox l)).alloc (lbox o)) 29 s now g; rw [show ((w.alloc (lbox l)).alloc (lbox o)).heap.size = w.heap.size + 1 + 1 by simp] at h; exact h)
  have HB : Hid (Below w.heap.size w w0) := Lib.hid (by rw [hw0]; exact (((Below.refl _ _).alloc (Nat.le_refl _) _).alloc (by simp) _).alloc (by simp; omega) _)
  have HW0 := Lib.hid hw0
  clear hw0
  go_enter Try.func6, Try.ntmps6
  go_upto_region 1 with fail
  rw [← HW0.out]
  go_wp2_with fail
  refine (HA.out _).mono ?_
  rintro e w1 ⟨rfl, hb1⟩
  have HL1 := Lib.hid (HL.out.later hb1)
  have HO1 := Lib.hid (HO.out.later hb1)
  have HC1 := Lib.hid (HC.out.later hb1)
  have HB1 := Lib.hid (HB.out.trans (hb1.mono HB.out.size))
  clear hb1 HL HO HC HB
  obtain ⟨o0, o1, o2, o3, o4, o5, o6, o7⟩ := HO1.out.all
  go_wp2_with fail
  refine (HI.out _).mono ?_
  rintro e w2 ⟨rfl, hb1⟩
  have HL2 := Lib.hid (HL1.out.later hb1)
  have HO2 := Lib.hid (HO1.out.later hb1)
  have HC2 := Lib.hid (HC1.out.later hb1)
  have HB2 := Lib.hid (HB1.out.trans (hb1.mono HB1.out.size))
  clear hb1 HL1 HO1 HC1 HB1
  clear o0 o1 o2 o3 o4 o5 o6 o7
  obtain ⟨o0, o1, o2, o3, o4, o5, o6, o7⟩ := HO2.out.all
  cases r
  · go_wp2
    go_ret
    exact ⟨rfl, HB2.out⟩
  have HRI : Hid (RightL o) := Lib.hid (by have h := HRR.out; simpa using h.symm)
  clear HRR
  cases t3 : (o.bind == 3)
  rotate_left
  · go_wp2
    go_ret
    exact ⟨rfl, HB2.out⟩
  cases t4 : (o.bind == 4)
  rotate_left
  · go_wp2
    go_ret
    exact ⟨rfl, HB2.out⟩
  have HNL : Hid (w.heap.size ≠ w2.heap.size) := Lib.hid (Nat.ne_of_lt HL2.out.lt)
  have HNO : Hid (w.heap.size + 1 ≠ w2.heap.size) := Lib.hid (Nat.ne_of_lt HO2.out.lt)
  have HNC : Hid (w.heap.size + 1 + 1 ≠ w2.heap.size) := Lib.hid (Nat.ne_of_lt HC2.out.lt)
  have HNB : Hid (w.heap.size ≤ w2.heap.size) := Lib.hid HB2.out.size
  obtain ⟨mm, hmm⟩ : ∃ mm : MsgV, mm = ⟨2, 0, 0, 0, 0, o.addr, o.bind, o.cb, k, o.at_, false⟩ := ⟨_, rfl⟩
  obtain ⟨w3, hw⟩ : ∃ w3, w3 = w2.alloc (mbox mm) := ⟨_, rfl⟩
  have HL3 := Lib.hid (HL2.out.alloc (mbox mm))
  rw [← hw] at HL3
  have HO3 := Lib.hid (HO2.out.alloc (mbox mm))
  rw [← hw] at HO3
  have HC3 := Lib.hid (HC2.out.alloc (mbox mm))
  rw [← hw] at HC3
  have HM3 := Lib.hid (MBox.new w2 mm)
  rw [← hw] at HM3
  have HB3 := Lib.hid (HB2.out.alloc HB2.out.size (mbox mm))
  rw [← hw] at HB3
  have HWA : Hid (w3 = w2.alloc (.cells #[.int .i64 2, .int .i64 0, .int .i64 0, .int .i64 0, .int .i64 0, .int .u32 (o.addr : Int), .int .i64 o.bind, .string o.cb, .int .i64 k, .int .i64 o.at_, .bool false] 27)) := Lib.hid (by rw [hw, hmm])
  have HMM := Lib.hid hmm
  clear hmm hw HL2 HO2 HC2 HB2
  go_upto_region 6 with fail
  rw [← HWA.out]
  clear o0 o1 o2 o3 o4 o5 o6 o7
  generalize w2.heap.size = gm at *
  clear HWA
  cases s0 : (o.bind == 0)
  rotate_left
  · have HBR : Hid (o.bind = 0 ∨ o.bind = 1) := Lib.hid (.inl (by simpa using s0))
    obtain ⟨o0, o1, o2, o3, o4, o5, o6, o7⟩ := HO3.out.all
    have mc := HM3.out.c9
    have mf := HM3.out.free 9
    obtain ⟨w4, hw⟩ : ∃ w4, w4 = w3.setCell ⟨gm, 9, none⟩ (.int .i64 o.ver) := ⟨_, rfl⟩
    obtain ⟨m2, hm2⟩ : ∃ m2 : MsgV, m2 = ⟨2, 0, 0, 0, 0, o.addr, o.bind, o.cb, k, o.ver, false⟩ := ⟨_, rfl⟩
    have HL4 : Hid (LBox w4 w.heap.size l) := Lib.hid (by rw [hw]; exact HL3.out.other (a := ⟨gm, 9, none⟩) HNL.out _)
    have HO4 : Hid (LBox w4 (w.heap.size + 1) o) := Lib.hid (by rw [hw]; exact HO3.out.other (a := ⟨gm, 9, none⟩) HNO.out _)
    have HC4 : Hid (R3 29 w4 (w.heap.size + 1 + 1) s now g) := Lib.hid (by rw [hw]; exact HC3.out.other (p := ⟨gm, 9, none⟩) HNC.out _)
    have HM4 : Hid (MBox w4 gm m2) := Lib.hid (by rw [hw]; refine HM3.out.store 9 _ ?_; rw [HMM.out, hm2]; rfl)
    have HB4 : Hid (Below w.heap.size w w4) := Lib.hid (by rw [hw]; exact HB3.out.setCell (p := ⟨gm, 9, none⟩) HNB.out _)
    have HWS := Lib.hid hw
    have HM2 := Lib.hid hm2
    clear hw hm2 HL3 HO3 HC3 HM3 HB3
    go_upto_region 9 with fail
    rw [← HWS.out]
    clear HWS mc mf
    clear o0 o1 o2 o3 o4 o5 o6 o7
    have HTM := Lib.hid (HT.out m2)
    have HAM := Lib.hid (HAG.out m2 HRI.out (by simpa using t3) (by simpa using t4) (by rw [HM2.out]) (by rw [HM2.out]) (by rw [HM2.out]; exact HK.out) (fun _ => by rw [HM2.out]))
    obtain ⟨r, hr⟩ : ∃ r, r = takeV l m2 s now g := ⟨_, rfl⟩
    rw [← hr] at HTM
    have HAM2 : Hid (r.2 = true → ((o.bind = 0 ∨ o.bind = 1) → o.ver ≤ l.ver → r.1 = l) ∧ (((o.bind = 0 ∨ o.bind = 1) → l.ver < o.ver) → r.1.bind = o.bind ∧ r.1.cb = o.cb ∧ (o.bind = 2 → o.unt ≤ r.1.told) ∧ ((o.bind = 0 ∨ o.bind = 1) → r.1.ver = o.ver))) := Lib.hid (by rw [hr]; exact HAM.out)
    clear hr HAM HAG HT
    obtain ⟨q, z⟩ := r
    obtain ⟨c0, c1, c2, c3, c4, c5, c6, c7⟩ := HL4.out.all
    obtain ⟨m0, m1, m2, m3, m4, m5, m6, m7, m8, m9, m10⟩ := HM4.out.all
    obtain ⟨a0, a1, a2⟩ := HC4.out.all
    go_wp2_with fail
    refine (HTM.out _).mono ?_
    rintro e w5 ⟨rfl, hb1⟩
    have HL5 := Lib.hid (HL4.out.later hb1)
    have HO5 := Lib.hid (HO4.out.later hb1)
    have HC5 := Lib.hid (HC4.out.later hb1)
    have HM5 := Lib.hid (HM4.out.later hb1)
    have HB5 := Lib.hid (HB4.out.trans (hb1.mono HB4.out.size))
    clear hb1 HL4 HO4 HC4 HM4 HB4
    clear c0 c1 c2 c3 c4 c5 c6 c7
    clear m0 m1 m2 m3 m4 m5 m6 m7 m8 m9 m10
    clear a0 a1 a2
    obtain ⟨w6, hw⟩ : ∃ w6, w6 = w5.alloc (lbox q) := ⟨_, rfl⟩
    have HL6 := Lib.hid (HL5.out.alloc (lbox q))
    rw [← hw] at HL6
    have HO6 := Lib.hid (HO5.out.alloc (lbox q))
    rw [← hw] at HO6
    have HC6 := Lib.hid (HC5.out.alloc (lbox q))
    rw [← hw] at HC6
    have HM6 := Lib.hid (HM5.out.alloc (lbox q))
    rw [← hw] at HM6
    have HX6 := Lib.hid (LBox.new w5 q)
    rw [← hw] at HX6
    have HB6 := Lib.hid (HB5.out.alloc HB5.out.size (lbox q))
    rw [← hw] at HB6
    have HWA := Lib.hid hw
    clear hw HL5 HO5 HC5 HM5 HB5
    go_upto_region 10 with fail
    rw [← HWA.out]
    generalize w5.heap.size = gx at *
    clear HWA
    obtain ⟨c0, c1, c2, c3, c4, c5, c6, c7⟩ := HL6.out.all
    obtain ⟨o0, o1, o2, o3, o4, o5, o6, o7⟩ := HO6.out.all
    obtain ⟨x0, x1, x2, x3, x4, x5, x6, x7⟩ := HX6.out.all
    cases z
    · go_wp2
      go_ret
      exact ⟨rfl, HB6.out⟩
    cases tv : decide (o.ver ≤ l.ver)
    rotate_left
    · have hself : eqL (q.addr : Int) q.bind q.cb q.unt q.acked q.told q.at_ q.ver (l.addr : Int) l.bind l.cb l.unt l.acked l.told l.at_ l.ver = true := by
        rw [eqL_of]
        exact decide_eq_true ((HAM2.out rfl).1 HBR.out (of_decide_eq_true tv))
      go_wp2
      go_ret
      exact ⟨rfl, HB6.out⟩
    obtain ⟨k1, k2, k3, k4⟩ : (q.bind == o.bind) = true ∧ (q.cb.toList == o.cb.toList) = true ∧ (o.bind != 2) = true ∧ (q.ver == o.ver) = true := by
      obtain ⟨e1, e2, _, e4⟩ := (HAM2.out rfl).2 (fun _ => by have := of_decide_eq_false tv; omega)
      have hbr := HBR.out
      have e4 := e4 hbr
      have e1 : q.bind = o.bind := e1
      have e4 : q.ver = o.ver := e4
      exact ⟨by simpa using e1, cb_eq e2, by simp; omega, by simpa using e4⟩
    go_wp2
    go_ret
    exact ⟨rfl, HB6.out⟩
  cases s1 : (o.bind == 1)
  rotate_left
  · have HBR : Hid (o.bind = 0 ∨ o.bind = 1) := Lib.hid (.inr (by simpa using s1))
    obtain ⟨o0, o1, o2, o3, o4, o5, o6, o7⟩ := HO3.out.all
    have mc := HM3.out.c9
    have mf := HM3.out.free 9
    obtain ⟨w4, hw⟩ : ∃ w4, w4 = w3.setCell ⟨gm, 9, none⟩ (.int .i64 o.ver) := ⟨_, rfl⟩
    obtain ⟨m2, hm2⟩ : ∃ m2 : MsgV, m2 = ⟨2, 0, 0, 0, 0, o.addr, o.bind, o.cb, k, o.ver, false⟩ := ⟨_, rfl⟩
    have HL4 : Hid (LBox w4 w.heap.size l) := Lib.hid (by rw [hw]; exact HL3.out.other (a := ⟨gm, 9, none⟩) HNL.out _)
    have HO4 : Hid (LBox w4 (w.heap.size + 1) o) := Lib.hid (by rw [hw]; exact HO3.out.other (a := ⟨gm, 9, none⟩) HNO.out _)
    have HC4 : Hid (R3 29 w4 (w.heap.size + 1 + 1) s now g) := Lib.hid (by rw [hw]; exact HC3.out.other (p := ⟨gm, 9, none⟩) HNC.out _)
    have HM4 : Hid (MBox w4 gm m2) := Lib.hid (by rw [hw]; refine HM3.out.store 9 _ ?_; rw [HMM.out, hm2]; rfl)
    have HB4 : Hid (Below w.heap.size w w4) := Lib.hid (by rw [hw]; exact HB3.out.setCell (p := ⟨gm, 9, none⟩) HNB.out _)
    have HWS := Lib.hid hw
    have HM2 := Lib.hid hm2
    clear hw hm2 HL3 HO3 HC3 HM3 HB3
    go_upto_region 9 with fail
    rw [← HWS.out]
    clear HWS mc mf
    clear o0 o1 o2 o3 o4 o5 o6 o7
    have HTM := Lib.hid (HT.out m2)
    have HAM := Lib.hid (HAG.out m2 HRI.out (by simpa using t3) (by simpa using t4) (by rw [HM2.out]) (by rw [HM2.out]) (by rw [HM2.out]; exact HK.out) (fun _ => by rw [HM2.out]))
    obtain ⟨r, hr⟩ : ∃ r, r = takeV l m2 s now g := ⟨_, rfl⟩
    rw [← hr] at HTM
    have HAM2 : Hid (r.2 = true → ((o.bind = 0 ∨ o.bind = 1) → o.ver ≤ l.ver → r.1 = l) ∧ (((o.bind = 0 ∨ o.bind = 1) → l.ver < o.ver) → r.1.bind = o.bind ∧ r.1.cb = o.cb ∧ (o.bind = 2 → o.unt ≤ r.1.told) ∧ ((o.bind = 0 ∨ o.bind = 1) → r.1.ver = o.ver))) := Lib.hid (by rw [hr]; exact HAM.out)
    clear hr HAM HAG HT
    obtain ⟨q, z⟩ := r
    obtain ⟨c0, c1, c2, c3, c4, c5, c6, c7⟩ := HL4.out.all
    obtain ⟨m0, m1, m2, m3, m4, m5, m6, m7, m8, m9, m10⟩ := HM4.out.all
    obtain ⟨a0, a1, a2⟩ := HC4.out.all
    go_wp2_with fail
    refine (HTM.out _).mono ?_
    rintro e w5 ⟨rfl, hb1⟩
    have HL5 := Lib.hid (HL4.out.later hb1)
    have HO5 := Lib.hid (HO4.out.later hb1)
    have HC5 := Lib.hid (HC4.out.later hb1)
    have HM5 := Lib.hid (HM4.out.later hb1)
    have HB5 := Lib.hid (HB4.out.trans (hb1.mono HB4.out.size))
    clear hb1 HL4 HO4 HC4 HM4 HB4
    clear c0 c1 c2 c3 c4 c5 c6 c7
    clear m0 m1 m2 m3 m4 m5 m6 m7 m8 m9 m10
    clear a0 a1 a2
    obtain ⟨w6, hw⟩ : ∃ w6, w6 = w5.alloc (lbox q) := ⟨_, rfl⟩
    have HL6 := Lib.hid (HL5.out.alloc (lbox q))
    rw [← hw] at HL6
    have HO6 := Lib.hid (HO5.out.alloc (lbox q))
    rw [← hw] at HO6
    have HC6 := Lib.hid (HC5.out.alloc (lbox q))
    rw [← hw] at HC6
    have HM6 := Lib.hid (HM5.out.alloc (lbox q))
    rw [← hw] at HM6
    have HX6 := Lib.hid (LBox.new w5 q)
    rw [← hw] at HX6
    have HB6 := Lib.hid (HB5.out.alloc HB5.out.size (lbox q))
    rw [← hw] at HB6
    have HWA := Lib.hid hw
    clear hw HL5 HO5 HC5 HM5 HB5
    go_upto_region 10 with fail
    rw [← HWA.out]
    generalize w5.heap.size = gx at *
    clear HWA
    obtain ⟨c0, c1, c2, c3, c4, c5, c6, c7⟩ := HL6.out.all
    obtain ⟨o0, o1, o2, o3, o4, o5, o6, o7⟩ := HO6.out.all
    obtain ⟨x0, x1, x2, x3, x4, x5, x6, x7⟩ := HX6.out.all
    cases z
    · go_wp2
      go_ret
      exact ⟨rfl, HB6.out⟩
    cases tv : decide (o.ver ≤ l.ver)
    rotate_left
    · have hself : eqL (q.addr : Int) q.bind q.cb q.unt q.acked q.told q.at_ q.ver (l.addr : Int) l.bind l.cb l.unt l.acked l.told l.at_ l.ver = true := by
        rw [eqL_of]
        exact decide_eq_true ((HAM2.out rfl).1 HBR.out (of_decide_eq_true tv))
      go_wp2
      go_ret
      exact ⟨rfl, HB6.out⟩
    obtain ⟨k1, k2, k3, k4⟩ : (q.bind == o.bind) = true ∧ (q.cb.toList == o.cb.toList) = true ∧ (o.bind != 2) = true ∧ (q.ver == o.ver) = true := by
      obtain ⟨e1, e2, _, e4⟩ := (HAM2.out rfl).2 (fun _ => by have := of_decide_eq_false tv; omega)
      have hbr := HBR.out
      have e4 := e4 hbr
      have e1 : q.bind = o.bind := e1
      have e4 : q.ver = o.ver := e4
      exact ⟨by simpa using e1, cb_eq e2, by simp; omega, by simpa using e4⟩
    go_wp2
    go_ret
    exact ⟨rfl, HB6.out⟩
  have HTM := Lib.hid (HT.out mm)
  have HAM := Lib.hid (HAG.out mm HRI.out (by simpa using t3) (by simpa using t4) (by rw [HMM.out]) (by rw [HMM.out]) (by rw [HMM.out]; exact HK.out) (fun h => by exfalso; have h0 : ¬ o.bind = 0 := (by simpa using s0); have h1 : ¬ o.bind = 1 := (by simpa using s1); omega))
  obtain ⟨o0, o1, o2, o3, o4, o5, o6, o7⟩ := HO3.out.all
  obtain ⟨r, hr⟩ : ∃ r, r = takeV l mm s now g := ⟨_, rfl⟩
  rw [← hr] at HTM
  have HAM2 : Hid (r.2 = true → ((o.bind = 0 ∨ o.bind = 1) → o.ver ≤ l.ver → r.1 = l) ∧ (((o.bind = 0 ∨ o.bind = 1) → l.ver < o.ver) → r.1.bind = o.bind ∧ r.1.cb = o.cb ∧ (o.bind = 2 → o.unt ≤ r.1.told) ∧ ((o.bind = 0 ∨ o.bind = 1) → r.1.ver = o.ver))) := Lib.hid (by rw [hr]; exact HAM.out)
  clear hr HAM HAG HT
  obtain ⟨q, z⟩ := r
  obtain ⟨c0, c1, c2, c3, c4, c5, c6, c7⟩ := HL3.out.all
  obtain ⟨m0, m1, m2, m3, m4, m5, m6, m7, m8, m9, m10⟩ := HM3.out.all
  obtain ⟨a0, a1, a2⟩ := HC3.out.all
  go_wp2_with fail
  refine (HTM.out _).mono ?_
  rintro e w4 ⟨rfl, hb1⟩
  have HL4 := Lib.hid (HL3.out.later hb1)
  have HO4 := Lib.hid (HO3.out.later hb1)
  have HC4 := Lib.hid (HC3.out.later hb1)
  have HM4 := Lib.hid (HM3.out.later hb1)
  have HB4 := Lib.hid (HB3.out.trans (hb1.mono HB3.out.size))
  clear hb1 HL3 HO3 HC3 HM3 HB3
  clear c0 c1 c2 c3 c4 c5 c6 c7
  clear m0 m1 m2 m3 m4 m5 m6 m7 m8 m9 m10
  clear a0 a1 a2
  clear o0 o1 o2 o3 o4 o5 o6 o7
  obtain ⟨w5, hw⟩ : ∃ w5, w5 = w4.alloc (lbox q) := ⟨_, rfl⟩
  have HL5 := Lib.hid (HL4.out.alloc (lbox q))
  rw [← hw] at HL5
  have HO5 := Lib.hid (HO4.out.alloc (lbox q))
  rw [← hw] at HO5
  have HC5 := Lib.hid (HC4.out.alloc (lbox q))
  rw [← hw] at HC5
  have HM5 := Lib.hid (HM4.out.alloc (lbox q))
  rw [← hw] at HM5
  have HX5 := Lib.hid (LBox.new w4 q)
  rw [← hw] at HX5
  have HB5 := Lib.hid (HB4.out.alloc HB4.out.size (lbox q))
  rw [← hw] at HB5
  have HWA := Lib.hid hw
  clear hw HL4 HO4 HC4 HM4 HB4
  go_upto_region 10 with fail
  rw [← HWA.out]
  generalize w4.heap.size = gx at *
  clear HWA
  obtain ⟨c0, c1, c2, c3, c4, c5, c6, c7⟩ := HL5.out.all
  obtain ⟨o0, o1, o2, o3, o4, o5, o6, o7⟩ := HO5.out.all
  obtain ⟨x0, x1, x2, x3, x4, x5, x6, x7⟩ := HX5.out.all
  cases z
  · go_wp2
    go_ret
    exact ⟨rfl, HB5.out⟩
  obtain ⟨k1, k2, k3⟩ : (q.bind == o.bind) = true ∧ (q.cb.toList == o.cb.toList) = true ∧ (o.bind = 2 → o.unt ≤ q.told) := by
    have h0 : ¬ o.bind = 0 := by simpa using s0
    have h1 : ¬ o.bind = 1 := by simpa using s1
    obtain ⟨e1, e2, e3, _⟩ := (HAM2.out rfl).2 (fun h => by omega)
    have e1 : q.bind = o.bind := e1
    exact ⟨by simpa using e1, cb_eq e2, e3⟩
  cases t2 : (o.bind != 2)
  rotate_left
  · clear k3
    go_wp2
    go_ret
    exact ⟨rfl, HB5.out⟩
  have k4 : decide (o.unt ≤ q.told) = true := decide_eq_true (k3 (by simpa using t2))
  clear k3
  go_wp2
  go_ret
  exact ⟨rfl, HB5.out⟩
end Go.Proofs.Ytlbgkpkfjaggkaa
