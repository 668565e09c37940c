/- The document's contact: Tick, Take. -/
import Derived.Test.YtfikdocpcepmmaaConE
import Derived.Test.YtfikdocpcepmmaaMsgQ
namespace Go.Proofs.Ytfikdocpcepmmaa
open Go.RowKit Go.Sort

set_option maxRecDepth 100000 in
set_option maxHeartbeats 2000000 in
theorem rtick_any {w : World} {g : Nat} {c : ConV} (now : Int) (hok : c.Ok) (h : RAt w g c) : Calls Try.prog 20 #[ptrV g, .int .i64 now] w fun e w' => e = .returned (.tuple #[.bool (c.tick now).2.1, .int .i64 (c.tick now).2.2]) ∧ RAt w' g (c.tick now).1 ∧ Way (One g) w (One g) w' := by
  have ha0 := hok.a0
  have ha1 := hok.a1
  have HP := Lib.hid h
  obtain ⟨T, hT⟩ : ∃ T, T = c.tick now := ⟨_, rfl⟩
  rw [← hT]
  have hT' := hT
  unfold ConV.tick at hT'
  obtain ⟨c0, c1, c2, c3, c4, c5, c6⟩ := RAt.all HP.out
  have f6 := HP.out.free 6
  clear hT hok h
  go_enter Try.func20, Try.ntmps20
  cases ht : inTime now
  · rw [ht, if_neg (by decide)] at hT'
    have HT := Lib.hid hT'
    have hn : ¬ (0 ≤ now ∧ now ≤ 1099511627776) := fun e => by rw [(inTime_iff now).2 e] at ht; cases ht
    by_cases h1 : now < 0
    · clear hT' ht
      go_wp2
      go_ret2
      rw [HT.out]
      exact ⟨rfl, HP.out, Way.refl _ _⟩
    · have h2 : 1099511627776 < now := by omega
      clear hT' ht hn
      go_wp2
      go_ret2
      rw [HT.out]
      exact ⟨rfl, HP.out, Way.refl _ _⟩
  · obtain ⟨t1, t2⟩ := (inTime_iff now).1 ht
    rw [ht, if_pos rfl] at hT'
    cases hu : c.up
    · rw [hu] at hT' c6
      have HT : Hid (T = (c, false, 0)) := Lib.hid hT'
      clear hT' ht hu
      go_wp2
      go_ret2
      rw [HT.out]
      exact ⟨rfl, HP.out, Way.refl _ _⟩
    · rw [hu, Bool.true_and] at hT'
      rw [hu] at c6
      by_cases h6 : now - c.at_ < 6
      · rw [decide_eq_false (by omega), if_neg (by decide)] at hT'
        have HT : Hid (T = (c, false, 0)) := Lib.hid hT'
        clear hT' ht hu
        go_wp2
        go_ret2
        rw [HT.out]
        exact ⟨rfl, HP.out, Way.refl _ _⟩
      · rw [decide_eq_true (by omega), if_pos rfl] at hT'
        have HT : Hid (T = ({ c with up := false }, true, 0)) := Lib.hid hT'
        clear hT' ht hu
        go_wp2
        go_ret2
        rw [HT.out]
        exact ⟨rfl, HP.out.store 6 _, way_one w g 6 _⟩

set_option maxRecDepth 100000 in
set_option maxHeartbeats 4000000 in
theorem rtake_any {w : World} {g : Nat} {c : ConV} (m : MsgV) (now : Int) (h : RAt w g c) : Calls Try.prog 19 #[ptrV g, m.v, .int .i64 now] w fun e w' => e = .returned (.tuple #[.bool (c.take m now).2.1, .int .i64 (c.take m now).2.2]) ∧ RAt w' g (c.take m now).1 ∧ Way (One g) w (One g) w' := by
  obtain ⟨w1, hw1⟩ : ∃ w1, w1 = w.alloc (mbox m) := ⟨_, rfl⟩
  have hB1 : Below w.heap.size w w1 := by rw [hw1]; exact (Below.refl _ _).alloc (Nat.le_refl _) _
  have HM1 : Hid (MBox w1 w.heap.size m) := Lib.hid (by rw [hw1]; exact MBox.new w m)
  have HP1 := Lib.hid (CAt.later h hB1)
  have HB1 := Lib.hid (Way.of_below (Q := One g) hB1)
  have HGN := Lib.hid (ne_rm HP1.out HM1.out)
  have HR := Lib.hid (fun W => rright_any m W)
  have HO := Lib.hid (fun W (hp : RAt W g c) => rold_any m hp)
  have HW1 := Lib.hid hw1
  obtain ⟨T, hT⟩ : ∃ T, T = c.take m now := ⟨_, rfl⟩
  rw [← hT]
  have HTT := Lib.hid hT
  clear hw1 hB1 h hT
  go_enter Try.func19, Try.ntmps19
  go_upto_region 1 with fail
  rw [← HW1.out]
  cases ht : inTime now
  · have HI := Lib.hid (HTT.out.trans (take_t ht))
    have hn : ¬ (0 ≤ now ∧ now ≤ 1099511627776) := fun e => by rw [(inTime_iff now).2 e] at ht; cases ht
    by_cases h1 : now < 0
    · clear ht
      go_wp2
      go_ret2
      rw [HI.out]
      exact ⟨rfl, HP1.out, HB1.out⟩
    · have h2 : 1099511627776 < now := by omega
      clear ht hn
      go_wp2
      go_ret2
      rw [HI.out]
      exact ⟨rfl, HP1.out, HB1.out⟩
  obtain ⟨t1, t2⟩ := (inTime_iff now).1 ht
  have HTI := Lib.hid ht
  clear ht
  obtain ⟨m0, m1, m2, m3, m4, m5, m6, m7, m8, m9, m10⟩ := HM1.out.all
  go_wp2_with fail
  refine (HR.out _).mono ?_
  rintro e w2 ⟨rfl, hb2⟩
  have HP2 := Lib.hid (CAt.later HP1.out hb2)
  have HM2 := Lib.hid (HM1.out.later hb2)
  have HB2 := Lib.hid (HB1.out.trans (Way.of_below hb2))
  clear hb2 m0 m1 m2 m3 m4 m5 m6 m7 m8 m9 m10 t1 t2
  cases hr : rightM m
  · have HI := Lib.hid (HTT.out.trans (take_r HTI.out hr))
    clear hr
    go_wp2
    go_ret2
    rw [HI.out]
    exact ⟨rfl, HP2.out, HB2.out⟩
  have HRI := Lib.hid hr
  clear hr
  obtain ⟨m0, m1, m2, m3, m4, m5, m6, m7, m8, m9, m10⟩ := HM2.out.all
  go_wp2_with fail
  refine (HO.out _ HP2.out).mono ?_
  rintro e w3 ⟨rfl, hb3⟩
  have HP3 := Lib.hid (CAt.later HP2.out hb3)
  have HM3 := Lib.hid (HM2.out.later hb3)
  have HB3 := Lib.hid (HB2.out.trans (Way.of_below hb3))
  clear hb3 m0 m1 m2 m3 m4 m5 m6 m7 m8 m9 m10
  cases ho : c.old m
  rotate_left
  · have HI := Lib.hid (HTT.out.trans (take_o HTI.out HRI.out ho))
    clear ho
    go_wp2
    go_ret2
    rw [HI.out]
    exact ⟨rfl, HP3.out, HB3.out⟩
  have HOI := Lib.hid ho
  obtain ⟨w4, hw4⟩ : ∃ w4, w4 = w3.setCell ⟨g, 5, none⟩ (.int .i64 now) := ⟨_, rfl⟩
  have HP4 : Hid (RAt w4 g { c with at_ := now }) := Lib.hid (by rw [hw4]; exact HP3.out.store 5 _)
  have HM4 : Hid (MBox w4 w.heap.size m) := Lib.hid (by rw [hw4]; exact HM3.out.other (fun e => HGN.out e.symm) _)
  have HB4 : Hid (Way (One g) w (One g) w4) := Lib.hid (by rw [hw4]; exact HB3.out.trans (way_one w3 g 5 _))
  have HW4 := Lib.hid hw4
  have c5 := CAt.at_ HP3.out 5
  have f5 := HP3.out.free 5
  clear ho hw4
  go_upto_region 9 with fail
  rw [← HW4.out]
  clear c5 f5
  obtain ⟨m0, m1, m2, m3, m4, m5, m6, m7, m8, m9, m10⟩ := HM4.out.all
  obtain ⟨c0, c1, c2, c3, c4, c5, c6⟩ := RAt.all HP4.out
  by_cases hk : m.kind = 1
  rotate_left
  · have HI := Lib.hid (HTT.out.trans (take_n HTI.out HRI.out HOI.out hk))
    have bk : (m.kind != 1) = true := by simpa using hk
    clear hk
    go_wp2
    go_ret2
    rw [HI.out]
    exact ⟨rfl, HP4.out, HB4.out⟩
  have HI := Lib.hid (HTT.out.trans (take_h HTI.out HRI.out HOI.out hk))
  have bk : (m.kind != 1) = false := by simp [hk]
  obtain ⟨fr, hfr⟩ : ∃ fr, fr = decide (c.known < m.life) := ⟨_, rfl⟩
  have HFR := Lib.hid hfr
  obtain ⟨w6, hw6⟩ : ∃ w6, w6 = (fun n => (((w4.drewN n).setCell ⟨g, 1, none⟩ (.int .i64 m.life)).setCell ⟨g, 3, none⟩ (.int .i64 m.xid)).setCell ⟨g, 4, none⟩ (.int .i64 m.state)) := ⟨_, rfl⟩
  have HP6 : Hid (∀ n, RAt (w6 n) g ⟨c.life, m.life, c.said, m.xid, m.state, now, c.up⟩) := Lib.hid (by rw [hw6]; intro n; exact (((CAt.later HP4.out ⟨rfl, rfl, rfl, Nat.le_refl _, fun _ _ => rfl⟩ : RAt (w4.drewN n) g _).store 1 _).store 3 _).store 4 _)
  have HM6 : Hid (∀ n, MBox (w6 n) w.heap.size m) := Lib.hid (by rw [hw6]; intro n; exact (((HM4.out.drewN n).other (fun e => HGN.out e.symm) _).other (fun e => HGN.out e.symm) _).other (fun e => HGN.out e.symm) _)
  have HB6 : Hid (∀ n, Way (One g) w (One g) (w6 n)) := Lib.hid (by rw [hw6]; intro n; exact (((HB4.out.trans (Way.of_below ⟨rfl, rfl, rfl, Nat.le_refl _, fun _ _ => rfl⟩ : Way (One g) w4 (One g) (w4.drewN n))).trans (way_one _ g 1 _)).trans (way_one _ g 3 _)).trans (way_one _ g 4 _))
  have HW6 : Hid (∀ n, (((w4.drewN n).setCell ⟨g, 1, none⟩ (.int .i64 m.life)).setCell ⟨g, 3, none⟩ (.int .i64 m.xid)).setCell ⟨g, 4, none⟩ (.int .i64 m.state) = w6 n) := Lib.hid (by rw [hw6]; intro n; rfl)
  have f1 := HP4.out.free 1
  have f3 := HP4.out.free 3
  have f4 := HP4.out.free 4
  have hne : g ≠ w.heap.size := HGN.out
  have e3 : ∀ n, ((w4.drewN n).setCell ⟨g, 1, none⟩ (.int .i64 m.life)).cell? ⟨w.heap.size, 3, none⟩ = some (.int .i64 m.xid) := fun n => ((HM4.out.drewN n).other (fun e => HGN.out e.symm) _).c3
  have e4 : ∀ n, (((w4.drewN n).setCell ⟨g, 1, none⟩ (.int .i64 m.life)).setCell ⟨g, 3, none⟩ (.int .i64 m.xid)).cell? ⟨w.heap.size, 4, none⟩ = some (.int .i64 m.state) := fun n => (((HM4.out.drewN n).other (fun e => HGN.out e.symm) _).other (fun e => HGN.out e.symm) _).c4
  clear hk hfr hw6
  go_wp2_with fail
  go_quiet (fail)
  go_upto_region 15 with fail
  rw [HW6.out nq]
  clear c0 c1 c2 c3 c4 c5 c6 m0 m1 m2 m3 m4 m5 m6 m7 m8 m9 m10 f1 f3 f4 e3 e4 hne
  have HP7 := Lib.hid (HP6.out nq)
  have HM7 := Lib.hid (HM6.out nq)
  have HB7 := Lib.hid (HB6.out nq)
  clear HP6 HM6 HB6 HW6
  generalize w6 nq = w7 at HP7 HM7 HB7 ⊢
  rw [← HFR.out]
  have m2 := HM7.out.c2
  have c0 := CAt.at_ HP7.out 0
  have c6 := CAt.at_ HP7.out 6
  have f6 := HP7.out.free 6
  simp at c0 c6
  by_cases hs : m.seen = c.life
  · have bs : (m.seen == c.life) = true := by simp [hs]
    have HE : Hid (T = (⟨c.life, m.life, c.said, m.xid, m.state, now, true⟩, fr, 0)) := Lib.hid (by rw [HI.out, HFR.out]; unfold ConV.hears; rw [bs]; rfl)
    clear hs
    go_quiet (fail)
    go_wp2
    go_ret2
    rw [HE.out]
    exact ⟨rfl, (CAt.later HP7.out ⟨rfl, rfl, rfl, Nat.le_refl _, fun _ _ => rfl⟩ : RAt (w7.drewN _) g _).store 6 _, HB7.out.trans ((Way.of_below ⟨rfl, rfl, rfl, Nat.le_refl _, fun _ _ => rfl⟩ : Way (One g) w7 (One g) (w7.drewN _)).trans (way_one _ g 6 _))⟩
  · have bs : (m.seen == c.life) = false := by simpa using hs
    have HE : Hid (T = (⟨c.life, m.life, c.said, m.xid, m.state, now, c.up && !fr⟩, fr, 0)) := Lib.hid (by rw [HI.out, HFR.out]; unfold ConV.hears; rw [bs]; rfl)
    clear hs HFR HI
    cases fr
    · rw [Bool.not_false, Bool.and_true] at HE
      go_quiet (fail)
      go_wp2
      go_ret2
      rw [HE.out]
      exact ⟨rfl, (CAt.later HP7.out ⟨rfl, rfl, rfl, Nat.le_refl _, fun _ _ => rfl⟩ : RAt (w7.drewN _) g _), HB7.out.trans (Way.of_below ⟨rfl, rfl, rfl, Nat.le_refl _, fun _ _ => rfl⟩ : Way (One g) w7 (One g) (w7.drewN _))⟩
    · rw [Bool.not_true, Bool.and_false] at HE
      go_quiet (fail)
      go_wp2
      go_ret2
      rw [HE.out]
      exact ⟨rfl, (CAt.later HP7.out ⟨rfl, rfl, rfl, Nat.le_refl _, fun _ _ => rfl⟩ : RAt (w7.drewN _) g _).store 6 _, HB7.out.trans ((Way.of_below ⟨rfl, rfl, rfl, Nat.le_refl _, fun _ _ => rfl⟩ : Way (One g) w7 (One g) (w7.drewN _)).trans (way_one _ g 6 _))⟩
end Go.Proofs.Ytfikdocpcepmmaa
