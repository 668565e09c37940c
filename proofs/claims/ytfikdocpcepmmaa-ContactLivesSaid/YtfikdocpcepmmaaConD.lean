/- The program's contact: Take. -/
import Derived.Test.YtfikdocpcepmmaaConC
namespace Go.Proofs.Ytfikdocpcepmmaa
open Go.RowKit Go.Sort

theorem way_one (w : World) (g i : Nat) (u : Value) : Way (One g) w (One g) (w.setCell ⟨g, i, none⟩ u) := way_set w g i u rfl
theorem take_t {c : ConV} {m : MsgV} {now : Int} (h : inTime now = false) : c.take m now = (c, false, 1) := by unfold ConV.take; rw [h, if_neg (by decide)]
theorem take_r {c : ConV} {m : MsgV} {now : Int} (h : inTime now = true) (hr : rightM m = false) : c.take m now = (c, false, 2) := by unfold ConV.take; rw [h, if_pos rfl, hr, if_neg (by decide)]
theorem take_o {c : ConV} {m : MsgV} {now : Int} (h : inTime now = true) (hr : rightM m = true) (ho : c.old m = true) : c.take m now = (c, false, 8) := by unfold ConV.take; rw [h, if_pos rfl, hr, if_pos rfl, ho, if_pos rfl]
theorem take_n {c : ConV} {m : MsgV} {now : Int} (h : inTime now = true) (hr : rightM m = true) (ho : c.old m = false) (hk : ¬ m.kind = 1) : c.take m now = ({ c with at_ := now }, false, 0) := by unfold ConV.take; rw [h, if_pos rfl, hr, if_pos rfl, ho, if_neg (by decide), if_neg hk]
theorem take_h {c : ConV} {m : MsgV} {now : Int} (h : inTime now = true) (hr : rightM m = true) (ho : c.old m = false) (hk : m.kind = 1) : c.take m now = (c.hears m now, decide (c.known < m.life), 0) := by unfold ConV.take; rw [h, if_pos rfl, hr, if_pos rfl, ho, if_neg (by decide), if_pos hk]

set_option maxRecDepth 100000 in
set_option maxHeartbeats 4000000 in
theorem ptake_any {w : World} {g : Nat} {c : ConV} (m : MsgV) (now : Int) (ha : m.addr < 4294967296) (h : PAt w g c) : Calls Try.prog 16 #[ptrV g, m.v, .int .i64 now] w fun e w' => e = .returned (.tuple #[.bool (c.take m now).2.1, .int .i64 (c.take m now).2.2]) ∧ PAt w' g (c.take m now).1 ∧ Way (One g) w (One g) w' := by
  obtain ⟨w1, hw1⟩ : ∃ w1, w1 = w.alloc (mbox m) := ⟨_, rfl⟩
  have hB1 : Below w.heap.size w w1 := by rw [hw1]; exact (Below.refl _ _).alloc (Nat.le_refl _) _
  have HM1 : Hid (MBox w1 w.heap.size m) := Lib.hid (by rw [hw1]; exact MBox.new w m)
  have HP1 := Lib.hid (CAt.later h hB1)
  have HB1 := Lib.hid (Way.of_below (Q := One g) hB1)
  have HGN := Lib.hid (ne_pm HP1.out HM1.out)
  have HT := Lib.hid (moment_any now w1)
  have HR := Lib.hid (fun W => right_any m ha W)
  have HO := Lib.hid (fun W (hp : PAt W g c) => pold_any m hp)
  have HW1 := Lib.hid hw1
  obtain ⟨T, hT⟩ : ∃ T, T = c.take m now := ⟨_, rfl⟩
  rw [← hT]
  have HTT := Lib.hid hT
  clear hw1 hB1 h ha hT
  go_enter Try.func16, Try.ntmps16
  go_upto_region 1 with fail
  rw [← HW1.out]
  cases ht : inTime now
  · rw [ht] at HT
    have HI := Lib.hid (HTT.out.trans (take_t ht))
    clear ht
    go_wp2_with fail
    refine HT.out.mono ?_
    rintro e w' ⟨rfl, rfl⟩
    go_wp2
    go_ret2
    rw [HI.out]
    exact ⟨rfl, HP1.out, HB1.out⟩
  rw [ht] at HT
  have HTI := Lib.hid ht
  clear ht
  go_wp2_with fail
  refine HT.out.mono ?_
  rintro e w' ⟨rfl, rfl⟩
  obtain ⟨m0, m1, m2, m3, m4, m5, m6, m7, m8, m9, m10⟩ := HM1.out.all
  go_wp2_with fail
  refine (HR.out _).mono ?_
  rintro e w2 ⟨rfl, hb2⟩
  have HP2 := Lib.hid (CAt.later HP1.out hb2)
  have HM2 := Lib.hid (HM1.out.later hb2)
  have HB2 := Lib.hid (HB1.out.trans (Way.of_below hb2))
  clear hb2 m0 m1 m2 m3 m4 m5 m6 m7 m8 m9 m10
  cases hr : rightM m
  · have HI := Lib.hid (HTT.out.trans (take_r HTI.out hr))
    clear hr
    go_wp2
    go_ret2
    rw [HI.out]
    exact ⟨rfl, HP2.out, HB2.out⟩
  have HRI := Lib.hid hr
  clear hr
  obtain ⟨m0, m1, m2, m3, m4, m5, m6, m7, m8, m9, m10⟩ := HM2.out.all
  go_wp2_with fail
  refine (HO.out _ HP2.out).mono ?_
  rintro e w3 ⟨rfl, hb3⟩
  have HP3 := Lib.hid (CAt.later HP2.out hb3)
  have HM3 := Lib.hid (HM2.out.later hb3)
  have HB3 := Lib.hid (HB2.out.trans (Way.of_below hb3))
  clear hb3 m0 m1 m2 m3 m4 m5 m6 m7 m8 m9 m10
  cases ho : c.old m
  rotate_left
  · have HI := Lib.hid (HTT.out.trans (take_o HTI.out HRI.out ho))
    clear ho
    go_wp2
    go_ret2
    rw [HI.out]
    exact ⟨rfl, HP3.out, HB3.out⟩
  have HOI := Lib.hid ho
  obtain ⟨w4, hw4⟩ : ∃ w4, w4 = w3.setCell ⟨g, 5, none⟩ (.int .i64 now) := ⟨_, rfl⟩
  have HP4 : Hid (PAt w4 g { c with at_ := now }) := Lib.hid (by rw [hw4]; exact HP3.out.store 5 _)
  have HM4 : Hid (MBox w4 w.heap.size m) := Lib.hid (by rw [hw4]; exact HM3.out.other (fun e => HGN.out e.symm) _)
  have HB4 : Hid (Way (One g) w (One g) w4) := Lib.hid (by rw [hw4]; exact HB3.out.trans (way_set w3 g 5 _ rfl))
  have HW4 := Lib.hid hw4
  have c5 := CAt.at_ HP3.out 5
  have f5 := HP3.out.free 5
  clear ho hw4
  go_upto_region 8 with fail
  rw [← HW4.out]
  clear c5 f5
  obtain ⟨m0, m1, m2, m3, m4, m5, m6, m7, m8, m9, m10⟩ := HM4.out.all
  obtain ⟨c0, c1, c2, c3, c4, c5, c6⟩ := PAt.all HP4.out
  by_cases hk : m.kind = 1
  rotate_left
  · have HI := Lib.hid (HTT.out.trans (take_n HTI.out HRI.out HOI.out hk))
    have bk : (m.kind != 1) = true := by simpa using hk
    clear hk
    go_wp2
    go_ret2
    rw [HI.out]
    exact ⟨rfl, HP4.out, HB4.out⟩
  have HI := Lib.hid (HTT.out.trans (take_h HTI.out HRI.out HOI.out hk))
  have bk : (m.kind != 1) = false := by simp [hk]
  obtain ⟨fr, hfr⟩ : ∃ fr, fr = decide (c.known < m.life) := ⟨_, rfl⟩
  have HFR := Lib.hid hfr
  obtain ⟨w6, hw6⟩ : ∃ w6, w6 = (fun n => (((w4.drewN n).setCell ⟨g, 0, none⟩ (.int .i64 m.life)).setCell ⟨g, 1, none⟩ (.int .i64 m.xid)).setCell ⟨g, 2, none⟩ (.int .i64 m.state)) := ⟨_, rfl⟩
  have HP6 : Hid (∀ n, PAt (w6 n) g ⟨c.life, m.life, c.said, m.xid, m.state, now, c.up⟩) := Lib.hid (by rw [hw6]; intro n; exact (((CAt.later HP4.out ⟨rfl, rfl, rfl, Nat.le_refl _, fun _ _ => rfl⟩ : PAt (w4.drewN n) g _).store 0 _).store 1 _).store 2 _)
  have HM6 : Hid (∀ n, MBox (w6 n) w.heap.size m) := Lib.hid (by rw [hw6]; intro n; exact (((HM4.out.drewN n).other (fun e => HGN.out e.symm) _).other (fun e => HGN.out e.symm) _).other (fun e => HGN.out e.symm) _)
  have HB6 : Hid (∀ n, Way (One g) w (One g) (w6 n)) := Lib.hid (by rw [hw6]; intro n; exact (((HB4.out.trans (Way.of_below ⟨rfl, rfl, rfl, Nat.le_refl _, fun _ _ => rfl⟩ : Way (One g) w4 (One g) (w4.drewN n))).trans (way_set _ g 0 _ rfl)).trans (way_set _ g 1 _ rfl)).trans (way_set _ g 2 _ rfl))
  have HW6 : Hid (∀ n, (((w4.drewN n).setCell ⟨g, 0, none⟩ (.int .i64 m.life)).setCell ⟨g, 1, none⟩ (.int .i64 m.xid)).setCell ⟨g, 2, none⟩ (.int .i64 m.state) = w6 n) := Lib.hid (by rw [hw6]; intro n; rfl)
  have f0 := HP4.out.free 0
  have f1 := HP4.out.free 1
  have f2 := HP4.out.free 2
  clear hk hfr hw6
  go_wp2_with fail
  go_quiet (fail)
  go_upto_region 12 with fail
  rw [HW6.out nq]
  clear c0 c1 c2 c3 c4 c5 c6 m0 m1 m2 m3 m4 m5 m6 m7 m8 m9 m10 f0 f1 f2
  have HP7 := Lib.hid (HP6.out nq)
  have HM7 := Lib.hid (HM6.out nq)
  have HB7 := Lib.hid (HB6.out nq)
  clear HP6 HM6 HB6 HW6
  generalize w6 nq = w7 at HP7 HM7 HB7 ⊢
  rw [← HFR.out]
  have m2 := HM7.out.c2
  have c3 := CAt.at_ HP7.out 3
  have c6 := CAt.at_ HP7.out 6
  have f6 := HP7.out.free 6
  simp at c3 c6
  by_cases hs : m.seen = c.life
  · have bs : (m.seen == c.life) = true := by simp [hs]
    have HE : Hid (T = (⟨c.life, m.life, c.said, m.xid, m.state, now, true⟩, fr, 0)) := Lib.hid (by rw [HI.out, HFR.out]; unfold ConV.hears; rw [bs]; rfl)
    clear hs
    go_region
    all_goals
      go_wp2
      go_ret2
      rw [HE.out]
      exact ⟨rfl, (HP7.out.store 6 _).drew, HB7.out.trans ((way_one w7 g 6 _).trans (Way.of_below ⟨rfl, rfl, rfl, Nat.le_refl _, fun _ _ => rfl⟩))⟩
  · have bs : (m.seen == c.life) = false := by simpa using hs
    have HE : Hid (T = (⟨c.life, m.life, c.said, m.xid, m.state, now, c.up && !fr⟩, fr, 0)) := Lib.hid (by rw [HI.out, HFR.out]; unfold ConV.hears; rw [bs]; rfl)
    clear hs
    cases hu : c.up
    · rw [hu] at c6 HE
      have HE : Hid (T = (⟨c.life, m.life, c.said, m.xid, m.state, now, false⟩, fr, 0)) := HE
      clear hu
      go_region
      all_goals
        go_wp2
        go_ret2
        rw [HE.out]
        exact ⟨rfl, (HP7.out.store 6 _).drew, HB7.out.trans ((way_one w7 g 6 _).trans (Way.of_below ⟨rfl, rfl, rfl, Nat.le_refl _, fun _ _ => rfl⟩))⟩
    · rw [hu] at c6 HE
      have HE : Hid (T = (⟨c.life, m.life, c.said, m.xid, m.state, now, !fr⟩, fr, 0)) := HE
      clear hu
      go_region
      all_goals
        go_wp2
        go_ret2
        rw [HE.out]
        exact ⟨rfl, (HP7.out.store 6 _).drew, HB7.out.trans ((way_one w7 g 6 _).trans (Way.of_below ⟨rfl, rfl, rfl, Nat.le_refl _, fun _ _ => rfl⟩))⟩
end Go.Proofs.Ytfikdocpcepmmaa
