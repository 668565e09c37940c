/- A message that is old: the program's test and the document's. -/
import Derived.Test.YtfikdocpcepmmaaConA
namespace Go.Proofs.Ytfikdocpcepmmaa
open Go.RowKit Go.Sort

theorem old_h0 {c : ConV} {m : MsgV} (hk : m.kind = 1) (h : m.life < c.known) : c.old m = true := by unfold ConV.old; rw [if_pos hk, decide_eq_true h]; rfl
theorem old_h1 {c : ConV} {m : MsgV} (hk : m.kind = 1) (h : ¬ m.life < c.known) (he : m.life = c.known) : c.old m = decide (m.xid ≤ c.heard) := by unfold ConV.old; rw [if_pos hk, decide_eq_false h, he]; simp
theorem old_h2 {c : ConV} {m : MsgV} (hk : m.kind = 1) (h : ¬ m.life < c.known) (he : ¬ m.life = c.known) : c.old m = false := by unfold ConV.old; rw [if_pos hk, decide_eq_false h, beq_eq_false_iff_ne.2 he]; rfl
theorem old_n0 {c : ConV} {m : MsgV} (hk : ¬ m.kind = 1) (he : ¬ m.life = c.known) : c.old m = true := by unfold ConV.old; rw [if_neg hk]; simp [he]
theorem old_n1 {c : ConV} {m : MsgV} (hk : ¬ m.kind = 1) (_ : m.life = c.known) (hs : ¬ m.seen = c.life) : c.old m = true := by unfold ConV.old; rw [if_neg hk]; simp [hs]
theorem old_n2 {c : ConV} {m : MsgV} (hk : ¬ m.kind = 1) (he : m.life = c.known) (hs : m.seen = c.life) : c.old m = !c.up := by unfold ConV.old; rw [if_neg hk]; simp [he, hs]

set_option maxRecDepth 100000 in
set_option maxHeartbeats 2000000 in
theorem pold_any {w : World} {g : Nat} {c : ConV} (m : MsgV) (h : PAt w g c) : Calls Try.prog 24 #[ptrV g, m.v] w fun e w' => e = .returned (.bool (c.old m)) ∧ Below w.heap.size w w' := by
  obtain ⟨w1, hw1⟩ : ∃ w1, w1 = w.alloc (mbox m) := ⟨_, rfl⟩
  have hB1 : Below w.heap.size w w1 := by rw [hw1]; exact (Below.refl _ _).alloc (Nat.le_refl _) _
  have HM : Hid (MBox w1 w.heap.size m) := Lib.hid (by rw [hw1]; exact MBox.new w m)
  have HP := Lib.hid (CAt.later h hB1)
  have HB := Lib.hid hB1
  have HW1 := Lib.hid hw1
  obtain ⟨c0, c1, c2, c3, c4, c5, c6⟩ := PAt.all HP.out
  have m0 := HM.out.c0
  have m1 := HM.out.c1
  have m2 := HM.out.c2
  have m3 := HM.out.c3
  obtain ⟨o, ho⟩ : ∃ o, o = c.old m := ⟨_, rfl⟩
  rw [← ho]
  have HO := Lib.hid ho
  clear hw1 hB1 h ho
  obtain ⟨life, known, said, heard, s, at_, up⟩ := c
  obtain ⟨kind, mlife, seen, xid, state, addr, bind, client, pot, mat, ok⟩ := m
  simp only at c0 c1 c2 c3 c4 c5 c6 m0 m1 m2 m3
  go_enter Try.func24, Try.ntmps24
  go_upto_region 1 with fail
  rw [← HW1.out]
  by_cases hk : kind = 1
  · have bk : (kind != 1) = false := by simp [hk]
    by_cases hl : mlife < known
    · have bl : decide (mlife < known) = true := by simpa using hl
      have HI : Hid (o = true) := Lib.hid (HO.out.trans (old_h0 hk hl))
      clear HO hk hl
      go_wp2_with fail
      all_goals try go_quiet (fail)
      all_goals try go_wp2_with fail
      all_goals try go_quiet (fail)
      all_goals go_wp2
      go_ret
      rw [HI.out]
      exact ⟨rfl, HB.out.trans ⟨rfl, rfl, rfl, Nat.le_refl _, fun _ _ => rfl⟩⟩
    · have bl : decide (mlife < known) = false := by simpa using hl
      by_cases he : mlife = known
      · have be : (mlife == known) = true := by simp [he]
        have HI : Hid (o = decide (xid ≤ heard)) := Lib.hid (HO.out.trans (old_h1 hk hl he))
        clear HO hk hl he
        go_wp2_with fail
        all_goals try go_quiet (fail)
        all_goals try go_wp2_with fail
        all_goals try go_quiet (fail)
        all_goals go_wp2
        go_ret
        rw [HI.out]
        exact ⟨rfl, HB.out.trans ⟨rfl, rfl, rfl, Nat.le_refl _, fun _ _ => rfl⟩⟩
      · have be : (mlife == known) = false := by simp [he]
        have HI : Hid (o = false) := Lib.hid (HO.out.trans (old_h2 hk hl he))
        clear HO hk hl he
        go_wp2_with fail
        all_goals try go_quiet (fail)
        all_goals try go_wp2_with fail
        all_goals try go_quiet (fail)
        all_goals go_wp2
        go_ret
        rw [HI.out]
        exact ⟨rfl, HB.out.trans ⟨rfl, rfl, rfl, Nat.le_refl _, fun _ _ => rfl⟩⟩
  · have bk : (kind != 1) = true := by simpa using hk
    by_cases he : mlife = known
    · have be : (mlife != known) = false := by simp [he]
      have bl : decide (mlife < known) = false := by simp; omega
      by_cases hs : seen = life
      · have bs : (seen != life) = false := by simp [hs]
        have HI : Hid (o = !up) := Lib.hid (HO.out.trans (old_n2 hk he hs))
        clear HO hk he hs
        go_wp2_with fail
        all_goals try go_quiet (fail)
        all_goals try go_wp2_with fail
        all_goals try go_quiet (fail)
        all_goals go_wp2
        go_ret
        rw [HI.out]
        exact ⟨rfl, HB.out.trans ⟨rfl, rfl, rfl, Nat.le_refl _, fun _ _ => rfl⟩⟩
      · have bs : (seen != life) = true := by simpa using hs
        have HI : Hid (o = true) := Lib.hid (HO.out.trans (old_n1 hk he hs))
        clear HO hk he hs
        go_wp2_with fail
        all_goals try go_quiet (fail)
        all_goals try go_wp2_with fail
        all_goals try go_quiet (fail)
        all_goals go_wp2
        go_ret
        rw [HI.out]
        exact ⟨rfl, HB.out.trans ⟨rfl, rfl, rfl, Nat.le_refl _, fun _ _ => rfl⟩⟩
    · have be : (mlife != known) = true := by simpa using he
      have HI : Hid (o = true) := Lib.hid (HO.out.trans (old_n0 hk he))
      clear HO hk he
      go_wp2_with fail
      all_goals try go_quiet (fail)
      all_goals try go_wp2_with fail
      all_goals try go_quiet (fail)
      all_goals go_wp2
      go_ret
      rw [HI.out]
      exact ⟨rfl, HB.out.trans ⟨rfl, rfl, rfl, Nat.le_refl _, fun _ _ => rfl⟩⟩

set_option maxRecDepth 100000 in
set_option maxHeartbeats 2000000 in
theorem rold_any {w : World} {g : Nat} {c : ConV} (m : MsgV) (h : RAt w g c) : Calls Try.prog 26 #[ptrV g, m.v] w fun e w' => e = .returned (.bool (c.old m)) ∧ Below w.heap.size w w' := by
  obtain ⟨w1, hw1⟩ : ∃ w1, w1 = w.alloc (mbox m) := ⟨_, rfl⟩
  have hB1 : Below w.heap.size w w1 := by rw [hw1]; exact (Below.refl _ _).alloc (Nat.le_refl _) _
  have HM : Hid (MBox w1 w.heap.size m) := Lib.hid (by rw [hw1]; exact MBox.new w m)
  have HP := Lib.hid (CAt.later h hB1)
  have HB := Lib.hid hB1
  have HW1 := Lib.hid hw1
  obtain ⟨c0, c1, c2, c3, c4, c5, c6⟩ := RAt.all HP.out
  have m0 := HM.out.c0
  have m1 := HM.out.c1
  have m2 := HM.out.c2
  have m3 := HM.out.c3
  obtain ⟨o, ho⟩ : ∃ o, o = c.old m := ⟨_, rfl⟩
  rw [← ho]
  have HO := Lib.hid ho
  clear hw1 hB1 h ho
  obtain ⟨life, known, said, heard, s, at_, up⟩ := c
  obtain ⟨kind, mlife, seen, xid, state, addr, bind, client, pot, mat, ok⟩ := m
  simp only at c0 c1 c2 c3 c4 c5 c6 m0 m1 m2 m3
  go_enter Try.func26, Try.ntmps26
  go_upto_region 1 with fail
  rw [← HW1.out]
  by_cases hk : kind = 1
  · have bk : (kind != 1) = false := by simp [hk]
    by_cases hl : mlife < known
    · have bl : decide (mlife < known) = true := by simpa using hl
      have HI : Hid (o = true) := Lib.hid (HO.out.trans (old_h0 hk hl))
      clear HO hk hl
      go_wp2_with fail
      all_goals try go_quiet (fail)
      all_goals try go_wp2_with fail
      all_goals try go_quiet (fail)
      all_goals go_wp2
      go_ret
      rw [HI.out]
      exact ⟨rfl, HB.out.trans ⟨rfl, rfl, rfl, Nat.le_refl _, fun _ _ => rfl⟩⟩
    · have bl : decide (mlife < known) = false := by simpa using hl
      by_cases he : mlife = known
      · have be : (mlife == known) = true := by simp [he]
        have HI : Hid (o = decide (xid ≤ heard)) := Lib.hid (HO.out.trans (old_h1 hk hl he))
        clear HO hk hl he
        go_wp2_with fail
        all_goals try go_quiet (fail)
        all_goals try go_wp2_with fail
        all_goals try go_quiet (fail)
        all_goals go_wp2
        go_ret
        rw [HI.out]
        exact ⟨rfl, HB.out.trans ⟨rfl, rfl, rfl, Nat.le_refl _, fun _ _ => rfl⟩⟩
      · have be : (mlife == known) = false := by simp [he]
        have HI : Hid (o = false) := Lib.hid (HO.out.trans (old_h2 hk hl he))
        clear HO hk hl he
        go_wp2_with fail
        all_goals try go_quiet (fail)
        all_goals try go_wp2_with fail
        all_goals try go_quiet (fail)
        all_goals go_wp2
        go_ret
        rw [HI.out]
        exact ⟨rfl, HB.out.trans ⟨rfl, rfl, rfl, Nat.le_refl _, fun _ _ => rfl⟩⟩
  · have bk : (kind != 1) = true := by simpa using hk
    by_cases he : mlife = known
    · have be : (mlife != known) = false := by simp [he]
      have bl : decide (mlife < known) = false := by simp; omega
      by_cases hs : seen = life
      · have bs : (seen != life) = false := by simp [hs]
        have HI : Hid (o = !up) := Lib.hid (HO.out.trans (old_n2 hk he hs))
        clear HO hk he hs
        go_wp2_with fail
        all_goals try go_quiet (fail)
        all_goals try go_wp2_with fail
        all_goals try go_quiet (fail)
        all_goals go_wp2
        go_ret
        rw [HI.out]
        exact ⟨rfl, HB.out.trans ⟨rfl, rfl, rfl, Nat.le_refl _, fun _ _ => rfl⟩⟩
      · have bs : (seen != life) = true := by simpa using hs
        have HI : Hid (o = true) := Lib.hid (HO.out.trans (old_n1 hk he hs))
        clear HO hk he hs
        go_wp2_with fail
        all_goals try go_quiet (fail)
        all_goals try go_wp2_with fail
        all_goals try go_quiet (fail)
        all_goals go_wp2
        go_ret
        rw [HI.out]
        exact ⟨rfl, HB.out.trans ⟨rfl, rfl, rfl, Nat.le_refl _, fun _ _ => rfl⟩⟩
    · have be : (mlife != known) = true := by simpa using he
      have HI : Hid (o = true) := Lib.hid (HO.out.trans (old_n0 hk he))
      by_cases hl : mlife < known
      · have bl : decide (mlife < known) = true := by simpa using hl
        clear HO hk he hl
        go_wp2_with fail
        all_goals try go_quiet (fail)
        all_goals try go_wp2_with fail
        all_goals try go_quiet (fail)
        all_goals go_wp2
        go_ret
        rw [HI.out]
        exact ⟨rfl, HB.out.trans ⟨rfl, rfl, rfl, Nat.le_refl _, fun _ _ => rfl⟩⟩
      · have bl : decide (mlife < known) = false := by simpa using hl
        clear HO hk he hl
        go_wp2_with fail
        all_goals try go_quiet (fail)
        all_goals try go_wp2_with fail
        all_goals try go_quiet (fail)
        all_goals go_wp2
        go_ret
        rw [HI.out]
        exact ⟨rfl, HB.out.trans ⟨rfl, rfl, rfl, Nat.le_refl _, fun _ _ => rfl⟩⟩
end Go.Proofs.Ytfikdocpcepmmaa
