/- The law ContactMeets. -/
import Derived.Test.YtfikdocpcepmmaaConW
import Derived.BigQuiet
namespace Go.Proofs.Ytfikdocpcepmmaa
open Go.RowKit Go.Sort

/-- The first one, and the second one, behind j rounds. -/
def meA (l0 l1 now : Int) : Nat → ConV
  | 0 => newC l0
  | j + 1 => ⟨l0, l1, (j : Int) + 1, (j : Int) + 1, 1, now, true⟩
def meB (l0 l1 now : Int) : Nat → ConV
  | 0 => newC l1
  | 1 => ⟨l1, l0, 1, 1, 1, now, false⟩
  | j + 2 => ⟨l1, l0, (j : Int) + 2, (j : Int) + 2, 1, now, true⟩
/-- What happens in a round. -/
structure MeetR (l0 l1 now : Int) (j : Nat) (A' B' : ConV) (X Y : MsgV) (f f' : Bool) : Prop where
  oka : (meA l0 l1 now j).Ok
  okb : B'.Ok
  xa : X.addr < 4294967296
  ya : Y.addr < 4294967296
  h1 : (meA l0 l1 now j).hello 1 = (A', X, 0)
  h2 : (meB l0 l1 now j).take X now = (B', f, 0)
  h3 : B'.hello 1 = (meB l0 l1 now (j + 1), Y, 0)
  h4 : A'.take Y now = (meA l0 l1 now (j + 1), f', 0)
theorem take_hm {c d : ConV} {n now : Int} (hn : 0 ≤ n ∧ n ≤ 8) (hs : 0 ≤ d.said ∧ d.said < 1073741824) (hl : 1 ≤ d.life ∧ d.life ≤ 536870912) (hk : 0 ≤ d.known ∧ d.known ≤ 536870912) (ht : 0 ≤ now ∧ now ≤ 1099511627776)
    (ho : c.known < d.life ∨ (c.known = d.life ∧ c.heard < d.said + 1)) : c.take (d.hm n) now = (c.hears (d.hm n) now, decide (c.known < d.life), 0) := by
  refine take_h ((inTime_iff now).2 ht) (hm_right hn hs hl hk) ?_ rfl
  rcases ho with h | ⟨h, h'⟩
  · exact old_h2 rfl (by show ¬ d.life < c.known; omega) (by show ¬ d.life = c.known; omega)
  · rw [old_h1 rfl (by show ¬ d.life < c.known; omega) (by show d.life = c.known; omega)]
    exact decide_eq_false (by show ¬ d.said + 1 ≤ c.heard; omega)
theorem hello_1 {c : ConV} {n : Int} (hn : 0 ≤ n ∧ n ≤ 8) (h : c.said < 1073741824) : c.hello n = ({ c with said := c.said + 1 }, c.hm n, 0) := by
  unfold ConV.hello
  rw [if_pos hn, if_neg (by omega)]
theorem meet_step {l0 l1 now : Int} (a0 : 1 ≤ l0) (a1 : l0 ≤ 536870912) (b0 : 1 ≤ l1) (b1 : l1 ≤ 536870912) (t0 : 0 ≤ now) (t1 : now ≤ 1099511627776) {j : Nat} (hj : j < 2) : ∃ A' B' X Y f f', MeetR l0 l1 now j A' B' X Y f f' := by
  have n1 : (0 : Int) ≤ 1 ∧ (1 : Int) ≤ 8 := by decide
  rcases (show j = 0 ∨ j = 1 by omega) with rfl | rfl
  · refine ⟨⟨l0, 0, 1, 0, 0, 0, false⟩, ⟨l1, l0, 0, 1, 1, now, false⟩, (newC l0).hm 1, (⟨l1, l0, 0, 1, 1, now, false⟩ : ConV).hm 1, true, true, new_okC _, ⟨Int.le_refl 0, (by decide : (0 : Int) ≤ 1073741824), t0, t1⟩, (by decide : (0 : Nat) < 4294967296), (by decide : (0 : Nat) < 4294967296), hello_1 n1 (by decide : (0 : Int) < 1073741824), ?_, hello_1 n1 (by decide : (0 : Int) < 1073741824), ?_⟩
    · show (newC l1).take ((newC l0).hm 1) now = _
      rw [take_hm (d := newC l0) n1 (by decide : (0 : Int) ≤ 0 ∧ (0 : Int) < 1073741824) ⟨a0, a1⟩ (by decide : (0 : Int) ≤ 0 ∧ (0 : Int) ≤ 536870912) ⟨t0, t1⟩ (.inl (by show (0 : Int) < l0; omega))]
      have e1 : decide ((0 : Int) < l0) = true := decide_eq_true (by omega)
      have e2 : ((0 : Int) == l1) = false := beq_eq_false_iff_ne.2 (by omega)
      show ((newC l1).hears ((newC l0).hm 1) now, decide ((0 : Int) < l0), (0 : Int)) = _
      rw [e1]
      show ((⟨l1, l0, 0, 1, 1, now, ((0 : Int) == l1) || (false && !decide ((0 : Int) < l0))⟩ : ConV), true, (0 : Int)) = _
      rw [e1, e2]; rfl
    · show (⟨l0, 0, 1, 0, 0, 0, false⟩ : ConV).take ((⟨l1, l0, 0, 1, 1, now, false⟩ : ConV).hm 1) now = _
      rw [take_hm (d := (⟨l1, l0, 0, 1, 1, now, false⟩ : ConV)) n1 (by decide : (0 : Int) ≤ 0 ∧ (0 : Int) < 1073741824) ⟨b0, b1⟩ ⟨by show (0 : Int) ≤ l0; omega, a1⟩ ⟨t0, t1⟩ (.inl (by show (0 : Int) < l1; omega))]
      have e1 : decide ((0 : Int) < l1) = true := decide_eq_true (by omega)
      have e2 : (l0 == l0) = true := by simp
      show ((⟨l0, l1, 1, 1, 1, now, (l0 == l0) || (false && !decide ((0 : Int) < l1))⟩ : ConV), decide ((0 : Int) < l1), (0 : Int)) = _
      rw [e1, e2]; rfl
  · refine ⟨⟨l0, l1, 2, 1, 1, now, true⟩, ⟨l1, l0, 1, 2, 1, now, true⟩, (⟨l0, l1, 1, 1, 1, now, true⟩ : ConV).hm 1, (⟨l1, l0, 1, 2, 1, now, true⟩ : ConV).hm 1, false, false, ⟨(by decide : (0 : Int) ≤ 1), (by decide : (1 : Int) ≤ 1073741824), t0, t1⟩, ⟨(by decide : (0 : Int) ≤ 1), (by decide : (1 : Int) ≤ 1073741824), t0, t1⟩, (by decide : (0 : Nat) < 4294967296), (by decide : (0 : Nat) < 4294967296), hello_1 n1 (by decide : (1 : Int) < 1073741824), ?_, hello_1 n1 (by decide : (1 : Int) < 1073741824), ?_⟩
    · show (⟨l1, l0, 1, 1, 1, now, false⟩ : ConV).take ((⟨l0, l1, 1, 1, 1, now, true⟩ : ConV).hm 1) now = _
      rw [take_hm (d := (⟨l0, l1, 1, 1, 1, now, true⟩ : ConV)) n1 (by decide : (0 : Int) ≤ 1 ∧ (1 : Int) < 1073741824) ⟨a0, a1⟩ ⟨by show (0 : Int) ≤ l1; omega, b1⟩ ⟨t0, t1⟩ (.inr ⟨rfl, (by decide : (1 : Int) < 1 + 1)⟩)]
      have e1 : decide (l0 < l0) = false := decide_eq_false (by omega)
      have e2 : (l1 == l1) = true := by simp
      show ((⟨l1, l0, 1, 2, 1, now, (l1 == l1) || (false && !decide (l0 < l0))⟩ : ConV), decide (l0 < l0), (0 : Int)) = _
      rw [e1, e2]; rfl
    · show (⟨l0, l1, 2, 1, 1, now, true⟩ : ConV).take ((⟨l1, l0, 1, 2, 1, now, true⟩ : ConV).hm 1) now = _
      rw [take_hm (d := (⟨l1, l0, 1, 2, 1, now, true⟩ : ConV)) n1 (by decide : (0 : Int) ≤ 1 ∧ (1 : Int) < 1073741824) ⟨b0, b1⟩ ⟨by show (0 : Int) ≤ l0; omega, a1⟩ ⟨t0, t1⟩ (.inr ⟨rfl, (by decide : (1 : Int) < 1 + 1)⟩)]
      have e1 : decide (l1 < l1) = false := decide_eq_false (by omega)
      have e2 : (l0 == l0) = true := by simp
      show ((⟨l0, l1, 2, 2, 1, now, (l0 == l0) || (true && !decide (l1 < l1))⟩ : ConV), decide (l1 < l1), (0 : Int)) = _
      rw [e1, e2]; rfl
theorem meet_end {l0 l1 now : Int} (t0 : 0 ≤ now) (t1 : now ≤ 549755813888) : (meA l0 l1 now 2).tick (now + 5) = (meA l0 l1 now 2, false, 0) ∧ (meA l0 l1 now 2).tick (now + 6) = (⟨l0, l1, 2, 2, 1, now, false⟩, true, 0) := by
  constructor
  · unfold ConV.tick
    rw [if_pos ((inTime_iff _).2 ⟨by omega, by omega⟩)]
    show (if (true && decide (6 ≤ now + 5 - now)) = true then _ else _) = _
    rw [decide_eq_false (by omega : ¬ 6 ≤ now + 5 - now)]; rfl
  · unfold ConV.tick
    rw [if_pos ((inTime_iff _).2 ⟨by omega, by omega⟩)]
    show (if (true && decide (6 ≤ now + 6 - now)) = true then _ else _) = _
    rw [decide_eq_true (by omega : 6 ≤ now + 6 - now)]; rfl

set_option maxRecDepth 100000 in
set_option maxHeartbeats 4000000 in
theorem law_cmeets (l0 l1 now : Int) (w : World) : Calls Try.prog 5 #[.agg #[.int .i64 l0, .int .i64 l1], .int .i64 now] w fun e w' => e = .returned (.bool true) ∧ Below w.heap.size w w' := by
  have HA := Lib.hid (fun V => cawake_any V)
  obtain ⟨w0, hw0⟩ : ∃ w0, w0 = w.alloc (.cells #[.int .i64 l0, .int .i64 l1] 44) := ⟨_, rfl⟩
  have HX0 : Hid (CAt 44 w0 w.heap.size #[.int .i64 l0, .int .i64 l1]) := Lib.hid (by rw [hw0]; exact CAt.new w _ _)
  have HB0 : Hid (Below w.heap.size w w0) := Lib.hid (by rw [hw0]; exact (Below.refl _ _).alloc (Nat.le_refl _) _)
  have HW0 := Lib.hid hw0
  clear hw0
  go_enter Try.func5, Try.ntmps5
  go_upto_region 1 with fail
  rw [← HW0.out]
  go_wp2_with fail
  refine (HA.out _).mono ?_
  rintro e w1 ⟨rfl, hb1⟩
  have HX1 := Lib.hid (HX0.out.later hb1)
  have HB1 := Lib.hid (HB0.out.trans (hb1.mono HB0.out.size))
  have x0 := HX1.out.at_ 0
  have x1 := HX1.out.at_ 1
  simp at x0 x1
  clear hb1
  by_cases ha : 1 ≤ l0 ∧ l0 ≤ 536870912
  rotate_left
  · go_wp2_with fail
    refine (pnew_no l0 ha _).mono ?_
    rintro e w2 ⟨rfl, hb2⟩
    have HX2 := Lib.hid (HX1.out.later hb2)
    have HB2 := Lib.hid (HB1.out.trans (hb2.mono HB1.out.size))
    clear hb2 x0 x1
    have x1 := HX2.out.at_ 1
    simp at x1
    by_cases hb : 1 ≤ l1 ∧ l1 ≤ 536870912
    · go_wp2_with fail
      refine (pnew_ok l1 hb.1 hb.2 _).mono ?_
      rintro e w3 ⟨k, rfl, -, hb3, -⟩
      have HB3 := Lib.hid (HB2.out.trans (hb3.mono HB2.out.size))
      clear hb3 x1 ha hb
      go_wp2
      go_ret
      exact ⟨rfl, HB3.out⟩
    · go_wp2_with fail
      refine (pnew_no l1 hb _).mono ?_
      rintro e w3 ⟨rfl, hb3⟩
      have HB3 := Lib.hid (HB2.out.trans (hb3.mono HB2.out.size))
      clear hb3 x1 ha hb
      go_wp2
      go_ret
      exact ⟨rfl, HB3.out⟩
  go_wp2_with fail
  refine (pnew_ok l0 ha.1 ha.2 _).mono ?_
  rintro e w2 ⟨g, rfl, hp2, hb2, hg2⟩
  have HX2 := Lib.hid (HX1.out.later hb2)
  have HB2 := Lib.hid (HB1.out.trans (hb2.mono HB1.out.size))
  have HP2 := Lib.hid hp2
  have HG2 := Lib.hid (Nat.le_trans HX1.out.lt hg2)
  have HGW := Lib.hid (Nat.le_trans HB1.out.size hg2)
  clear hp2 hb2 hg2 x0 x1
  have x1 := HX2.out.at_ 1
  simp at x1
  by_cases hb : 1 ≤ l1 ∧ l1 ≤ 536870912
  rotate_left
  · go_wp2_with fail
    refine (pnew_no l1 hb _).mono ?_
    rintro e w3 ⟨rfl, hb3⟩
    have HB3 := Lib.hid (HB2.out.trans (hb3.mono HB2.out.size))
    clear hb3 x1 ha hb
    go_wp2
    go_ret
    exact ⟨rfl, HB3.out⟩
  go_wp2_with fail
  refine (pnew_ok l1 hb.1 hb.2 _).mono ?_
  rintro e w3 ⟨k, rfl, hp3, hb3, hg3⟩
  have HX3 := Lib.hid (HX2.out.later hb3)
  have HC3 : Hid (CarC w w3 g k (meA l0 l1 now 0) (meB l0 l1 now 0)) := Lib.hid ⟨CAt.later HP2.out hb3, hp3, by have := HP2.out.lt; omega, HB2.out.trans (hb3.mono HB2.out.size), HGW.out, Nat.le_trans HB2.out.size hg3⟩
  have HGX : Hid (w.heap.size ≠ g ∧ w.heap.size ≠ k) := Lib.hid (by
    have h1 : w.heap.size < g := HG2.out
    have h2 : w.heap.size < k := Nat.lt_of_lt_of_le HX2.out.lt hg3
    exact ⟨by omega, by omega⟩)
  clear hp3 hb3 hg3 x1
  by_cases hn0 : now < 0
  · clear ha hb
    go_wp2
    go_ret
    exact ⟨rfl, HC3.out.low⟩
  by_cases hn1 : 549755813888 < now
  · clear ha hb
    go_wp2
    go_ret
    exact ⟨rfl, HC3.out.low⟩
  have HST := Lib.hid (fun (j : Nat) (hj : j < 2) => meet_step (now := now) ha.1 ha.2 hb.1 hb.2 (by omega) (by omega) hj)
  have HEN := Lib.hid (meet_end (l0 := l0) (l1 := l1) (now := now) (by omega) (by omega))
  clear ha hb
  go_wp2
  go_loopw [10] (fun i wr => ∃ j : Nat, i = .int .i64 j ∧ j ≤ 2 ∧ Hid (CarC w wr g k (meA l0 l1 now j) (meB l0 l1 now j)) ∧ Hid (CAt 44 wr w.heap.size #[.int .i64 l0, .int .i64 l1])) (fun i _ => 2 - (intOf i).toNat)
  case atStart => exact ⟨0, rfl, Nat.zero_le _, HC3, HX3⟩
  case round =>
    clear HC3 HX3
    obtain ⟨j, rfl, hj, HC, HX⟩ := hrel
    by_cases hlt : j < 2
    · have hg : decide ((j : Int) < 2) = true := by simp; omega
      obtain ⟨A', B', X, Y, f, f', R⟩ := HST.out j hlt
      have HR := Lib.hid R
      clear R
      have H1 := Lib.hid (phello_any 1 HR.out.oka HC.out.pa)
      rw [HR.out.h1] at H1
      go_wp2_with fail
      refine H1.out.mono ?_
      rintro e w4 ⟨rfl, hp4, hw4⟩
      have HC4 := Lib.hid (HC.out.fst hp4 hw4)
      have HX4 := Lib.hid (HX.out.way hw4 HGX.out.1)
      clear hp4 hw4
      obtain ⟨w5, hw5⟩ : ∃ w5, w5 = w4.alloc (mbox X) := ⟨_, rfl⟩
      have hb5 : Below w4.heap.size w4 w5 := by rw [hw5]; exact (Below.refl _ _).alloc (Nat.le_refl _) _
      have HM5 : Hid (MBox w5 w4.heap.size X) := Lib.hid (by rw [hw5]; exact MBox.new w4 X)
      have HC5 := Lib.hid (HC4.out.later hb5)
      have HX5 := Lib.hid (HX4.out.later hb5)
      have HW5 := Lib.hid hw5
      clear hw5 hb5
      have H2 := Lib.hid (ptake_any X now HR.out.xa HC5.out.pb)
      rw [HR.out.h2] at H2
      go_upto_region 10 with fail
      rw [alloc_m _ X, ← HW5.out]
      obtain ⟨m0, m1, m2, m3, m4, m5, m6, m7, m8, m9, m10⟩ := HM5.out.all
      go_wp2_with fail
      refine H2.out.mono ?_
      rintro e w6 ⟨rfl, hp6, hw6⟩
      have HC6 := Lib.hid (HC5.out.snd hp6 hw6)
      have HX6 := Lib.hid (HX5.out.way hw6 HGX.out.2)
      clear hp6 hw6 m0 m1 m2 m3 m4 m5 m6 m7 m8 m9 m10
      have H3 := Lib.hid (phello_any 1 HR.out.okb HC6.out.pb)
      rw [HR.out.h3] at H3
      go_wp2_with fail
      refine H3.out.mono ?_
      rintro e w7 ⟨rfl, hp7, hw7⟩
      have HC7 := Lib.hid (HC6.out.snd hp7 hw7)
      have HX7 := Lib.hid (HX6.out.way hw7 HGX.out.2)
      clear hp7 hw7
      obtain ⟨w8, hw8⟩ : ∃ w8, w8 = w7.alloc (mbox Y) := ⟨_, rfl⟩
      have hb8 : Below w7.heap.size w7 w8 := by rw [hw8]; exact (Below.refl _ _).alloc (Nat.le_refl _) _
      have HM8 : Hid (MBox w8 w7.heap.size Y) := Lib.hid (by rw [hw8]; exact MBox.new w7 Y)
      have HC8 := Lib.hid (HC7.out.later hb8)
      have HX8 := Lib.hid (HX7.out.later hb8)
      have HW8 := Lib.hid hw8
      clear hw8 hb8
      have H4 := Lib.hid (ptake_any Y now HR.out.ya HC8.out.pa)
      rw [HR.out.h4] at H4
      go_upto_region 12 with fail
      rw [alloc_m _ Y, ← HW8.out]
      obtain ⟨m0, m1, m2, m3, m4, m5, m6, m7, m8, m9, m10⟩ := HM8.out.all
      go_wp2_with fail
      refine H4.out.mono ?_
      rintro e w9 ⟨rfl, hp9, hw9⟩
      have HC9 := Lib.hid (HC8.out.fst hp9 hw9)
      have HX9 := Lib.hid (HX8.out.way hw9 HGX.out.1)
      clear hp9 hw9 m0 m1 m2 m3 m4 m5 m6 m7 m8 m9 m10
      go_wp2
      go_roundw
      case rel => exact ⟨j + 1, by go_num, by omega, HC9, HX9⟩
      case measure => simp [intOf]; omega
    · obtain rfl : j = 2 := by omega
      have H1 := Lib.hid (ptick_any (now + 5) (c := meA l0 l1 now 2) ⟨(by decide : (0 : Int) ≤ 2), (by decide : (2 : Int) ≤ 1073741824), by show 0 ≤ now; omega, by show now ≤ _; omega⟩ HC.out.pa)
      rw [HEN.out.1] at H1
      go_wp2_with fail
      refine H1.out.mono ?_
      rintro e w4 ⟨rfl, hp4, hw4⟩
      have HC4 := Lib.hid (HC.out.fst hp4 hw4)
      have HX4 := Lib.hid (HX.out.way hw4 HGX.out.1)
      clear hp4 hw4
      go_wp2_with fail
      refine (pup_any (show PAt w4 g ⟨l0, l1, 2, 2, 1, now, true⟩ from HC4.out.pa)).mono ?_
      rintro e w5 ⟨rfl, rfl⟩
      have H2 := Lib.hid (ptick_any (now + 6) (c := meA l0 l1 now 2) ⟨(by decide : (0 : Int) ≤ 2), (by decide : (2 : Int) ≤ 1073741824), by show 0 ≤ now; omega, by show now ≤ _; omega⟩ HC4.out.pa)
      rw [HEN.out.2] at H2
      go_wp2_with fail
      refine H2.out.mono ?_
      rintro e w6 ⟨rfl, hp6, hw6⟩
      have HC6 := Lib.hid (HC4.out.fst hp6 hw6)
      have HX6 := Lib.hid (HX4.out.way hw6 HGX.out.1)
      clear hp6 hw6
      have HD6 : Hid (∀ n, CarC w (w6.drewN n) g k ⟨l0, l1, 2, 2, 1, now, false⟩ ⟨l1, l0, 2, 2, 1, now, true⟩) := Lib.hid (fun n => HC6.out.later ⟨rfl, rfl, rfl, Nat.le_refl _, fun _ _ => rfl⟩)
      have HUA := Lib.hid (fun n => same_flip (pup_any (HD6.out n).pa))
      have HUB := Lib.hid (fun n => same_flip (pup_any (HD6.out n).pb))
      have HOA := Lib.hid (fun n => same_flip (pother_any (HD6.out n).pa))
      have HOB := Lib.hid (fun n => same_flip (pother_any (HD6.out n).pb))
      have x0 := HX6.out.at_ 0
      have x1 := HX6.out.at_ 1
      simp at x0 x1
      have e0 : (l0 == l0) = true := by simp
      have e1 : (l1 == l1) = true := by simp
      go_upto_region 16 with fail
      go_quiet (first | (go_at_call 11; with_reducible exact Calls.quiet_of_same (HUA.out _)) | (go_at_call 11; with_reducible exact Calls.quiet_of_same (HUB.out _)) | (go_at_call 12; with_reducible exact Calls.quiet_of_same (HOA.out _)) | (go_at_call 12; with_reducible exact Calls.quiet_of_same (HOB.out _)))
      go_wp2
      go_ret
      exact ⟨rfl, HC6.out.low.trans ⟨rfl, rfl, rfl, Nat.le_refl _, fun _ _ => rfl⟩⟩
end Go.Proofs.Ytfikdocpcepmmaa
