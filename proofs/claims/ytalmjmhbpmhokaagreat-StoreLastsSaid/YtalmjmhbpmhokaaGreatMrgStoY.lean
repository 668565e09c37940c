/- step, where it answers the stores that it was given. (Written by wip/tools/genstepst.py.) -/
import Derived.Test.YtalmjmhbpmhokaaGreatMrgStoV
namespace Go.Proofs.YtalmjmhbpmhokaaGreat
open Go.RowKit Go.Sort

/-- What such a step answers. -/
def StepsE (T : TabT) (B D R S M : Nat) (r : Int × DS × Kn) (w : World) (e : Ending) (w' : World) : Prop :=
  e = .returned (.tuple #[ptr S, ptr M, .bool true]) ∧ TwoS T B D R S M r.2.1 r.2.2 w' ∧ Below B w w'

set_option maxRecDepth 100000 in
set_option maxHeartbeats 4000000 in
theorem sstep_same {T : TabT} (K : TabK T) {B D R S M : Nat} {s : DS} {k : Kn} {w : World} (hT : TwoS T B D R S M s k w) (x : StS) (ha : x.l.addr < 4294967296) (hn : x.n ≤ 9223372036854775807) (h04 : 0 ≤ x.do_ ∧ x.do_ ≤ 4) :
    Calls Tryz.prog 15 #[ptr D, ptr R, ptr S, ptr M, x.v] w (StepsE T B D R S M (stepS six s k x) w) := by
  have hBw := hT.size
  obtain ⟨Q, Q2, h1, h2, ap⟩ := hT.two
  obtain ⟨W, hW⟩ : ∃ W, W = w.alloc (sbox x) := ⟨_, rfl⟩
  have hlow : Below w.heap.size w W := by rw [hW]; exact (Below.refl _ _).alloc (Nat.le_refl _) _
  obtain ⟨g, hg⟩ : ∃ g, g = w.heap.size := ⟨_, rfl⟩
  have hbox : W.heap[g]? = some (.cells #[.int .i64 x.do_, .int .i64 x.n, .int .u32 (x.l.addr : Int), .int .i64 x.l.bind, .string x.l.cb, .int .i64 x.l.unt, .int .i64 x.l.acked, .int .i64 x.l.told, .int .i64 x.l.at_, .int .i64 x.l.ver] 47 (0, 0)) := by rw [hW, hg]; exact heap_alloc_new w _
  have H1 := Lib.hid (h1.later K.fr hlow)
  have H2 := Lib.hid (h2.later tr_fr hlow)
  have hQ : ¬ Q g := fun hq => by have := h1.lt K.fr g hq; omega
  have hglt : g < W.heap.size := (Array.getElem?_eq_some_iff.1 hbox).1
  have HKEEP : Hid (∀ (Q0 Q' : Nat → Prop) w1, (∀ b, Q0 b → Q b) → Way Q0 W Q' w1 → SCells w1 g x) := Lib.hid (fun Q0 Q' w1 hs hw => SCells.of ((hw.oth.block g hglt (fun hq => hQ (hs g hq))).trans hbox))
  have HBW := Lib.hid (hlow.mono hBw)
  have HBS : Hid (B ≤ W.heap.size) := Lib.hid (Nat.le_trans hBw hlow.size)
  have HAP := Lib.hid ap
  have HW := Lib.hid hW
  have HG := Lib.hid hg
  have HK := Lib.hid K
  have HA := Lib.hid ha
  have HN := Lib.hid hn
  obtain ⟨b0, b1, b2, b3, b4, b5, b6, b7, b8, b9⟩ := SCells.of hbox
  clear hT h1 h2 ap hlow hbox hQ hglt hBw hW hg K ha hn
  obtain ⟨q, hq⟩ : ∃ q, q = x.do_ := ⟨_, rfl⟩
  rw [← hq] at b0
  rcases (show q = 0 ∨ q = 1 ∨ q = 2 ∨ q = 3 ∨ q = 4 by omega) with rfl | rfl | rfl | rfl | rfl
  · have hst : stepS six s k x = putS s k x.l := by unfold stepS; rw [if_pos hq.symm]
    obtain ⟨r, hr⟩ : ∃ r, r = putS s k x.l := ⟨_, rfl⟩
    have HSt := Lib.hid (hst.trans hr.symm)
    have HC := sd_put HK.out H1.out x.l HA.out
    rw [← hr] at HC
    have HC := Lib.hid HC
    have HR := Lib.hid hr
    clear hq hst hr h04
    go_enter Tryz.func15, Tryz.ntmps15
    go_upto_region 1 with fail
    change Code.wp _ _ _ _ (w.alloc (sbox x))
    rw [← HW.out, ← HG.out]
    go_wp2_with fail
    refine HC.out.mono ?_
    rintro e w1 ⟨rfl, Q', h1', hw1⟩
    obtain ⟨ap1, kp1, low1⟩ := HAP.out.first hw1 HBS.out (H2.out.lt tr_fr)
    have HH1 := Lib.hid h1'
    have HH2 := Lib.hid (H2.out.keep tr_fr kp1)
    have HAP1 := Lib.hid ap1
    have HK1 := Lib.hid (HBW.out.trans low1)
    have HS1 : Hid (B ≤ w1.heap.size) := Lib.hid (Nat.le_trans HBS.out hw1.size)
    clear b0 b1 b2 b3 b4 b5 b6 b7 b8 b9
    obtain ⟨b0, b1, b2, b3, b4, b5, b6, b7, b8, b9⟩ := HKEEP.out Q Q' w1 (fun _ h => h) hw1
    have HC2 := rsd_put HH2.out x.l HA.out
    rw [← HR.out] at HC2
    have HC2 := Lib.hid HC2
    clear h1' hw1 ap1 kp1 low1
    go_wp2_with fail
    refine HC2.out.mono ?_
    rintro e w2 ⟨rfl, Q2', h2', hw2⟩
    obtain ⟨ap2, kp2, low2⟩ := HAP1.out.second hw2 HS1.out (HH1.out.lt HK.out.fr)
    have HF : Hid (TwoS T B D R S M r.2.1 r.2.2 w2) := Lib.hid ⟨Q', Q2', HH1.out.keep HK.out.fr kp2, h2', ap2⟩
    have HB2 := Lib.hid (HK1.out.trans low2)
    have hself : (r.1 == r.1) = true := by simp
    clear h2' hw2 ap2 kp2 low2
    go_wp2
    go_ret3
    rw [HSt.out]
    exact ⟨by first | rfl | (rw [hself]; rfl) | simp, HF.out, HB2.out⟩
  · have hst : stepS six s k x = setSS s k x.n := by unfold stepS; rw [if_neg (by omega), if_pos hq.symm]
    obtain ⟨r, hr⟩ : ∃ r, r = setSS s k x.n := ⟨_, rfl⟩
    have HSt := Lib.hid (hst.trans hr.symm)
    have HC := sd_setstate HK.out.fr H1.out x.n
    rw [← hr] at HC
    have HC := Lib.hid HC
    have HR := Lib.hid hr
    clear hq hst hr h04
    go_enter Tryz.func15, Tryz.ntmps15
    go_upto_region 1 with fail
    change Code.wp _ _ _ _ (w.alloc (sbox x))
    rw [← HW.out, ← HG.out]
    go_wp2_with fail
    refine HC.out.mono ?_
    rintro e w1 ⟨rfl, Q', h1', hw1⟩
    obtain ⟨ap1, kp1, low1⟩ := HAP.out.first hw1 HBS.out (H2.out.lt tr_fr)
    have HH1 := Lib.hid h1'
    have HH2 := Lib.hid (H2.out.keep tr_fr kp1)
    have HAP1 := Lib.hid ap1
    have HK1 := Lib.hid (HBW.out.trans low1)
    have HS1 : Hid (B ≤ w1.heap.size) := Lib.hid (Nat.le_trans HBS.out hw1.size)
    clear b0 b1 b2 b3 b4 b5 b6 b7 b8 b9
    obtain ⟨b0, b1, b2, b3, b4, b5, b6, b7, b8, b9⟩ := HKEEP.out Q Q' w1 (fun _ h => h) hw1
    have HC2 := rsd_setstate HH2.out x.n
    rw [← HR.out] at HC2
    have HC2 := Lib.hid HC2
    clear h1' hw1 ap1 kp1 low1
    go_wp2_with fail
    refine HC2.out.mono ?_
    rintro e w2 ⟨rfl, Q2', h2', hw2⟩
    obtain ⟨ap2, kp2, low2⟩ := HAP1.out.second hw2 HS1.out (HH1.out.lt HK.out.fr)
    have HF : Hid (TwoS T B D R S M r.2.1 r.2.2 w2) := Lib.hid ⟨Q', Q2', HH1.out.keep HK.out.fr kp2, h2', ap2⟩
    have HB2 := Lib.hid (HK1.out.trans low2)
    have hself : (r.1 == r.1) = true := by simp
    clear h2' hw2 ap2 kp2 low2
    go_wp2
    go_ret3
    rw [HSt.out]
    exact ⟨by first | rfl | (rw [hself]; rfl) | simp, HF.out, HB2.out⟩
  · have hst : stepS six s k x = setFS s k x.n := by unfold stepS; rw [if_neg (by omega), if_neg (by omega), if_pos hq.symm]
    obtain ⟨r, hr⟩ : ∃ r, r = setFS s k x.n := ⟨_, rfl⟩
    have HSt := Lib.hid (hst.trans hr.symm)
    have HC := sd_setlife HK.out.fr H1.out x.n
    rw [← hr] at HC
    have HC := Lib.hid HC
    have HR := Lib.hid hr
    clear hq hst hr h04
    go_enter Tryz.func15, Tryz.ntmps15
    go_upto_region 1 with fail
    change Code.wp _ _ _ _ (w.alloc (sbox x))
    rw [← HW.out, ← HG.out]
    go_wp2_with fail
    refine HC.out.mono ?_
    rintro e w1 ⟨rfl, Q', h1', hw1⟩
    obtain ⟨ap1, kp1, low1⟩ := HAP.out.first hw1 HBS.out (H2.out.lt tr_fr)
    have HH1 := Lib.hid h1'
    have HH2 := Lib.hid (H2.out.keep tr_fr kp1)
    have HAP1 := Lib.hid ap1
    have HK1 := Lib.hid (HBW.out.trans low1)
    have HS1 : Hid (B ≤ w1.heap.size) := Lib.hid (Nat.le_trans HBS.out hw1.size)
    clear b0 b1 b2 b3 b4 b5 b6 b7 b8 b9
    obtain ⟨b0, b1, b2, b3, b4, b5, b6, b7, b8, b9⟩ := HKEEP.out Q Q' w1 (fun _ h => h) hw1
    have HC2 := rsd_setlife HH2.out x.n
    rw [← HR.out] at HC2
    have HC2 := Lib.hid HC2
    clear h1' hw1 ap1 kp1 low1
    go_wp2_with fail
    refine HC2.out.mono ?_
    rintro e w2 ⟨rfl, Q2', h2', hw2⟩
    obtain ⟨ap2, kp2, low2⟩ := HAP1.out.second hw2 HS1.out (HH1.out.lt HK.out.fr)
    have HF : Hid (TwoS T B D R S M r.2.1 r.2.2 w2) := Lib.hid ⟨Q', Q2', HH1.out.keep HK.out.fr kp2, h2', ap2⟩
    have HB2 := Lib.hid (HK1.out.trans low2)
    have hself : (r.1 == r.1) = true := by simp
    clear h2' hw2 ap2 kp2 low2
    go_wp2
    go_ret3
    rw [HSt.out]
    exact ⟨by first | rfl | (rw [hself]; rfl) | simp, HF.out, HB2.out⟩
  · have hst : stepS six s k x = ((syncD s).1, (syncD s).2, k) := by unfold stepS; rw [if_neg (by omega), if_neg (by omega), if_neg (by omega), if_pos hq.symm]
    obtain ⟨r, hr⟩ : ∃ r, r = ((syncD s).1, (syncD s).2, k) := ⟨_, rfl⟩
    have HSt := Lib.hid (hst.trans hr.symm)
    have HC := sd_sync HK.out.fr H1.out
    rw [← hr] at HC
    have HC := Lib.hid HC
    have HR := Lib.hid hr
    clear hq hst hr h04
    go_enter Tryz.func15, Tryz.ntmps15
    go_upto_region 1 with fail
    change Code.wp _ _ _ _ (w.alloc (sbox x))
    rw [← HW.out, ← HG.out]
    go_wp2_with fail
    refine HC.out.mono ?_
    rintro e w1 ⟨rfl, Q', h1', hw1⟩
    obtain ⟨ap1, kp1, low1⟩ := HAP.out.first hw1 HBS.out (H2.out.lt tr_fr)
    have HH1 := Lib.hid h1'
    have HH2 := Lib.hid (H2.out.keep tr_fr kp1)
    have HAP1 := Lib.hid ap1
    have HK1 := Lib.hid (HBW.out.trans low1)
    have HS1 : Hid (B ≤ w1.heap.size) := Lib.hid (Nat.le_trans HBS.out hw1.size)
    clear b0 b1 b2 b3 b4 b5 b6 b7 b8 b9
    obtain ⟨b0, b1, b2, b3, b4, b5, b6, b7, b8, b9⟩ := HKEEP.out Q Q' w1 (fun _ h => h) hw1
    have HC2 := rsd_sync HH2.out
    rw [← HR.out] at HC2
    have HC2 := Lib.hid HC2
    clear h1' hw1 ap1 kp1 low1
    go_wp2_with fail
    refine HC2.out.mono ?_
    rintro e w2 ⟨rfl, Q2', h2', hw2⟩
    obtain ⟨ap2, kp2, low2⟩ := HAP1.out.second hw2 HS1.out (HH1.out.lt HK.out.fr)
    have HF : Hid (TwoS T B D R S M r.2.1 r.2.2 w2) := Lib.hid ⟨Q', Q2', HH1.out.keep HK.out.fr kp2, h2', ap2⟩
    have HB2 := Lib.hid (HK1.out.trans low2)
    have hself : (r.1 == r.1) = true := by simp
    clear h2' hw2 ap2 kp2 low2
    go_wp2
    go_ret3
    rw [HSt.out]
    exact ⟨by first | rfl | (rw [hself]; rfl) | simp, HF.out, HB2.out⟩
  · have hst : stepS six s k x = ((compW s (recsK k)).1, (compW s (recsK k)).2, k) := by unfold stepS; rw [if_neg (by omega), if_neg (by omega), if_neg (by omega), if_neg (by omega), if_pos hq.symm]
    obtain ⟨r, hr⟩ : ∃ r, r = ((compW s (recsK k)).1, (compW s (recsK k)).2, k) := ⟨_, rfl⟩
    have HSt := Lib.hid (hst.trans hr.symm)
    have HC := sd_compact HK.out H1.out
    rw [← hr] at HC
    have HC := Lib.hid HC
    have HR := Lib.hid hr
    clear hq hst hr h04
    go_enter Tryz.func15, Tryz.ntmps15
    go_upto_region 1 with fail
    change Code.wp _ _ _ _ (w.alloc (sbox x))
    rw [← HW.out, ← HG.out]
    go_wp2_with fail
    refine HC.out.mono ?_
    rintro e w1 ⟨rfl, Q', h1', hw1⟩
    obtain ⟨ap1, kp1, low1⟩ := HAP.out.first hw1 HBS.out (H2.out.lt tr_fr)
    have HH1 := Lib.hid h1'
    have HH2 := Lib.hid (H2.out.keep tr_fr kp1)
    have HAP1 := Lib.hid ap1
    have HK1 := Lib.hid (HBW.out.trans low1)
    have HS1 : Hid (B ≤ w1.heap.size) := Lib.hid (Nat.le_trans HBS.out hw1.size)
    clear b0 b1 b2 b3 b4 b5 b6 b7 b8 b9
    obtain ⟨b0, b1, b2, b3, b4, b5, b6, b7, b8, b9⟩ := HKEEP.out Q Q' w1 (fun _ h => h) hw1
    have HC2 := rsd_compact HH2.out
    rw [← HR.out] at HC2
    have HC2 := Lib.hid HC2
    clear h1' hw1 ap1 kp1 low1
    go_wp2_with fail
    refine HC2.out.mono ?_
    rintro e w2 ⟨rfl, Q2', h2', hw2⟩
    obtain ⟨ap2, kp2, low2⟩ := HAP1.out.second hw2 HS1.out (HH1.out.lt HK.out.fr)
    have HF : Hid (TwoS T B D R S M r.2.1 r.2.2 w2) := Lib.hid ⟨Q', Q2', HH1.out.keep HK.out.fr kp2, h2', ap2⟩
    have HB2 := Lib.hid (HK1.out.trans low2)
    have hself : (r.1 == r.1) = true := by simp
    clear h2' hw2 ap2 kp2 low2
    go_wp2
    go_ret3
    rw [HSt.out]
    exact ⟨by first | rfl | (rw [hself]; rfl) | simp, HF.out, HB2.out⟩
end Go.Proofs.YtalmjmhbpmhokaaGreat
