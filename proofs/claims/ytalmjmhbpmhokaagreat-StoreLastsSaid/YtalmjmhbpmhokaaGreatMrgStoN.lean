/- Rows of bytes beside two stores; a step, and what it leaves alone. (Written by wip/tools/genstoN.py.) -/
import Derived.Test.YtalmjmhbpmhokaaGreatMrgStoZ
import Derived.Maps.AppendAt
namespace Go.Proofs.YtalmjmhbpmhokaaGreat
open Go.RowKit Go.Sort

section
variable {Q Q' R : Nat → Prop} {w w' : World}
theorem Way.inl (h : Way Q w Q' w') : Way (fun b => Q b ∨ R b) w (fun b => Q' b ∨ R b) w' :=
  h.wide (fun _ hb => .inl hb) fun b hb => by
    rcases hb with hb | hb
    · exact (h.new b hb).imp .inl id
    · exact .inl (.inr hb)
theorem Way.inr (h : Way Q w Q' w') : Way (fun b => R b ∨ Q b) w (fun b => R b ∨ Q' b) w' :=
  h.wide (fun _ hb => .inr hb) fun b hb => by
    rcases hb with hb | hb
    · exact .inl (.inl hb)
    · exact (h.new b hb).imp .inr id
end

/-- What such a step answers. -/
def StepsN (T : TabT) (B D R S M : Nat) (Q Q2 : Nat → Prop) (r : Int × DS × Kn) (w : World) (e : Ending) (w' : World) : Prop :=
  e = .returned (.tuple #[ptr S, ptr M, .bool true]) ∧ ∃ Qa Qb, Sd T StT LT DT w' Qa S D r.2.1 r.2.2 ∧ Sd TR StR MT RT w' Qb M R r.2.1 r.2.2 ∧ Apt B Qa Qb ∧ Way (fun b => Q b ∨ Q2 b) w (fun b => Qa b ∨ Qb b) w'

set_option maxRecDepth 100000 in
set_option maxHeartbeats 4000000 in
theorem sstep_way {T : TabT} (K : TabK T) {B D R S M : Nat} {s : DS} {k : Kn} {w : World} {Q Q2 : Nat → Prop} (h1 : Sd T StT LT DT w Q S D s k) (h2 : Sd TR StR MT RT w Q2 M R s k) (ap : Apt B Q Q2) (hBw : B ≤ w.heap.size) (x : StS) (ha : x.l.addr < 4294967296) (hn : x.n ≤ 9223372036854775807) (h04 : 0 ≤ x.do_ ∧ x.do_ ≤ 4) :
    Calls Tryz.prog 15 #[ptr D, ptr R, ptr S, ptr M, x.v] w (StepsN T B D R S M Q Q2 (stepS six s k x) w) := by
  obtain ⟨W, hW⟩ : ∃ W, W = w.alloc (sbox x) := ⟨_, rfl⟩
  have hlow : Below w.heap.size w W := by rw [hW]; exact (Below.refl _ _).alloc (Nat.le_refl _) _
  obtain ⟨g, hg⟩ : ∃ g, g = w.heap.size := ⟨_, rfl⟩
  have hbox : W.heap[g]? = some (.cells #[.int .i64 x.do_, .int .i64 x.n, .int .u32 (x.l.addr : Int), .int .i64 x.l.bind, .string x.l.cb, .int .i64 x.l.unt, .int .i64 x.l.acked, .int .i64 x.l.told, .int .i64 x.l.at_, .int .i64 x.l.ver] 47 (0, 0)) := by rw [hW, hg]; exact heap_alloc_new w _
  have H1 := Lib.hid (h1.later K.fr hlow)
  have H2 := Lib.hid (h2.later tr_fr hlow)
  have hQ : ¬ Q g := fun hq => by have := h1.lt K.fr g hq; omega
  have hglt : g < W.heap.size := (Array.getElem?_eq_some_iff.1 hbox).1
  have HKEEP : Hid (∀ (Q0 Q' : Nat → Prop) w1, (∀ b, Q0 b → Q b) → Way Q0 W Q' w1 → SCells w1 g x) := Lib.hid (fun Q0 Q' w1 hs hw => SCells.of ((hw.oth.block g hglt (fun hq => hQ (hs g hq))).trans hbox))
  have HBW := Lib.hid (hlow.mono hBw)
  have HBS : Hid (B ≤ W.heap.size) := Lib.hid (Nat.le_trans hBw hlow.size)
  have HAP := Lib.hid ap
  have HLW := Lib.hid hlow
  have HW := Lib.hid hW
  have HG := Lib.hid hg
  have HK := Lib.hid K
  have HA := Lib.hid ha
  have HN := Lib.hid hn
  obtain ⟨b0, b1, b2, b3, b4, b5, b6, b7, b8, b9⟩ := SCells.of hbox
  clear h1 h2 ap hlow hbox hQ hglt hBw hW hg K ha hn
  obtain ⟨q, hq⟩ : ∃ q, q = x.do_ := ⟨_, rfl⟩
  rw [← hq] at b0
  rcases (show q = 0 ∨ q = 1 ∨ q = 2 ∨ q = 3 ∨ q = 4 by omega) with rfl | rfl | rfl | rfl | rfl
  · have hst : stepS six s k x = putS s k x.l := by unfold stepS; rw [if_pos hq.symm]
    obtain ⟨r, hr⟩ : ∃ r, r = putS s k x.l := ⟨_, rfl⟩
    have HSt := Lib.hid (hst.trans hr.symm)
    have HC := sd_put HK.out H1.out x.l HA.out
    rw [← hr] at HC
    have HC := Lib.hid HC
    have HR := Lib.hid hr
    clear hq hst hr h04
    go_enter Tryz.func15, Tryz.ntmps15
    go_upto_region 1 with fail
    change Code.wp _ _ _ _ (w.alloc (sbox x))
    rw [← HW.out, ← HG.out]
    go_wp2_with fail
    refine HC.out.mono ?_
    rintro e w1 ⟨rfl, Q', h1', hw1⟩
    obtain ⟨ap1, kp1, low1⟩ := HAP.out.first hw1 HBS.out (H2.out.lt tr_fr)
    have HH1 := Lib.hid h1'
    have HH2 := Lib.hid (H2.out.keep tr_fr kp1)
    have HAP1 := Lib.hid ap1
    have HWY := Lib.hid ((Way.of_below (Q := fun b => Q b ∨ Q2 b) HLW.out).trans (hw1.inl (R := Q2)))
    have HK1 := Lib.hid (HBW.out.trans low1)
    have HS1 : Hid (B ≤ w1.heap.size) := Lib.hid (Nat.le_trans HBS.out hw1.size)
    clear b0 b1 b2 b3 b4 b5 b6 b7 b8 b9
    obtain ⟨b0, b1, b2, b3, b4, b5, b6, b7, b8, b9⟩ := HKEEP.out Q Q' w1 (fun _ h => h) hw1
    have HC2 := rsd_put HH2.out x.l HA.out
    rw [← HR.out] at HC2
    have HC2 := Lib.hid HC2
    clear h1' hw1 ap1 kp1 low1
    go_wp2_with fail
    refine HC2.out.mono ?_
    rintro e w2 ⟨rfl, Q2', h2', hw2⟩
    obtain ⟨ap2, kp2, low2⟩ := HAP1.out.second hw2 HS1.out (HH1.out.lt HK.out.fr)
    have HF : Hid (∃ Qa Qb, Sd T StT LT DT w2 Qa S D r.2.1 r.2.2 ∧ Sd TR StR MT RT w2 Qb M R r.2.1 r.2.2 ∧ Apt B Qa Qb ∧ Way (fun b => Q b ∨ Q2 b) w (fun b => Qa b ∨ Qb b) w2) := Lib.hid ⟨Q', Q2', HH1.out.keep HK.out.fr kp2, h2', ap2, HWY.out.trans (hw2.inr (R := Q'))⟩
    have hself : (r.1 == r.1) = true := by simp
    clear h2' hw2 ap2 kp2 low2
    go_wp2
    go_ret3
    rw [HSt.out]
    exact ⟨by first | rfl | (rw [hself]; rfl) | simp, HF.out⟩
  · have hst : stepS six s k x = setSS s k x.n := by unfold stepS; rw [if_neg (by omega), if_pos hq.symm]
    obtain ⟨r, hr⟩ : ∃ r, r = setSS s k x.n := ⟨_, rfl⟩
    have HSt := Lib.hid (hst.trans hr.symm)
    have HC := sd_setstate HK.out.fr H1.out x.n
    rw [← hr] at HC
    have HC := Lib.hid HC
    have HR := Lib.hid hr
    clear hq hst hr h04
    go_enter Tryz.func15, Tryz.ntmps15
    go_upto_region 1 with fail
    change Code.wp _ _ _ _ (w.alloc (sbox x))
    rw [← HW.out, ← HG.out]
    go_wp2_with fail
    refine HC.out.mono ?_
    rintro e w1 ⟨rfl, Q', h1', hw1⟩
    obtain ⟨ap1, kp1, low1⟩ := HAP.out.first hw1 HBS.out (H2.out.lt tr_fr)
    have HH1 := Lib.hid h1'
    have HH2 := Lib.hid (H2.out.keep tr_fr kp1)
    have HAP1 := Lib.hid ap1
    have HWY := Lib.hid ((Way.of_below (Q := fun b => Q b ∨ Q2 b) HLW.out).trans (hw1.inl (R := Q2)))
    have HK1 := Lib.hid (HBW.out.trans low1)
    have HS1 : Hid (B ≤ w1.heap.size) := Lib.hid (Nat.le_trans HBS.out hw1.size)
    clear b0 b1 b2 b3 b4 b5 b6 b7 b8 b9
    obtain ⟨b0, b1, b2, b3, b4, b5, b6, b7, b8, b9⟩ := HKEEP.out Q Q' w1 (fun _ h => h) hw1
    have HC2 := rsd_setstate HH2.out x.n
    rw [← HR.out] at HC2
    have HC2 := Lib.hid HC2
    clear h1' hw1 ap1 kp1 low1
    go_wp2_with fail
    refine HC2.out.mono ?_
    rintro e w2 ⟨rfl, Q2', h2', hw2⟩
    obtain ⟨ap2, kp2, low2⟩ := HAP1.out.second hw2 HS1.out (HH1.out.lt HK.out.fr)
    have HF : Hid (∃ Qa Qb, Sd T StT LT DT w2 Qa S D r.2.1 r.2.2 ∧ Sd TR StR MT RT w2 Qb M R r.2.1 r.2.2 ∧ Apt B Qa Qb ∧ Way (fun b => Q b ∨ Q2 b) w (fun b => Qa b ∨ Qb b) w2) := Lib.hid ⟨Q', Q2', HH1.out.keep HK.out.fr kp2, h2', ap2, HWY.out.trans (hw2.inr (R := Q'))⟩
    have hself : (r.1 == r.1) = true := by simp
    clear h2' hw2 ap2 kp2 low2
    go_wp2
    go_ret3
    rw [HSt.out]
    exact ⟨by first | rfl | (rw [hself]; rfl) | simp, HF.out⟩
  · have hst : stepS six s k x = setFS s k x.n := by unfold stepS; rw [if_neg (by omega), if_neg (by omega), if_pos hq.symm]
    obtain ⟨r, hr⟩ : ∃ r, r = setFS s k x.n := ⟨_, rfl⟩
    have HSt := Lib.hid (hst.trans hr.symm)
    have HC := sd_setlife HK.out.fr H1.out x.n
    rw [← hr] at HC
    have HC := Lib.hid HC
    have HR := Lib.hid hr
    clear hq hst hr h04
    go_enter Tryz.func15, Tryz.ntmps15
    go_upto_region 1 with fail
    change Code.wp _ _ _ _ (w.alloc (sbox x))
    rw [← HW.out, ← HG.out]
    go_wp2_with fail
    refine HC.out.mono ?_
    rintro e w1 ⟨rfl, Q', h1', hw1⟩
    obtain ⟨ap1, kp1, low1⟩ := HAP.out.first hw1 HBS.out (H2.out.lt tr_fr)
    have HH1 := Lib.hid h1'
    have HH2 := Lib.hid (H2.out.keep tr_fr kp1)
    have HAP1 := Lib.hid ap1
    have HWY := Lib.hid ((Way.of_below (Q := fun b => Q b ∨ Q2 b) HLW.out).trans (hw1.inl (R := Q2)))
    have HK1 := Lib.hid (HBW.out.trans low1)
    have HS1 : Hid (B ≤ w1.heap.size) := Lib.hid (Nat.le_trans HBS.out hw1.size)
    clear b0 b1 b2 b3 b4 b5 b6 b7 b8 b9
    obtain ⟨b0, b1, b2, b3, b4, b5, b6, b7, b8, b9⟩ := HKEEP.out Q Q' w1 (fun _ h => h) hw1
    have HC2 := rsd_setlife HH2.out x.n
    rw [← HR.out] at HC2
    have HC2 := Lib.hid HC2
    clear h1' hw1 ap1 kp1 low1
    go_wp2_with fail
    refine HC2.out.mono ?_
    rintro e w2 ⟨rfl, Q2', h2', hw2⟩
    obtain ⟨ap2, kp2, low2⟩ := HAP1.out.second hw2 HS1.out (HH1.out.lt HK.out.fr)
    have HF : Hid (∃ Qa Qb, Sd T StT LT DT w2 Qa S D r.2.1 r.2.2 ∧ Sd TR StR MT RT w2 Qb M R r.2.1 r.2.2 ∧ Apt B Qa Qb ∧ Way (fun b => Q b ∨ Q2 b) w (fun b => Qa b ∨ Qb b) w2) := Lib.hid ⟨Q', Q2', HH1.out.keep HK.out.fr kp2, h2', ap2, HWY.out.trans (hw2.inr (R := Q'))⟩
    have hself : (r.1 == r.1) = true := by simp
    clear h2' hw2 ap2 kp2 low2
    go_wp2
    go_ret3
    rw [HSt.out]
    exact ⟨by first | rfl | (rw [hself]; rfl) | simp, HF.out⟩
  · have hst : stepS six s k x = ((syncD s).1, (syncD s).2, k) := by unfold stepS; rw [if_neg (by omega), if_neg (by omega), if_neg (by omega), if_pos hq.symm]
    obtain ⟨r, hr⟩ : ∃ r, r = ((syncD s).1, (syncD s).2, k) := ⟨_, rfl⟩
    have HSt := Lib.hid (hst.trans hr.symm)
    have HC := sd_sync HK.out.fr H1.out
    rw [← hr] at HC
    have HC := Lib.hid HC
    have HR := Lib.hid hr
    clear hq hst hr h04
    go_enter Tryz.func15, Tryz.ntmps15
    go_upto_region 1 with fail
    change Code.wp _ _ _ _ (w.alloc (sbox x))
    rw [← HW.out, ← HG.out]
    go_wp2_with fail
    refine HC.out.mono ?_
    rintro e w1 ⟨rfl, Q', h1', hw1⟩
    obtain ⟨ap1, kp1, low1⟩ := HAP.out.first hw1 HBS.out (H2.out.lt tr_fr)
    have HH1 := Lib.hid h1'
    have HH2 := Lib.hid (H2.out.keep tr_fr kp1)
    have HAP1 := Lib.hid ap1
    have HWY := Lib.hid ((Way.of_below (Q := fun b => Q b ∨ Q2 b) HLW.out).trans (hw1.inl (R := Q2)))
    have HK1 := Lib.hid (HBW.out.trans low1)
    have HS1 : Hid (B ≤ w1.heap.size) := Lib.hid (Nat.le_trans HBS.out hw1.size)
    clear b0 b1 b2 b3 b4 b5 b6 b7 b8 b9
    obtain ⟨b0, b1, b2, b3, b4, b5, b6, b7, b8, b9⟩ := HKEEP.out Q Q' w1 (fun _ h => h) hw1
    have HC2 := rsd_sync HH2.out
    rw [← HR.out] at HC2
    have HC2 := Lib.hid HC2
    clear h1' hw1 ap1 kp1 low1
    go_wp2_with fail
    refine HC2.out.mono ?_
    rintro e w2 ⟨rfl, Q2', h2', hw2⟩
    obtain ⟨ap2, kp2, low2⟩ := HAP1.out.second hw2 HS1.out (HH1.out.lt HK.out.fr)
    have HF : Hid (∃ Qa Qb, Sd T StT LT DT w2 Qa S D r.2.1 r.2.2 ∧ Sd TR StR MT RT w2 Qb M R r.2.1 r.2.2 ∧ Apt B Qa Qb ∧ Way (fun b => Q b ∨ Q2 b) w (fun b => Qa b ∨ Qb b) w2) := Lib.hid ⟨Q', Q2', HH1.out.keep HK.out.fr kp2, h2', ap2, HWY.out.trans (hw2.inr (R := Q'))⟩
    have hself : (r.1 == r.1) = true := by simp
    clear h2' hw2 ap2 kp2 low2
    go_wp2
    go_ret3
    rw [HSt.out]
    exact ⟨by first | rfl | (rw [hself]; rfl) | simp, HF.out⟩
  · have hst : stepS six s k x = ((compW s (recsK k)).1, (compW s (recsK k)).2, k) := by unfold stepS; rw [if_neg (by omega), if_neg (by omega), if_neg (by omega), if_neg (by omega), if_pos hq.symm]
    obtain ⟨r, hr⟩ : ∃ r, r = ((compW s (recsK k)).1, (compW s (recsK k)).2, k) := ⟨_, rfl⟩
    have HSt := Lib.hid (hst.trans hr.symm)
    have HC := sd_compact HK.out H1.out
    rw [← hr] at HC
    have HC := Lib.hid HC
    have HR := Lib.hid hr
    clear hq hst hr h04
    go_enter Tryz.func15, Tryz.ntmps15
    go_upto_region 1 with fail
    change Code.wp _ _ _ _ (w.alloc (sbox x))
    rw [← HW.out, ← HG.out]
    go_wp2_with fail
    refine HC.out.mono ?_
    rintro e w1 ⟨rfl, Q', h1', hw1⟩
    obtain ⟨ap1, kp1, low1⟩ := HAP.out.first hw1 HBS.out (H2.out.lt tr_fr)
    have HH1 := Lib.hid h1'
    have HH2 := Lib.hid (H2.out.keep tr_fr kp1)
    have HAP1 := Lib.hid ap1
    have HWY := Lib.hid ((Way.of_below (Q := fun b => Q b ∨ Q2 b) HLW.out).trans (hw1.inl (R := Q2)))
    have HK1 := Lib.hid (HBW.out.trans low1)
    have HS1 : Hid (B ≤ w1.heap.size) := Lib.hid (Nat.le_trans HBS.out hw1.size)
    clear b0 b1 b2 b3 b4 b5 b6 b7 b8 b9
    obtain ⟨b0, b1, b2, b3, b4, b5, b6, b7, b8, b9⟩ := HKEEP.out Q Q' w1 (fun _ h => h) hw1
    have HC2 := rsd_compact HH2.out
    rw [← HR.out] at HC2
    have HC2 := Lib.hid HC2
    clear h1' hw1 ap1 kp1 low1
    go_wp2_with fail
    refine HC2.out.mono ?_
    rintro e w2 ⟨rfl, Q2', h2', hw2⟩
    obtain ⟨ap2, kp2, low2⟩ := HAP1.out.second hw2 HS1.out (HH1.out.lt HK.out.fr)
    have HF : Hid (∃ Qa Qb, Sd T StT LT DT w2 Qa S D r.2.1 r.2.2 ∧ Sd TR StR MT RT w2 Qb M R r.2.1 r.2.2 ∧ Apt B Qa Qb ∧ Way (fun b => Q b ∨ Q2 b) w (fun b => Qa b ∨ Qb b) w2) := Lib.hid ⟨Q', Q2', HH1.out.keep HK.out.fr kp2, h2', ap2, HWY.out.trans (hw2.inr (R := Q'))⟩
    have hself : (r.1 == r.1) = true := by simp
    clear h2' hw2 ap2 kp2 low2
    go_wp2
    go_ret3
    rw [HSt.out]
    exact ⟨by first | rfl | (rw [hself]; rfl) | simp, HF.out⟩

/-! ## Rows of bytes -/
/-- A slice of slices of bytes, all in rows of their own. -/
structure May (w : World) (v : Value) (K : List SlV) : Prop where
  own : w.ownsRow 0 49 1 v K.length (scells K)
  all : OwnAll w 0 K
/-- Its blocks. -/
def mayF (v : Value) (K : List SlV) (b : Nat) : Prop := v.ownBlock = some b ∨ ∃ x ∈ K, x.v.ownBlock = some b
section
variable {w w' : World} {v : Value} {K : List SlV}
theorem May.nil (w : World) : May w (.slice none 0 0) [] := ⟨World.ownsRow_nil _ _ _ _, OwnAll.nil _ _⟩
theorem mayF_nil (b : Nat) : ¬ mayF (.slice none 0 0) [] b := by
  rintro (h | ⟨x, hx, _⟩)
  · cases h
  · cases hx
theorem May.lt (h : May w v K) : ∀ b, mayF v K b → b < w.heap.size := by
  rintro b (hb | ⟨x, hx, hb⟩)
  · exact (h.own.lt b hb).2
  · exact ((h.all x hx).lt b hb).2
theorem May.keep (h : May w v K) (hk : KpT (mayF v K) w w') : May w' v K :=
  ⟨own_kp h.own (P := mayF v K) ⟨hk.os, hk.tape, hk.output, hk.size, hk.block⟩ fun _ e => .inl e, fun x hx => own_kp (h.all x hx) (P := mayF v K) ⟨hk.os, hk.tape, hk.output, hk.size, hk.block⟩ fun _ e => .inr ⟨x, hx, e⟩⟩
theorem May.later (h : May w v K) (hb : Below w.heap.size w w') : May w' v K := h.keep (KpT.of_below hb h.lt)
theorem May.form (h : May w v K) : ∃ A c, v = .slice A K.length c ∧ Ls w w.heap.size A K := by
  obtain ⟨A, c, rfl, _⟩ := own_form h.own
  exact ⟨A, c, rfl, h.all.ls h.own⟩
/-- One row of bytes, made anew, is kept in a slice of its own. -/
theorem May.one {w0 : World} {x : SlV} (hx : Row w0 w (.slice x.ad x.data.length x.cap) x.data) : May (w.alloc (.cells #[x.v] 49)) (.slice (some ⟨w.heap.size, 0, none⟩) 1 1) [x] ∧ ∀ b, mayF (.slice (some ⟨w.heap.size, 0, none⟩) 1 1) [x] b → w0.heap.size ≤ b := by
  have hbw : Below w.heap.size w (w.alloc (.cells #[x.v] 49)) := (Below.refl _ _).alloc (Nat.le_refl _) _
  have ho : Own8 w 0 x.v x.data := own_lower hx.own (Nat.zero_le _)
  refine ⟨⟨World.ownsRow_lit (base := 0) (e := 49) (size := 1) w #[x.v] 1 (Nat.zero_le _) (by unfold maxLen; omega) rfl, ?_⟩, ?_⟩
  · intro y hy
    obtain rfl := List.mem_singleton.1 hy
    exact (OwnAll.snoc (OwnAll.nil w 0) ho |>.below hbw) y (by simp)
  · rintro b (hb | ⟨y, hy, hb⟩)
    · simp [Value.ownBlock] at hb
      subst hb
      exact hx.low.size
    · obtain rfl := List.mem_singleton.1 hy
      exact (hx.own.lt b hb).1
end
/-- A row of bytes is appended. -/
theorem wpList_may {w1 : World} {ops : Array Oper} {rest : List Oper} {o : Oper} {a : Act} {Q : Exit → Act → World → Prop} (hgd : o.guard = none) (s x : Operand)
    (ho : o.op = .call { callee := .builtin .append, args := #[s, x], argTypes := #[56, 56] }) {v : Value} {L : List SlV} (hs : a.eval s = v) (h : May w1 v L)
    (x0 : SlV) (hx0 : Own8 w1 0 x0.v x0.data) (hx : a.eval x = .slice (some ⟨w1.heap.size, 0, none⟩) 1 1) (hsz : L.length ≤ 1048576)
    (hk : ∀ v' w', May w' v' (L ++ [x0]) → KpT (fun b => b < w1.heap.size ∧ v.ownBlock ≠ some b) w1 w' → (∀ b, v'.ownBlock = some b → v.ownBlock = some b ∨ w1.heap.size ≤ b) → wpList Tryz.prog ops Q rest (a.put o.dst v') w') :
    wpList Tryz.prog ops Q (o :: rest) a (w1.alloc (.cells #[x0.v] 49)) := by
  obtain ⟨i, hi, hz0, hz1, hz2⟩ := info_parts Tryz.infoS
  have hb1 : Below w1.heap.size w1 (w1.alloc (.cells #[x0.v] 49)) := (Below.refl _ _).alloc (Nat.le_refl _) _
  have hown1 := h.own.alloc (.cells #[x0.v] 49)
  refine wpList_append_own_at _ hgd s x _ ho 0 49 i _ 1 24 Tryz.underlying56 hi hz0 hz1 hz2 rfl (by decide) v L.length _ hs hown1 ⟨w1.heap.size, 0, none⟩ 1 1 [x0.v] hx rfl (World.news_of_block (cs := #[x0.v]) (t := 49) (fr := (0, 0)) (heap_alloc_new w1 _)) (by simp [Value.oneCell']) (by unfold maxLen; omega) (by omega) (Nat.zero_le _) ?_
  intro v' w' hown' hg _ hat
  refine hk v' w' ⟨?_, ?_⟩ ?_ ?_
  · rw [List.length_append, scells_snoc]
    exact hown'
  · exact ((h.all.snoc hx0).below hb1).grown hown1 (by decide) hg
  · exact ⟨hg.os.trans hb1.os, hg.tape.trans hb1.tape, hg.output.trans hb1.output, Nat.le_trans hb1.size hg.size, fun b hb => (hg.block b (Nat.lt_of_lt_of_le hb.1 hb1.size) (fun e => hb.2 e.symm)).trans (hb1.block b hb.1)⟩
  · intro b hb
    rcases hat with e | e
    · exact .inl (e ▸ hb)
    · rw [hb] at e
      injection e with e
      exact .inr (by rw [e]; exact hb1.size)
end Go.Proofs.YtalmjmhbpmhokaaGreat
