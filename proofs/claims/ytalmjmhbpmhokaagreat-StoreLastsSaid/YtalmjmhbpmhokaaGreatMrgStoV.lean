/- Joined texts: StoV, StoU. -/
import Derived.Test.YtalmjmhbpmhokaaGreatMrgStoS

/- step: a step at both stores; opening upon the six addresses. (Written by wip/tools/genstepst.py.) -/
section
namespace Go.Proofs.YtalmjmhbpmhokaaGreat
open Go.RowKit Go.Sort

/-- What opening for the six addresses answers. -/
def Opens6 (T : TabT) (sty lty ty : TypeId) (w : World) (Q : Nat → Prop) (D : Nat) (s : DS) (e : Ending) (w' : World) : Prop :=
  ((openW s).1 ≠ 0 ∧ e = .returned (.tuple #[.pointer none, .int .i64 (openW s).1]) ∧ UpdD ty w Q D w' (openW s).2) ∨
  ((openW s).1 = 0 ∧ ∃ S, e = .returned (.tuple #[ptr S, .int .i64 0]) ∧ Upd T sty lty ty w Q S D w' (openW s).2 (knK six (scanL (openW s).2.bs)))
theorem open_six {T : TabT} (K : TabK T) {w : World} {Q : Nat → Prop} {D : Nat} {s : DS} (h : Dk DT w Q D s) {A : Option Addr} (hr : Rg w w.heap.size A [(1, 6)]) :
    Calls Tryz.prog 12 #[ptr D, .slice A 1 1] w (Opens6 T StT LT DT w Q D s) := by
  refine (sopen_any K h A 1 [(1, 6)] hr (by decide)).mono ?_
  rintro e w' ⟨ol, code, hres, ho⟩
  obtain ⟨rfl, hks⟩ := pool_six hres
  rcases ho with ⟨h0, _⟩ | ⟨_, h1, h2, h3⟩ | ⟨_, h1, S, h2, h3⟩
  · exact absurd rfl h0
  · exact .inl ⟨h1, h2, h3⟩
  · rw [hks] at h3
    exact .inr ⟨h1, S, h2, h3⟩
theorem ropen_six {w : World} {Q : Nat → Prop} {D : Nat} {s : DS} (h : Dk RT w Q D s) {A : Option Addr} (hr : Rg w w.heap.size A [(1, 6)]) :
    Calls Tryz.prog 14 #[ptr D, .slice A 1 1] w (Opens6 TR StR MT RT w Q D s) := by
  refine (rsopen_any h A 1 [(1, 6)] hr (by decide)).mono ?_
  rintro e w' ⟨ol, code, hres, ho⟩
  obtain ⟨rfl, hks⟩ := rpool_six hres
  rcases ho with ⟨h0, _⟩ | ⟨_, h1, h2, h3⟩ | ⟨_, h1, S, h2, h3⟩
  · exact absurd rfl h0
  · exact .inl ⟨h1, h2, h3⟩
  · rw [hks] at h3
    exact .inr ⟨h1, S, h2, h3⟩

/-- The step's box. -/
abbrev sbox (x : StS) : Obj := .cells #[.int .i64 x.do_, .int .i64 x.n, .int .u32 (x.l.addr : Int), .int .i64 x.l.bind, .string x.l.cb, .int .i64 x.l.unt, .int .i64 x.l.acked, .int .i64 x.l.told, .int .i64 x.l.at_, .int .i64 x.l.ver] 47
/-- What a step answers. -/
def StepsS (T : TabT) (B D R : Nat) (r : Int × DS × Kn) (w : World) (e : Ending) (w' : World) : Prop :=
  ∃ S M, e = .returned (.tuple #[ptr S, ptr M, .bool true]) ∧ TwoS T B D R S M r.2.1 r.2.2 w' ∧ Below B w w'
/-- The cells of a step's box. -/
def SCells (w : World) (g : Nat) (x : StS) : Prop :=
  w.cell? ⟨g, 0, none⟩ = some (.int .i64 x.do_) ∧ w.cell? ⟨g, 1, none⟩ = some (.int .i64 x.n) ∧ w.cell? ⟨g, 2, none⟩ = some (.int .u32 (x.l.addr : Int)) ∧ w.cell? ⟨g, 3, none⟩ = some (.int .i64 x.l.bind) ∧ w.cell? ⟨g, 4, none⟩ = some (.string x.l.cb) ∧ w.cell? ⟨g, 5, none⟩ = some (.int .i64 x.l.unt) ∧ w.cell? ⟨g, 6, none⟩ = some (.int .i64 x.l.acked) ∧ w.cell? ⟨g, 7, none⟩ = some (.int .i64 x.l.told) ∧ w.cell? ⟨g, 8, none⟩ = some (.int .i64 x.l.at_) ∧ w.cell? ⟨g, 9, none⟩ = some (.int .i64 x.l.ver)
theorem SCells.of {w : World} {g : Nat} {x : StS} (h : w.heap[g]? = some (.cells #[.int .i64 x.do_, .int .i64 x.n, .int .u32 (x.l.addr : Int), .int .i64 x.l.bind, .string x.l.cb, .int .i64 x.l.unt, .int .i64 x.l.acked, .int .i64 x.l.told, .int .i64 x.l.at_, .int .i64 x.l.ver] 47 (0, 0))) : SCells w g x :=
  ⟨cell_of_row w g 0 _ _ _ h, cell_of_row w g 1 _ _ _ h, cell_of_row w g 2 _ _ _ h, cell_of_row w g 3 _ _ _ h, cell_of_row w g 4 _ _ _ h, cell_of_row w g 5 _ _ _ h, cell_of_row w g 6 _ _ _ h, cell_of_row w g 7 _ _ _ h, cell_of_row w g 8 _ _ _ h, cell_of_row w g 9 _ _ _ h⟩

set_option maxRecDepth 100000 in
set_option maxHeartbeats 4000000 in
theorem sstep_any {T : TabT} (K : TabK T) {B D R S M : Nat} {s : DS} {k : Kn} {w : World} (hT : TwoS T B D R S M s k w) (x : StS) (ha : x.l.addr < 4294967296) (hn : x.n ≤ 9223372036854775807) :
    Calls Tryz.prog 15 #[ptr D, ptr R, ptr S, ptr M, x.v] w (StepsS T B D R (stepS six s k x) w) := by
  have hBw := hT.size
  obtain ⟨Q, Q2, h1, h2, ap⟩ := hT.two
  obtain ⟨W, hW⟩ : ∃ W, W = w.alloc (sbox x) := ⟨_, rfl⟩
  have hlow : Below w.heap.size w W := by rw [hW]; exact (Below.refl _ _).alloc (Nat.le_refl _) _
  obtain ⟨g, hg⟩ : ∃ g, g = w.heap.size := ⟨_, rfl⟩
  have hbox : W.heap[g]? = some (.cells #[.int .i64 x.do_, .int .i64 x.n, .int .u32 (x.l.addr : Int), .int .i64 x.l.bind, .string x.l.cb, .int .i64 x.l.unt, .int .i64 x.l.acked, .int .i64 x.l.told, .int .i64 x.l.at_, .int .i64 x.l.ver] 47 (0, 0)) := by rw [hW, hg]; exact heap_alloc_new w _
  have H1 := Lib.hid (h1.later K.fr hlow)
  have H2 := Lib.hid (h2.later tr_fr hlow)
  have hQ : ¬ Q g := fun hq => by have := h1.lt K.fr g hq; omega
  have hglt : g < W.heap.size := (Array.getElem?_eq_some_iff.1 hbox).1
  have HKEEP : Hid (∀ (Q0 Q' : Nat → Prop) w1, (∀ b, Q0 b → Q b) → Way Q0 W Q' w1 → SCells w1 g x) := Lib.hid (fun Q0 Q' w1 hs hw => SCells.of ((hw.oth.block g hglt (fun hq => hQ (hs g hq))).trans hbox))
  have HBW := Lib.hid (hlow.mono hBw)
  have HBS : Hid (B ≤ W.heap.size) := Lib.hid (Nat.le_trans hBw hlow.size)
  have HAP := Lib.hid ap
  have HW := Lib.hid hW
  have HG := Lib.hid hg
  have HK := Lib.hid K
  have HA := Lib.hid ha
  have HN := Lib.hid hn
  obtain ⟨b0, b1, b2, b3, b4, b5, b6, b7, b8, b9⟩ := SCells.of hbox
  clear hT h1 h2 ap hlow hbox hQ hglt hBw hW hg K ha hn
  obtain ⟨q, hq⟩ : ∃ q, q = x.do_ := ⟨_, rfl⟩
  rw [← hq] at b0
  rcases (show q = 0 ∨ q = 1 ∨ q = 2 ∨ q = 3 ∨ q = 4 ∨ q = 5 ∨ (q ≠ 0 ∧ q ≠ 1 ∧ q ≠ 2 ∧ q ≠ 3 ∧ q ≠ 4 ∧ q ≠ 5) by omega) with rfl | rfl | rfl | rfl | rfl | rfl | hne
  · have hst : stepS six s k x = putS s k x.l := by unfold stepS; rw [if_pos hq.symm]
    obtain ⟨r, hr⟩ : ∃ r, r = putS s k x.l := ⟨_, rfl⟩
    have HSt := Lib.hid (hst.trans hr.symm)
    have HC := sd_put HK.out H1.out x.l HA.out
    rw [← hr] at HC
    have HC := Lib.hid HC
    have HR := Lib.hid hr
    clear hq hst hr
    go_enter Tryz.func15, Tryz.ntmps15
    go_upto_region 1 with fail
    change Code.wp _ _ _ _ (w.alloc (sbox x))
    rw [← HW.out, ← HG.out]
    go_wp2_with fail
    refine HC.out.mono ?_
    rintro e w1 ⟨rfl, Q', h1', hw1⟩
    obtain ⟨ap1, kp1, low1⟩ := HAP.out.first hw1 HBS.out (H2.out.lt tr_fr)
    have HH1 := Lib.hid h1'
    have HH2 := Lib.hid (H2.out.keep tr_fr kp1)
    have HAP1 := Lib.hid ap1
    have HK1 := Lib.hid (HBW.out.trans low1)
    have HS1 : Hid (B ≤ w1.heap.size) := Lib.hid (Nat.le_trans HBS.out hw1.size)
    clear b0 b1 b2 b3 b4 b5 b6 b7 b8 b9
    obtain ⟨b0, b1, b2, b3, b4, b5, b6, b7, b8, b9⟩ := HKEEP.out Q Q' w1 (fun _ h => h) hw1
    have HC2 := rsd_put HH2.out x.l HA.out
    rw [← HR.out] at HC2
    have HC2 := Lib.hid HC2
    clear h1' hw1 ap1 kp1 low1
    go_wp2_with fail
    refine HC2.out.mono ?_
    rintro e w2 ⟨rfl, Q2', h2', hw2⟩
    obtain ⟨ap2, kp2, low2⟩ := HAP1.out.second hw2 HS1.out (HH1.out.lt HK.out.fr)
    have HF : Hid (TwoS T B D R S M r.2.1 r.2.2 w2) := Lib.hid ⟨Q', Q2', HH1.out.keep HK.out.fr kp2, h2', ap2⟩
    have HB2 := Lib.hid (HK1.out.trans low2)
    have hself : (r.1 == r.1) = true := by simp
    clear h2' hw2 ap2 kp2 low2
    go_wp2
    go_ret3
    rw [HSt.out]
    exact ⟨S, M, by first | rfl | (rw [hself]; rfl) | simp, HF.out, HB2.out⟩
  · have hst : stepS six s k x = setSS s k x.n := by unfold stepS; rw [if_neg (by omega), if_pos hq.symm]
    obtain ⟨r, hr⟩ : ∃ r, r = setSS s k x.n := ⟨_, rfl⟩
    have HSt := Lib.hid (hst.trans hr.symm)
    have HC := sd_setstate HK.out.fr H1.out x.n
    rw [← hr] at HC
    have HC := Lib.hid HC
    have HR := Lib.hid hr
    clear hq hst hr
    go_enter Tryz.func15, Tryz.ntmps15
    go_upto_region 1 with fail
    change Code.wp _ _ _ _ (w.alloc (sbox x))
    rw [← HW.out, ← HG.out]
    go_wp2_with fail
    refine HC.out.mono ?_
    rintro e w1 ⟨rfl, Q', h1', hw1⟩
    obtain ⟨ap1, kp1, low1⟩ := HAP.out.first hw1 HBS.out (H2.out.lt tr_fr)
    have HH1 := Lib.hid h1'
    have HH2 := Lib.hid (H2.out.keep tr_fr kp1)
    have HAP1 := Lib.hid ap1
    have HK1 := Lib.hid (HBW.out.trans low1)
    have HS1 : Hid (B ≤ w1.heap.size) := Lib.hid (Nat.le_trans HBS.out hw1.size)
    clear b0 b1 b2 b3 b4 b5 b6 b7 b8 b9
    obtain ⟨b0, b1, b2, b3, b4, b5, b6, b7, b8, b9⟩ := HKEEP.out Q Q' w1 (fun _ h => h) hw1
    have HC2 := rsd_setstate HH2.out x.n
    rw [← HR.out] at HC2
    have HC2 := Lib.hid HC2
    clear h1' hw1 ap1 kp1 low1
    go_wp2_with fail
    refine HC2.out.mono ?_
    rintro e w2 ⟨rfl, Q2', h2', hw2⟩
    obtain ⟨ap2, kp2, low2⟩ := HAP1.out.second hw2 HS1.out (HH1.out.lt HK.out.fr)
    have HF : Hid (TwoS T B D R S M r.2.1 r.2.2 w2) := Lib.hid ⟨Q', Q2', HH1.out.keep HK.out.fr kp2, h2', ap2⟩
    have HB2 := Lib.hid (HK1.out.trans low2)
    have hself : (r.1 == r.1) = true := by simp
    clear h2' hw2 ap2 kp2 low2
    go_wp2
    go_ret3
    rw [HSt.out]
    exact ⟨S, M, by first | rfl | (rw [hself]; rfl) | simp, HF.out, HB2.out⟩
  · have hst : stepS six s k x = setFS s k x.n := by unfold stepS; rw [if_neg (by omega), if_neg (by omega), if_pos hq.symm]
    obtain ⟨r, hr⟩ : ∃ r, r = setFS s k x.n := ⟨_, rfl⟩
    have HSt := Lib.hid (hst.trans hr.symm)
    have HC := sd_setlife HK.out.fr H1.out x.n
    rw [← hr] at HC
    have HC := Lib.hid HC
    have HR := Lib.hid hr
    clear hq hst hr
    go_enter Tryz.func15, Tryz.ntmps15
    go_upto_region 1 with fail
    change Code.wp _ _ _ _ (w.alloc (sbox x))
    rw [← HW.out, ← HG.out]
    go_wp2_with fail
    refine HC.out.mono ?_
    rintro e w1 ⟨rfl, Q', h1', hw1⟩
    obtain ⟨ap1, kp1, low1⟩ := HAP.out.first hw1 HBS.out (H2.out.lt tr_fr)
    have HH1 := Lib.hid h1'
    have HH2 := Lib.hid (H2.out.keep tr_fr kp1)
    have HAP1 := Lib.hid ap1
    have HK1 := Lib.hid (HBW.out.trans low1)
    have HS1 : Hid (B ≤ w1.heap.size) := Lib.hid (Nat.le_trans HBS.out hw1.size)
    clear b0 b1 b2 b3 b4 b5 b6 b7 b8 b9
    obtain ⟨b0, b1, b2, b3, b4, b5, b6, b7, b8, b9⟩ := HKEEP.out Q Q' w1 (fun _ h => h) hw1
    have HC2 := rsd_setlife HH2.out x.n
    rw [← HR.out] at HC2
    have HC2 := Lib.hid HC2
    clear h1' hw1 ap1 kp1 low1
    go_wp2_with fail
    refine HC2.out.mono ?_
    rintro e w2 ⟨rfl, Q2', h2', hw2⟩
    obtain ⟨ap2, kp2, low2⟩ := HAP1.out.second hw2 HS1.out (HH1.out.lt HK.out.fr)
    have HF : Hid (TwoS T B D R S M r.2.1 r.2.2 w2) := Lib.hid ⟨Q', Q2', HH1.out.keep HK.out.fr kp2, h2', ap2⟩
    have HB2 := Lib.hid (HK1.out.trans low2)
    have hself : (r.1 == r.1) = true := by simp
    clear h2' hw2 ap2 kp2 low2
    go_wp2
    go_ret3
    rw [HSt.out]
    exact ⟨S, M, by first | rfl | (rw [hself]; rfl) | simp, HF.out, HB2.out⟩
  · have hst : stepS six s k x = ((syncD s).1, (syncD s).2, k) := by unfold stepS; rw [if_neg (by omega), if_neg (by omega), if_neg (by omega), if_pos hq.symm]
    obtain ⟨r, hr⟩ : ∃ r, r = ((syncD s).1, (syncD s).2, k) := ⟨_, rfl⟩
    have HSt := Lib.hid (hst.trans hr.symm)
    have HC := sd_sync HK.out.fr H1.out
    rw [← hr] at HC
    have HC := Lib.hid HC
    have HR := Lib.hid hr
    clear hq hst hr
    go_enter Tryz.func15, Tryz.ntmps15
    go_upto_region 1 with fail
    change Code.wp _ _ _ _ (w.alloc (sbox x))
    rw [← HW.out, ← HG.out]
    go_wp2_with fail
    refine HC.out.mono ?_
    rintro e w1 ⟨rfl, Q', h1', hw1⟩
    obtain ⟨ap1, kp1, low1⟩ := HAP.out.first hw1 HBS.out (H2.out.lt tr_fr)
    have HH1 := Lib.hid h1'
    have HH2 := Lib.hid (H2.out.keep tr_fr kp1)
    have HAP1 := Lib.hid ap1
    have HK1 := Lib.hid (HBW.out.trans low1)
    have HS1 : Hid (B ≤ w1.heap.size) := Lib.hid (Nat.le_trans HBS.out hw1.size)
    clear b0 b1 b2 b3 b4 b5 b6 b7 b8 b9
    obtain ⟨b0, b1, b2, b3, b4, b5, b6, b7, b8, b9⟩ := HKEEP.out Q Q' w1 (fun _ h => h) hw1
    have HC2 := rsd_sync HH2.out
    rw [← HR.out] at HC2
    have HC2 := Lib.hid HC2
    clear h1' hw1 ap1 kp1 low1
    go_wp2_with fail
    refine HC2.out.mono ?_
    rintro e w2 ⟨rfl, Q2', h2', hw2⟩
    obtain ⟨ap2, kp2, low2⟩ := HAP1.out.second hw2 HS1.out (HH1.out.lt HK.out.fr)
    have HF : Hid (TwoS T B D R S M r.2.1 r.2.2 w2) := Lib.hid ⟨Q', Q2', HH1.out.keep HK.out.fr kp2, h2', ap2⟩
    have HB2 := Lib.hid (HK1.out.trans low2)
    have hself : (r.1 == r.1) = true := by simp
    clear h2' hw2 ap2 kp2 low2
    go_wp2
    go_ret3
    rw [HSt.out]
    exact ⟨S, M, by first | rfl | (rw [hself]; rfl) | simp, HF.out, HB2.out⟩
  · have hst : stepS six s k x = ((compW s (recsK k)).1, (compW s (recsK k)).2, k) := by unfold stepS; rw [if_neg (by omega), if_neg (by omega), if_neg (by omega), if_neg (by omega), if_pos hq.symm]
    obtain ⟨r, hr⟩ : ∃ r, r = ((compW s (recsK k)).1, (compW s (recsK k)).2, k) := ⟨_, rfl⟩
    have HSt := Lib.hid (hst.trans hr.symm)
    have HC := sd_compact HK.out H1.out
    rw [← hr] at HC
    have HC := Lib.hid HC
    have HR := Lib.hid hr
    clear hq hst hr
    go_enter Tryz.func15, Tryz.ntmps15
    go_upto_region 1 with fail
    change Code.wp _ _ _ _ (w.alloc (sbox x))
    rw [← HW.out, ← HG.out]
    go_wp2_with fail
    refine HC.out.mono ?_
    rintro e w1 ⟨rfl, Q', h1', hw1⟩
    obtain ⟨ap1, kp1, low1⟩ := HAP.out.first hw1 HBS.out (H2.out.lt tr_fr)
    have HH1 := Lib.hid h1'
    have HH2 := Lib.hid (H2.out.keep tr_fr kp1)
    have HAP1 := Lib.hid ap1
    have HK1 := Lib.hid (HBW.out.trans low1)
    have HS1 : Hid (B ≤ w1.heap.size) := Lib.hid (Nat.le_trans HBS.out hw1.size)
    clear b0 b1 b2 b3 b4 b5 b6 b7 b8 b9
    obtain ⟨b0, b1, b2, b3, b4, b5, b6, b7, b8, b9⟩ := HKEEP.out Q Q' w1 (fun _ h => h) hw1
    have HC2 := rsd_compact HH2.out
    rw [← HR.out] at HC2
    have HC2 := Lib.hid HC2
    clear h1' hw1 ap1 kp1 low1
    go_wp2_with fail
    refine HC2.out.mono ?_
    rintro e w2 ⟨rfl, Q2', h2', hw2⟩
    obtain ⟨ap2, kp2, low2⟩ := HAP1.out.second hw2 HS1.out (HH1.out.lt HK.out.fr)
    have HF : Hid (TwoS T B D R S M r.2.1 r.2.2 w2) := Lib.hid ⟨Q', Q2', HH1.out.keep HK.out.fr kp2, h2', ap2⟩
    have HB2 := Lib.hid (HK1.out.trans low2)
    have hself : (r.1 == r.1) = true := by simp
    clear h2' hw2 ap2 kp2 low2
    go_wp2
    go_ret3
    rw [HSt.out]
    exact ⟨S, M, by first | rfl | (rw [hself]; rfl) | simp, HF.out, HB2.out⟩
  · have hst : stepS six s k x = (0, failD s x.n, k) := by unfold stepS; rw [if_neg (by omega), if_neg (by omega), if_neg (by omega), if_neg (by omega), if_neg (by omega), if_pos hq.symm]
    have HSt := Lib.hid hst
    have HC := Lib.hid (sd_fail HK.out.fr H1.out x.n HN.out)
    clear hq hst
    go_enter Tryz.func15, Tryz.ntmps15
    go_upto_region 1 with fail
    change Code.wp _ _ _ _ (w.alloc (sbox x))
    rw [← HW.out, ← HG.out]
    go_wp2_with fail
    refine HC.out.mono ?_
    rintro e w1 ⟨rfl, Q', h1', hw1⟩
    obtain ⟨ap1, kp1, low1⟩ := HAP.out.first hw1 HBS.out (H2.out.lt tr_fr)
    have HH1 := Lib.hid h1'
    have HH2 := Lib.hid (H2.out.keep tr_fr kp1)
    have HAP1 := Lib.hid ap1
    have HK1 := Lib.hid (HBW.out.trans low1)
    have HS1 : Hid (B ≤ w1.heap.size) := Lib.hid (Nat.le_trans HBS.out hw1.size)
    clear b0 b1 b2 b3 b4 b5 b6 b7 b8 b9
    obtain ⟨b0, b1, b2, b3, b4, b5, b6, b7, b8, b9⟩ := HKEEP.out Q Q' w1 (fun _ h => h) hw1
    have HC2 := Lib.hid (rsd_fail HH2.out x.n HN.out)
    clear h1' hw1 ap1 kp1 low1
    go_wp2_with fail
    refine HC2.out.mono ?_
    rintro e w2 ⟨rfl, Q2', h2', hw2⟩
    obtain ⟨ap2, kp2, low2⟩ := HAP1.out.second hw2 HS1.out (HH1.out.lt HK.out.fr)
    have HF : Hid (TwoS T B D R S M (failD s x.n) k w2) := Lib.hid ⟨Q', Q2', HH1.out.keep HK.out.fr kp2, h2', ap2⟩
    have HB2 := Lib.hid (HK1.out.trans low2)
    clear h2' hw2 ap2 kp2 low2
    go_wp2
    go_ret3
    rw [HSt.out]
    exact ⟨S, M, rfl, HF.out, HB2.out⟩
  · obtain ⟨n0, n1, n2, n3, n4, n5⟩ := hne
    have hst : stepS six s k x = (0, (openW (crashD s x.n)).2, knK six (scanL (openW (crashD s x.n)).2.bs)) := by unfold stepS; rw [if_neg (by omega), if_neg (by omega), if_neg (by omega), if_neg (by omega), if_neg (by omega), if_neg (by omega)]; rfl
    have HSt := Lib.hid hst
    have d0 : (q == 0) = false := by simpa using n0
    have d1 : (q == 1) = false := by simpa using n1
    have d2 : (q == 2) = false := by simpa using n2
    have d3 : (q == 3) = false := by simpa using n3
    have d4 : (q == 4) = false := by simpa using n4
    have d5 : (q == 5) = false := by simpa using n5
    obtain ⟨Q0, hd0, hs0⟩ := H1.out.dk
    obtain ⟨R0, hr0, hs1⟩ := H2.out.dk
    have HAg : Hid ((openW (crashD s x.n)).1 = 0) := Lib.hid (again_opens H1.out.ok x.n).1
    have HAP0 := Lib.hid (HAP.out.sub hs0 hs1)
    have HR0 := Lib.hid hr0
    have HS0 := Lib.hid hs0
    have HC := Lib.hid (dk_crash hd0 x.n)
    clear hq hst n0 n1 n2 n3 n4 n5 hd0 hr0 hs0 hs1
    go_enter Tryz.func15, Tryz.ntmps15
    go_upto_region 1 with fail
    change Code.wp _ _ _ _ (w.alloc (sbox x))
    rw [← HW.out, ← HG.out]
    go_wp2_with fail
    refine HC.out.mono ?_
    rintro e w1 ⟨rfl, Q1, d1', hw1⟩
    obtain ⟨ap1, kp1, low1⟩ := HAP0.out.first hw1 HBS.out HR0.out.lt
    have HD1 := Lib.hid d1'
    have HR1 := Lib.hid (HR0.out.keep kp1)
    have HAP1 := Lib.hid ap1
    have HK1 := Lib.hid (HBW.out.trans low1)
    have HS1 : Hid (B ≤ w1.heap.size) := Lib.hid (Nat.le_trans HBS.out hw1.size)
    clear b0 b1 b2 b3 b4 b5 b6 b7 b8 b9
    obtain ⟨b0, b1, b2, b3, b4, b5, b6, b7, b8, b9⟩ := HKEEP.out Q0 Q1 w1 HS0.out hw1
    have HC2 := Lib.hid (rdk_crash HR1.out x.n)
    clear d1' hw1 ap1 kp1 low1
    go_wp2_with fail
    refine HC2.out.mono ?_
    rintro e w2 ⟨rfl, R2, r2', hw2⟩
    obtain ⟨ap2, kp2, low2⟩ := HAP1.out.second hw2 HS1.out HD1.out.lt
    have HD2 := Lib.hid (HD1.out.keep kp2)
    have HR2 := Lib.hid r2'
    have HAP2 := Lib.hid ap2
    have HK2 := Lib.hid (HK1.out.trans low2)
    have HS2 : Hid (B ≤ w2.heap.size) := Lib.hid (Nat.le_trans HS1.out hw2.size)
    have HP := Lib.hid (pool_call w2)
    clear r2' hw2 ap2 kp2 low2 b0 b1 b2 b3 b4 b5 b6 b7 b8 b9
    obtain ⟨c, hc⟩ : ∃ c, c = crashD s x.n := ⟨_, rfl⟩
    rw [← hc] at HD2 HR2 HAg HSt
    clear hc
    go_wp2_with fail
    refine HP.out.mono ?_
    rintro e w3 ⟨rfl, hB3, hRg3⟩
    have HK3 := Lib.hid (HK2.out.trans (hB3.mono HS2.out))
    have HS3 : Hid (B ≤ w3.heap.size) := Lib.hid (Nat.le_trans HS2.out hB3.size)
    have HD3 := Lib.hid (HD2.out.later hB3)
    have HR3 := Lib.hid (HR2.out.later hB3)
    have HO := Lib.hid (open_six HK.out HD3.out hRg3)
    clear hB3 hRg3
    go_wp2_with fail
    refine HO.out.mono ?_
    rintro e w4 (⟨hno, _⟩ | ⟨_, S4, rfl, Q4, s4, hw4⟩)
    · exact absurd HAg.out hno
    obtain ⟨ap4, kp4, low4⟩ := HAP2.out.first hw4 HS3.out HR3.out.lt
    have HD4 := Lib.hid s4
    have HR4 := Lib.hid (HR3.out.keep kp4)
    have HAP4 := Lib.hid ap4
    have HK4 := Lib.hid (HK3.out.trans low4)
    have HS4 : Hid (B ≤ w4.heap.size) := Lib.hid (Nat.le_trans HS3.out hw4.size)
    have HP4 := Lib.hid (pool_call w4)
    clear s4 hw4 ap4 kp4 low4
    go_wp2_with fail
    refine HP4.out.mono ?_
    rintro e w5 ⟨rfl, hB5, hRg5⟩
    have HK5 := Lib.hid (HK4.out.trans (hB5.mono HS4.out))
    have HS5 : Hid (B ≤ w5.heap.size) := Lib.hid (Nat.le_trans HS4.out hB5.size)
    have HD5 := Lib.hid (HD4.out.later HK.out.fr hB5)
    have HR5 := Lib.hid (HR4.out.later hB5)
    have HO5 := Lib.hid (ropen_six HR5.out hRg5)
    clear hB5 hRg5
    go_wp2_with fail
    refine HO5.out.mono ?_
    rintro e w6 (⟨hno, _⟩ | ⟨_, S6, rfl, Q6, s6, hw6⟩)
    · exact absurd HAg.out hno
    obtain ⟨ap6, kp6, low6⟩ := HAP4.out.second hw6 HS5.out (HD5.out.lt HK.out.fr)
    have HF : Hid (TwoS T B D R S4 S6 (openW c).2 (knK six (scanL (openW c).2.bs)) w6) := Lib.hid ⟨Q4, Q6, HD5.out.keep HK.out.fr kp6, s6, ap6⟩
    have HB6 := Lib.hid (HK5.out.trans low6)
    clear s6 hw6 ap6 kp6 low6
    go_wp2
    go_ret3
    rw [HSt.out]
    exact ⟨S4, S6, rfl, HF.out, HB6.out⟩
end Go.Proofs.YtalmjmhbpmhokaaGreat
end

/- awake of layer 13's laws. -/
section
namespace Go.Proofs.YtalmjmhbpmhokaaGreat
open Go.RowKit Go.Sort

def saw0 : DS := ⟨1000, [], 0, -1⟩
def saw1 : Int × DS × Kn := putS saw0 (knK six (scanL saw0.bs)) (bareL 1 1 0)
def saw2 : Int × DS × Kn := setFS saw1.2.1 saw1.2.2 3
def saw3 : Int × DS × Kn := ((syncD saw2.2.1).1, (syncD saw2.2.1).2, saw2.2.2)
def saw4 : Int × DS × Kn := setSS saw3.2.1 saw3.2.2 2
def saw5 : Kn := knK six (scanL (openW (crashD saw4.2.1 0)).2.bs)
theorem saw_fin : (openW (crashD saw4.2.1 0)).1 = 0 ∧ getL saw5.L 1 = (bareL 1 1 0, 0) ∧ saw5.lf = 3 ∧ saw5.st = 0 := by decide +kernel

section
variable {T : TabT} {w : World} {Q Q' : Nat → Prop} {S D B : Nat} {s : DS} {k : Kn} {w' : World} {r : Int × DS × Kn} {e : Ending}
/-- A call upon one store, above block B. -/
theorem AnsS.low {sty lty ty : TypeId} (h : AnsS T sty lty ty w Q S D r e w') (hB : B ≤ w.heap.size) (hQ : ∀ b, Q b → B ≤ b) : e = .returned (.int .i64 r.1) ∧ ∃ Q', Sd T sty lty ty w' Q' S D r.2.1 r.2.2 ∧ (∀ b, Q' b → B ≤ b) ∧ Below B w w' := by
  obtain ⟨he, Q', h1, hw⟩ := h
  exact ⟨he, Q', h1, hw.low hB hQ, hw.below hB hQ⟩
end

set_option maxRecDepth 100000 in
set_option maxHeartbeats 2000000 in
theorem sawake_any {T : TabT} (K : TabK T) (w : World) : Calls Tryz.prog 8 #[] w fun e w' => e = .returned (.bool true) ∧ Below w.heap.size w w' := by
  obtain ⟨f0, f1, f2, f3⟩ := saw_fin
  have HN := Lib.hid (dk_new w 1000 (by decide) (by decide))
  have HK := Lib.hid K
  have HF0 := Lib.hid f0
  have HF1 := Lib.hid f1
  have HF2 := Lib.hid f2
  have HF3 := Lib.hid f3
  clear K f0 f1 f2 f3
  go_enter Tryz.func8, Tryz.ntmps8
  go_wp2_with fail
  refine HN.out.mono ?_
  rintro e w1 ⟨rfl, hd1, hB1⟩
  have hD : ∀ b, b = w.heap.size → w.heap.size ≤ b := fun b e => Nat.le_of_eq e.symm
  obtain ⟨D, hDD⟩ : ∃ D, D = w.heap.size := ⟨_, rfl⟩
  obtain ⟨B, hBB⟩ : ∃ B, B = w.heap.size := ⟨_, rfl⟩
  have hD : ∀ b, b = D → B ≤ b := fun b e => by omega
  rw [← hDD] at hd1 ⊢
  have hB1' : Below B w w1 := by rw [hBB]; exact hB1
  have HB1 := Lib.hid hB1'
  have HS1 : Hid (B ≤ w1.heap.size) := Lib.hid (by have := hB1.size; omega)
  have HDl := Lib.hid hD
  have HD1 : Hid (Dk DT w1 (· = D) D saw0) := Lib.hid hd1
  have HBB := Lib.hid hBB
  have HP1 := Lib.hid (pool_call w1)
  clear hd1 hB1 hB1' hD hDD hBB HN
  go_wp2_with fail
  refine HP1.out.mono ?_
  rintro e w2 ⟨rfl, hB2, hR2⟩
  have HB2 := Lib.hid (HB1.out.trans (hB2.mono HS1.out))
  have HS2 : Hid (B ≤ w2.heap.size) := Lib.hid (Nat.le_trans HS1.out hB2.size)
  have HO := Lib.hid (open_six HK.out (HD1.out.later hB2) hR2)
  have ho : openW saw0 = (0, saw0) := (Whl.new 1000 0 (-1)).open_
  unfold Opens6 at HO
  rw [ho] at HO
  clear hB2 hR2 ho
  go_wp2_with fail
  refine HO.out.mono ?_
  rintro e w3 (⟨hno, _⟩ | ⟨_, S, rfl, Q3, s3, hw3⟩)
  · exact absurd rfl hno
  have HSd3 := Lib.hid s3
  have HQ3 := Lib.hid (hw3.low HS2.out HDl.out)
  have HB3 := Lib.hid (HB2.out.trans (hw3.below HS2.out HDl.out))
  have HS3 : Hid (B ≤ w3.heap.size) := Lib.hid (Nat.le_trans HS2.out hw3.size)
  have HC3 := Lib.hid (sd_put HK.out s3 (bareL 1 1 0) (by decide))
  clear s3 hw3
  go_wp2_with fail
  refine HC3.out.mono ?_
  intro e w4 hh
  obtain ⟨rfl, Q4, s4, q4, l4⟩ := hh.low HS3.out HQ3.out
  have s4 : Sd T StT LT DT w4 Q4 S D saw1.2.1 saw1.2.2 := s4
  have HQ4 := Lib.hid q4
  have HB4 := Lib.hid (HB3.out.trans l4)
  have HS4 : Hid (B ≤ w4.heap.size) := Lib.hid (Nat.le_trans HS3.out l4.size)
  have HC4 := Lib.hid (sd_setlife HK.out.fr s4 3)
  clear hh s4 q4 l4
  go_wp2_with fail
  refine HC4.out.mono ?_
  intro e w5 hh
  obtain ⟨rfl, Q5, s5, q5, l5⟩ := hh.low HS4.out HQ4.out
  have s5 : Sd T StT LT DT w5 Q5 S D saw2.2.1 saw2.2.2 := s5
  have HQ5 := Lib.hid q5
  have HB5 := Lib.hid (HB4.out.trans l5)
  have HS5 : Hid (B ≤ w5.heap.size) := Lib.hid (Nat.le_trans HS4.out l5.size)
  have HC5 := Lib.hid (sd_sync HK.out.fr s5)
  clear hh s5 q5 l5
  go_wp2_with fail
  refine HC5.out.mono ?_
  intro e w6 hh
  obtain ⟨rfl, Q6, s6, q6, l6⟩ := hh.low HS5.out HQ5.out
  have s6 : Sd T StT LT DT w6 Q6 S D saw3.2.1 saw3.2.2 := s6
  have HQ6 := Lib.hid q6
  have HB6 := Lib.hid (HB5.out.trans l6)
  have HS6 : Hid (B ≤ w6.heap.size) := Lib.hid (Nat.le_trans HS5.out l6.size)
  have HC6 := Lib.hid (sd_setstate HK.out.fr s6 2)
  clear hh s6 q6 l6
  go_wp2_with fail
  refine HC6.out.mono ?_
  intro e w7 hh
  obtain ⟨rfl, Q7, s7, q7, l7⟩ := hh.low HS6.out HQ6.out
  have s7 : Sd T StT LT DT w7 Q7 S D saw4.2.1 saw4.2.2 := s7
  obtain ⟨Q0, d7, sub7⟩ := s7.dk
  have HQ7 : Hid (∀ b, Q0 b → B ≤ b) := Lib.hid (fun b hb => q7 b (sub7 b hb))
  have HB7 := Lib.hid (HB6.out.trans l7)
  have HS7 : Hid (B ≤ w7.heap.size) := Lib.hid (Nat.le_trans HS6.out l7.size)
  have HC7 := Lib.hid (dk_crash d7 0)
  clear hh s7 q7 l7 d7 sub7
  go_wp2_with fail
  refine HC7.out.mono ?_
  rintro e w8 ⟨rfl, Q8, d8, hw8⟩
  have HD8 := Lib.hid d8
  have HQ8 := Lib.hid (hw8.low HS7.out HQ7.out)
  have HB8 := Lib.hid (HB7.out.trans (hw8.below HS7.out HQ7.out))
  have HS8 : Hid (B ≤ w8.heap.size) := Lib.hid (Nat.le_trans HS7.out hw8.size)
  have HP8 := Lib.hid (pool_call w8)
  clear d8 hw8
  go_wp2_with fail
  refine HP8.out.mono ?_
  rintro e w9 ⟨rfl, hB9, hR9⟩
  have HB9 := Lib.hid (HB8.out.trans (hB9.mono HS8.out))
  have HS9 : Hid (B ≤ w9.heap.size) := Lib.hid (Nat.le_trans HS8.out hB9.size)
  have HO9 := Lib.hid (open_six HK.out (HD8.out.later hB9) hR9)
  clear hB9 hR9
  go_wp2_with fail
  refine HO9.out.mono ?_
  rintro e wa (⟨hno, _⟩ | ⟨_, S2, rfl, Qa, sa, hwa⟩)
  · exact absurd HF0.out hno
  have sa : Sd T StT LT DT wa Qa S2 D (openW (crashD saw4.2.1 0)).2 saw5 := sa
  have HSa := Lib.hid sa
  have HBa := Lib.hid (HB9.out.trans (hwa.below HS9.out HQ8.out))
  have HSSa : Hid (B ≤ wa.heap.size) := Lib.hid (Nat.le_trans HS9.out hwa.size)
  obtain ⟨P, g, hT, hPQ, hTab⟩ := sd_table HK.out.fr sa
  have HTB := Lib.hid (hTab wa (KpT.of_below (Below.refl _ _) (sa.lt HK.out.fr))).2
  have HGET := HK.out.get 1 hT (by decide)
  rw [HF1.out] at HGET
  have HGET := Lib.hid HGET
  clear sa hwa hT hPQ hTab
  go_wp2_with fail
  refine HTB.out.mono ?_
  rintro e w' ⟨rfl, rfl⟩
  go_wp2_with fail
  refine HTB.out.mono ?_
  rintro e w' ⟨rfl, rfl⟩
  go_wp2_with fail
  refine HGET.out.mono ?_
  rintro e wb ⟨rfl, hBb⟩
  obtain ⟨wc, hwc⟩ : ∃ wc, wc = wb.alloc (lbox (bareL 1 1 0)) := ⟨_, rfl⟩
  have hBc : Below wb.heap.size wb wc := by rw [hwc]; exact (Below.refl _ _).alloc (Nat.le_refl _) _
  have HX : Hid (LBox wc wb.heap.size (bareL 1 1 0)) := Lib.hid (by rw [hwc]; exact LBox.new wb _)
  have HSc := Lib.hid ((HSa.out.later HK.out.fr hBb).later HK.out.fr hBc)
  have HBc := Lib.hid ((HBa.out.trans (hBb.mono HSSa.out)).trans (hBc.mono (Nat.le_trans HSSa.out hBb.size)))
  have HWc := Lib.hid hwc
  have HLI := Lib.hid (sd_life HSc.out)
  have HST := Lib.hid (sd_state HSc.out)
  rw [HF2.out] at HLI
  rw [HF3.out] at HST
  clear hBb hwc hBc
  go_upto_region 14 with fail
  rw [← HWc.out]
  obtain ⟨z0, z1, z2, z3, z4, z5, z6, z7⟩ := HX.out.all
  have z1 : wc.cell? ⟨wb.heap.size, 1, none⟩ = some (.int .i64 1) := z1
  go_wp2_with fail
  refine HLI.out.mono ?_
  rintro e w' ⟨rfl, rfl⟩
  go_wp2_with fail
  refine HST.out.mono ?_
  rintro e w' ⟨rfl, rfl⟩
  go_wp2
  go_ret
  have := HBc.out
  rw [HBB.out] at this
  exact ⟨by first | rfl | simp, this⟩
end Go.Proofs.YtalmjmhbpmhokaaGreat
end
