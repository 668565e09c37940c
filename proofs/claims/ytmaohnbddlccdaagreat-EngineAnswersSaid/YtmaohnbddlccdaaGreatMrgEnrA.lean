/- Joined texts: EnrA, EnrC. -/
import Derived.Test.YtmaohnbddlccdaaGreatMrgEngX
import Derived.Test.YtmaohnbddlccdaaGreatMrgPktN
import Derived.Test.YtmaohnbddlccdaaGreatMrgRefM
import Derived.Test.YtmaohnbddlccdaaGreatMrgGraD
import Derived.Lib.QuietBelow

/- engine, the document's: within, Rules, theirs, Asked, time, four, chosen. -/
section
namespace Go.Proofs.YtmaohnbddlccdaaGreat
open Go.RowKit Go.Sort

theorem rwithin_any (n lo hi : Int) (w : World) : Calls Tryz.prog 41 #[.int .i64 n, .int .i64 lo, .int .i64 hi] w fun e w' => e = .returned (.bool (witB n lo hi)) ∧ w = w' := by
  unfold witB
  cases h1 : decide (lo ≤ n)
  all_goals
    go_enter Tryz.func41, Tryz.ntmps41
    go_wp2
    go_ret
    exact ⟨rfl, rfl⟩

theorem rtheirs_any (m : LV) (c : List UInt8) (w : World) : Calls Tryz.prog 48 #[m.v, .string ⟨c.toArray⟩] w fun e w' => e = .returned (.bool (theirsB m c)) ∧ Below w.heap.size w w' := by
  obtain ⟨w0, hw0⟩ : ∃ w0, w0 = w.alloc (lbox m) := ⟨_, rfl⟩
  have HL : Hid (LBox w0 w.heap.size m) := Lib.hid (by rw [hw0]; exact LBox.new w m)
  have HB : Hid (Below w.heap.size w w0) := Lib.hid (by rw [hw0]; exact (Below.refl _ _).alloc (Nat.le_refl _) _)
  have HW0 := Lib.hid hw0
  clear hw0
  have l1 := HL.out.c1
  have l2 := HL.out.c2
  unfold theirsB
  rw [← cb_toListA]
  cases h1 : (m.bind == 2)
  all_goals
    go_enter Tryz.func48, Tryz.ntmps48
    go_upto_region 1 with fail
    rw [← HW0.out]
    go_wp2
    go_ret
    exact ⟨rfl, HB.out⟩

theorem rowR15 : RowT 124 3 := ⟨by kernel_rfl, by kernel_rfl⟩
set_option maxRecDepth 100000 in
set_option maxHeartbeats 1000000 in
theorem rrules_any (x : SiteV) (w : World) : Calls Tryz.prog 89 #[x.v] w fun e w' => e = .returned (NC.r3v x.id x.lead x.guard) ∧ Below w.heap.size w w' := by
  have hb : Below w.heap.size w (w.alloc (.cells x.cells 27)) := (Below.refl _ _).alloc (Nat.le_refl _) _
  have hs : (w.alloc (.cells x.cells 27)).heap.size = w.heap.size + 1 := by simp
  have HB := Lib.hid (hb.alloc hb.size (NC.r3box 124 x.id x.lead x.guard))
  have HX : Hid (Bx ((w.alloc (.cells x.cells 27)).alloc (NC.r3box 124 x.id x.lead x.guard)) (w.heap.size + 1) 124 #[.int .i64 x.id, .int .i64 x.lead, .int .i64 x.guard]) := Lib.hid (by rw [← hs]; exact Bx.new _ _ _)
  have HS := Lib.hid hs
  clear hb hs
  go_enter Tryz.func89, Tryz.ntmps89
  go_wp2
  exact bodyPost_ret (v := NC.r3v x.id x.lead x.guard) (results_R rowR15 rfl rfl HX.out rfl) rfl ⟨rfl, HB.out⟩

set_option maxRecDepth 100000 in
set_option maxHeartbeats 1000000 in
theorem rask_any (x : SiteV) (p : NO.PktV) (w : World) (hp : NO.Pk w w.heap.size p) (hL : p.L.length ≤ 1000) (hd : ∀ y ∈ p.L, y.data.length ≤ 1000) :
    Calls Tryz.prog 43 #[x.v, p.v] w fun e w' => e = .returned (.tuple #[.int .u32 ((NO.askA p.abs : Nat) : Int), .int .i64 (wantE x p.abs)]) ∧ Below w.heap.size w w' := by
  obtain ⟨w0, hw0⟩ : ∃ w0, w0 = (w.alloc (.cells x.cells 27)).alloc (NO.pbox p) := ⟨_, rfl⟩
  have hs : (w.alloc (.cells x.cells 27)).heap.size = w.heap.size + 1 := by simp
  have hB : Below w.heap.size w w0 := by rw [hw0]; exact ((Below.refl _ _).alloc (Nat.le_refl _) _).alloc (by simp) _
  have hX : SBox w0 w.heap.size x := by rw [hw0]; exact (Bx.new _ _ _).alloc _
  have hP : Bx w0 (w.heap.size + 1) 32 p.cells := by rw [hw0, ← hs]; exact Bx.new _ _ _
  have HX := Lib.hid hX
  have HP := Lib.hid hP
  have HB := Lib.hid hB
  have HW0 := Lib.hid hw0
  have HA := Lib.hid (NO.rasked_any p w0 (hp.later hB) hL hd)
  unfold wantE
  generalize NO.askA p.abs = ad at *
  obtain ⟨p0, p1, p2, p3, p4, p5, p6, p7, p8, p9⟩ := NO.PBox.all (show NO.PBox w0 (w.heap.size + 1) p from hP)
  clear hw0 hs hB hX hP hp hd hL
  by_cases h0 : NO.longA p.abs = 0
  · rw [if_pos h0]
    have t0 : ((NO.longA p.abs : Nat) : Int) = 0 := by rw [h0]; rfl
    rw [t0] at HA
    clear t0 h0
    go_enter Tryz.func43, Tryz.ntmps43
    go_upto_region 1 with fail
    rw [← HW0.out]
    go_wp2_with fail
    refine HA.out.mono ?_
    rintro e w1 ⟨rfl, hb1⟩
    have HB1 := Lib.hid (HB.out.trans (hb1.mono HB.out.size))
    have x4 := (HX.out.later hb1).at_ 4
    have x5 := cell_regrown ((HX.out.later hb1).at_ 5)
    clear hb1 p0 p1 p2 p3 p4 p5 p6 p7 p8 p9
    go_upto_region 4 with fail
    refine wp_region_quiet_below (by kernel_rfl) (by kernel_rfl) ?_
    repeat (go_big_quiet_step (fail))
    refine wpQuiet_nil ?_
    intro _ hw'
    obtain ⟨⟨dq, osq⟩, hw''⟩ := hw'
    subst hw''
    go_wp2
    go_ret2
    exact ⟨rfl, HB1.out.trans ((below_regrown w1 dq osq).mono HB1.out.size)⟩
  · rw [if_neg h0]
    have HN := Lib.hid h0
    have t0 : (((NO.longA p.abs : Nat) : Int) == 0) = false := by simpa using h0
    clear h0
    generalize NO.longA p.abs = lg at *
    go_enter Tryz.func43, Tryz.ntmps43
    go_upto_region 1 with fail
    rw [← HW0.out]
    go_wp2_with fail
    refine HA.out.mono ?_
    rintro e w1 ⟨rfl, hb1⟩
    have HB1 := Lib.hid (HB.out.trans (hb1.mono HB.out.size))
    have x5 := cell_regrown ((HX.out.later hb1).at_ 5)
    clear hb1 p0 p1 p2 p3 p4 p5 p6 p7 p8 p9
    go_upto_region 4 with fail
    refine wp_region_quiet_below (by kernel_rfl) (by kernel_rfl) ?_
    repeat (go_big_quiet_step (fail))
    refine wpQuiet_nil ?_
    intro _ hw'
    obtain ⟨⟨dq, osq⟩, hw''⟩ := hw'
    subst hw''
    go_wp2
    go_ret2
    exact ⟨rfl, HB1.out.trans ((below_regrown w1 dq osq).mono HB1.out.size)⟩

set_option maxRecDepth 100000 in
set_option maxHeartbeats 1000000 in
theorem rtime_any (x : SiteV) (m : LV) (c : List UInt8) (now want : Int) (w : World) : Calls Tryz.prog 87 #[x.v, m.v, .string ⟨c.toArray⟩, .int .i64 now, .int .i64 want] w fun e w' => e = .returned (.int .i64 (longT x.lead now want c m)) ∧ Below w.heap.size w w' := by
  obtain ⟨w0, hw0⟩ : ∃ w0, w0 = (w.alloc (.cells x.cells 27)).alloc (lbox m) := ⟨_, rfl⟩
  have hs : (w.alloc (.cells x.cells 27)).heap.size = w.heap.size + 1 := by simp
  have HB : Hid (Below w.heap.size w w0) := Lib.hid (by rw [hw0]; exact ((Below.refl _ _).alloc (Nat.le_refl _) _).alloc (by simp) _)
  have HX : Hid (SBox w0 w.heap.size x) := Lib.hid (by rw [hw0]; exact (Bx.new _ _ _).alloc _)
  have HL : Hid (LBox w0 (w.heap.size + 1) m) := Lib.hid (by rw [hw0, ← hs]; exact LBox.new _ m)
  have HW0 := Lib.hid hw0
  clear hw0 hs
  have HT := Lib.hid (fun V => rtheirs_any m c V)
  have HR := Lib.hid (fun V => rrules_any x V)
  have HU := Lib.hid (fun a V => NC.runtil_any x.id x.lead x.guard now want a V)
  have HF := Lib.hid (fun u V => NC.rleft_any now u V)
  obtain ⟨l0, l1, l2, l3, l4, l5, l6, l7⟩ := HL.out.all
  unfold longT
  generalize theirsB m c = b at *
  cases b
  all_goals
    go_enter Tryz.func87, Tryz.ntmps87
    go_upto_region 2 with fail
    rw [← HW0.out]
    go_wp2_with fail
    refine (HT.out _).mono ?_
    rintro e w1 ⟨rfl, hb1⟩
    have HX1 := Lib.hid (HX.out.later hb1)
    have HB1 := Lib.hid (HB.out.trans (hb1.mono HB.out.size))
    have k4 := (HL.out.later hb1).c4
    clear hb1 l0 l1 l2 l3 l4 l5 l6 l7
    obtain ⟨x0, x1, x2, x3, x4, x5, x6, x7, x8, x9, x10, x11, x12⟩ := SBox.all HX1.out
    go_wp2_with fail
    refine (HR.out _).mono ?_
    rintro e w2 ⟨rfl, hb2⟩
    have HB2 := Lib.hid (HB1.out.trans (hb2.mono HB1.out.size))
    clear hb2 k4 x0 x1 x2 x3 x4 x5 x6 x7 x8 x9 x10 x11 x12
    go_wp2_with fail
    refine (HU.out _ _).mono ?_
    rintro e w3 ⟨rfl, hb3⟩
    have HB3 := Lib.hid (HB2.out.trans (hb3.mono HB2.out.size))
    clear hb3
    go_wp2_with fail
    refine (HF.out _ _).mono ?_
    rintro e w' ⟨rfl, rfl⟩
    go_wp2
    all_goals
      go_ret
      refine ⟨?_, HB3.out⟩
      first | rfl | (show Ending.returned (.int .i64 _) = _; congr 2; first | done | omega)

/-- A row of bytes is given. -/
def GivesY (w : World) (l : List UInt8) (e : Ending) (w' : World) : Prop := ∃ A c, e = .returned (.slice A l.length c) ∧ NO.By w' w'.heap.size A l ∧ Below w.heap.size w w'
set_option maxRecDepth 100000 in
set_option maxHeartbeats 1000000 in
theorem rfour_any (n : Int) (hn : n < 9223372036854775808) (w : World) : Calls Tryz.prog 94 #[.int .i64 n] w (GivesY w (NO.bytR n 4).1) := by
  have HN := Lib.hid (NO.rbytes_any n 4 hn w)
  unfold NO.GivesB at HN
  go_enter Tryz.func94, Tryz.ntmps94
  go_wp2_with fail
  refine HN.out.mono ?_
  rintro e w1 ⟨A, c, rfl, hby, -, hb1⟩
  go_wp2
  go_ret
  exact ⟨A, c, rfl, hby, hb1⟩

set_option maxRecDepth 100000 in
set_option maxHeartbeats 1000000 in
theorem rchosen_any (p : NO.PktV) (w : World) (hp : NO.Pk w w.heap.size p) (hL : p.L.length ≤ 1000) (hd : ∀ x ∈ p.L, x.data.length ≤ 1000) :
    Calls Tryz.prog 90 #[p.v] w fun e w' => ∃ v : Int, e = .returned (.tuple #[.int .u32 v, .bool (toldE p.abs)]) ∧ Hid (toldE p.abs = true → v = ((NO.numL (NO.fd p.abs 54) : Nat) : Int)) ∧ Below w.heap.size w w' := by
  have hB0 : Below w.heap.size w (w.alloc (NO.pbox p)) := (Below.refl _ _).alloc (Nat.le_refl _) _
  have HB0 := Lib.hid hB0
  have HF := Lib.hid (NO.rfind_any p.opA p.opC p.L 54 (w.alloc (NO.pbox p)) (hp.boxed (NO.pbox p)).opt (by omega))
  have hfl := NO.fd_len p hd 54
  unfold toldE
  obtain ⟨l, hl⟩ : ∃ l, l = NO.fd p.abs 54 := ⟨_, rfl⟩
  have hl' : (NO.findL (NO.absL p.L) 54).1 = l := hl.symm
  rw [← hl] at hfl ⊢
  unfold NO.GivesF at HF
  rw [hl'] at HF
  clear hl hl' hd hp hB0
  have HN := Lib.hid (fun A c W (h : NO.By W W.heap.size A l) => NO.rnumber_any A c l W h hfl)
  by_cases hz : NO.sizedB (l.length : Int) = true
  · have HR := Lib.hid (show NO.numR l = (((NO.numL l : Nat) : Int), 0) by unfold NO.numR; rw [hz]; rfl)
    rw [HR.out] at HN
    clear hz
    by_cases hlen : l.length = 4
    · rw [decide_eq_true hlen]
      have hne : ((l.length : Int) == 4) = true := by simp; omega
      have hwr := NO.wrap32 (NO.numL l) (NO.num4_lt l hlen)
      clear hlen
      go_enter Tryz.func90, Tryz.ntmps90
      go_wp2_with fail
      refine HF.out.mono ?_
      rintro e w1 ⟨A, c, rfl, hby, hB1⟩
      go_wp2_with fail
      refine (HN.out A c w1 hby).mono ?_
      rintro e w' ⟨rfl, rfl⟩
      go_wp2
      go_ret2
      exact ⟨_, rfl, Lib.hid (fun _ => rfl), HB0.out.trans (hB1.mono HB0.out.size)⟩
    · rw [decide_eq_false hlen]
      have hne : ((l.length : Int) == 4) = false := by simp; omega
      clear hlen
      go_enter Tryz.func90, Tryz.ntmps90
      go_wp2_with fail
      refine HF.out.mono ?_
      rintro e w1 ⟨A, c, rfl, hby, hB1⟩
      go_wp2_with fail
      refine (HN.out A c w1 hby).mono ?_
      rintro e w' ⟨rfl, rfl⟩
      go_wp2
      go_ret2
      exact ⟨_, rfl, Lib.hid (fun h => absurd h (by decide)), HB0.out.trans (hB1.mono HB0.out.size)⟩
  · have hz' : NO.sizedB (l.length : Int) = false := by simpa using hz
    have HR := Lib.hid (show NO.numR l = (0, 2) by unfold NO.numR; rw [hz']; rfl)
    rw [HR.out] at HN
    have hlen : ¬ l.length = 4 := by intro h; rw [h] at hz; exact hz (by decide)
    rw [decide_eq_false hlen]
    clear hz hz' hlen
    go_enter Tryz.func90, Tryz.ntmps90
    go_wp2_with fail
    refine HF.out.mono ?_
    rintro e w1 ⟨A, c, rfl, hby, hB1⟩
    go_wp2_with fail
    refine (HN.out A c w1 hby).mono ?_
    rintro e w' ⟨rfl, rfl⟩
    go_wp2
    go_ret2
    exact ⟨_, rfl, Lib.hid (fun h => absurd h (by decide)), HB0.out.trans (hB1.mono HB0.out.size)⟩
end Go.Proofs.YtmaohnbddlccdaaGreat
end

/- engine, the document's: mine; Right. -/
section
namespace Go.Proofs.YtmaohnbddlccdaaGreat
open Go.RowKit Go.Sort

set_option maxRecDepth 100000 in
set_option maxHeartbeats 2000000 in
theorem rmine_any (x : SiteV) (c : List UInt8) (w : World) (hc : c.length ≤ 1000) :
    Calls Tryz.prog 85 #[x.v, .string ⟨c.toArray⟩] w fun e w' => e = .returned (.bool (mineE x c)) ∧ Below w.heap.size w w' := by
  obtain ⟨w0, hw0⟩ : ∃ w0, w0 = w.alloc (.cells x.cells 27) := ⟨_, rfl⟩
  have HX : Hid (SBox w0 w.heap.size x) := Lib.hid (by rw [hw0]; exact Bx.new _ _ _)
  have HB : Hid (Below w.heap.size w w0) := Lib.hid (by rw [hw0]; exact (Below.refl _ _).alloc (Nat.le_refl _) _)
  have HW0 := Lib.hid hw0
  clear hw0
  have HF := Lib.hid (fun V => NB.rfirst_any x.first V)
  have HNT := Lib.hid (fun V => NB.rnot_any (NB.maskL (NB.ltF x.first)) (NB.maskL_is _) V)
  have HH := Lib.hid (fun f k V => NB.rhas_any (NB.maskL f) (NB.maskL_is f) k V)
  have HBU := Lib.hid (fun V => NB.rbucket_any ⟨c.toArray⟩ (by simp [ByteArray.size]; omega) V)
  have hbk : NB.bkN (NB.listOf ⟨c.toArray⟩) = NB.bkN c := by simp [NB.listOf]
  rw [hbk] at HBU
  have hlt := NB.bkN_lt c
  unfold mineE
  generalize NB.bkN c = bk at *
  have HM1 : Hid (NB.hasI (NB.maskL (NB.ltF x.first)) (bk : Int) = decide ((bk : Int) < x.first)) := Lib.hid (hasI_mask _ bk hlt)
  have HM2 : Hid (NB.hasI (NB.maskL fun k => !NB.hasL (NB.maskL (NB.ltF x.first)) k) (bk : Int) = !decide ((bk : Int) < x.first)) := Lib.hid (by rw [hasI_mask _ bk hlt, NB.has_mask _ bk hlt]; rfl)
  have HL1 : Hid ((NB.cellsM (NB.maskL (NB.ltF x.first))).length = 32) := Lib.hid (by rw [NB.cellsM_len, NB.maskL_len])
  have HL2 : Hid ((NB.cellsM (NB.maskL fun k => !NB.hasL (NB.maskL (NB.ltF x.first)) k)).length = 32) := Lib.hid (by rw [NB.cellsM_len, NB.maskL_len])
  have HH1 := Lib.hid (HH.out (NB.ltF x.first) (bk : Int))
  have HH2 := Lib.hid (HH.out (fun k => !NB.hasL (NB.maskL (NB.ltF x.first)) k) (bk : Int))
  rw [HM1.out] at HH1
  rw [HM2.out] at HH2
  unfold NB.OfFirst at HF HNT
  generalize (NB.maskL fun k => !NB.hasL (NB.maskL (NB.ltF x.first)) k) = N at *
  generalize (NB.maskL (NB.ltF x.first)) = F at *
  generalize decide ((bk : Int) < x.first) = d at *
  have x0 := HX.out.at_ 0
  have x6 := HX.out.at_ 6
  clear hbk hlt HH HM1 HM2
  unfold NB.maskV at HF HNT HH1 HH2
  by_cases hid : x.id = 1
  · have t1 : (x.id == 1) = true := by simp [hid]
    rw [if_pos hid]
    clear hid
    go_enter Tryz.func85, Tryz.ntmps85
    go_upto_region 1 with fail
    rw [← HW0.out]
    go_wp2_with fail
    refine (HF.out _).mono ?_
    rintro e w1 ⟨rfl, hb1⟩
    have HX1 := Lib.hid (NB.Lies.new w1 (NB.cellsM F) 144)
    have hb01 := HB.out.trans (hb1.mono HB.out.size)
    have HB1 := Lib.hid (hb01.alloc hb01.size (.cells (NB.cellsM F).toArray 144))
    have k0 := (HX.out.later (hb1.alloc hb1.size (.cells (NB.cellsM F).toArray 144))).at_ 0
    have hb1' := HB1.out
    have hb1s := hb01.size
    clear x0 x6 hb1 hb01
    go_wp2_with (first
      | (refine NB.wp_storeN NB.arrA rfl _ _ rfl _ _ _ rfl rfl rfl HL1.out (NB.cellsM_one _) rfl ?_)
      | (refine NB.wp_loadW NB.arrA rfl _ rfl _ rfl HX1.out HL1.out ?_))
    refine (HNT.out _).mono ?_
    rintro e w3 ⟨rfl, hb3⟩
    have HX3 := Lib.hid (HX1.out.later hb3 HX1.out.lt)
    have hq3 := hb1'.trans (hb3.mono hb1'.size)
    obtain ⟨w4, hw4⟩ : ∃ w4, w4 = w3.setRow w1.heap.size (NB.cellsM N).toArray := ⟨_, rfl⟩
    have h4 : Below w.heap.size w3 w4 := by rw [hw4]; exact below_setRow _ _ _ hb1s
    have HB4 := Lib.hid (hq3.trans h4)
    have HX4 : Hid (NB.Lies w4 w1.heap.size (NB.cellsM N) 144) := Lib.hid (by rw [hw4]; exact HX3.out.row _)
    have HW4 := Lib.hid hw4
    clear k0 hb3 hq3 hw4 h4 hb1' hb1s
    go_upto_region 4 with (first
      | (refine NB.wp_storeT NB.arrA rfl _ _ rfl _ _ rfl rfl HX3.out HL1.out HL2.out (NB.cellsM_one _) ?_))
    go_simp
    rw [← HW4.out]
    have hX := lies_regrown HX4.out
    have HX := Lib.hid hX
    clear hX
    have C1 := Lib.hid (qs HBU.out w4)
    have C2 := Lib.hid (NC.qb HH2.out w4)
    refine wp_region_quiet_below (by kernel_rfl) (by kernel_rfl) ?_
    repeat (first
      | (go_big_quiet_want; (refine NB.quiet_load NB.arrA _ rfl _ rfl HX.out HL2.out ?_); go_simp; go_big_quiet_on)
      | go_big_quiet_step ((first | with_reducible exact C1.out _ _ | with_reducible exact C2.out _ _)))
    refine wpQuiet_nil ?_
    intro _ hw'
    obtain ⟨⟨dq, osq⟩, hw''⟩ := hw'
    subst hw''
    go_wp2
    go_ret
    exact ⟨rfl, HB4.out.trans ((below_regrown w4 dq osq).mono HB4.out.size)⟩
  · have t1 : (x.id == 1) = false := by simpa using hid
    rw [if_neg hid]
    clear hid
    go_enter Tryz.func85, Tryz.ntmps85
    go_upto_region 1 with fail
    rw [← HW0.out]
    go_wp2_with fail
    refine (HF.out _).mono ?_
    rintro e w1 ⟨rfl, hb1⟩
    have hb01 := HB.out.trans (hb1.mono HB.out.size)
    obtain ⟨w4, hw4⟩ : ∃ w4, w4 = w1.alloc (.cells (NB.cellsM F).toArray 144) := ⟨_, rfl⟩
    have HX4 : Hid (NB.Lies w4 w1.heap.size (NB.cellsM F) 144) := Lib.hid (by rw [hw4]; exact NB.Lies.new _ _ _)
    have HB4 : Hid (Below w.heap.size w w4) := Lib.hid (by rw [hw4]; exact hb01.alloc hb01.size _)
    have k0 := (HX.out.later (hb1.alloc hb1.size (.cells (NB.cellsM F).toArray 144))).at_ 0
    have HW4 := Lib.hid hw4
    clear x0 x6 hb1 hw4 hb01
    go_upto_region 4 with (first
      | (refine NB.wp_storeN NB.arrA rfl _ _ rfl _ _ _ rfl rfl rfl HL1.out (NB.cellsM_one _) rfl ?_))
    go_simp
    rw [← HW4.out]
    clear k0
    have hX := lies_regrown HX4.out
    have HX := Lib.hid hX
    clear hX
    have C1 := Lib.hid (qs HBU.out w4)
    have C2 := Lib.hid (NC.qb HH1.out w4)
    refine wp_region_quiet_below (by kernel_rfl) (by kernel_rfl) ?_
    repeat (first
      | (go_big_quiet_want; (refine NB.quiet_load NB.arrA _ rfl _ rfl HX.out HL1.out ?_); go_simp; go_big_quiet_on)
      | go_big_quiet_step ((first | with_reducible exact C1.out _ _ | with_reducible exact C2.out _ _)))
    refine wpQuiet_nil ?_
    intro _ hw'
    obtain ⟨⟨dq, osq⟩, hw''⟩ := hw'
    subst hw''
    go_wp2
    go_ret
    exact ⟨rfl, HB4.out.trans ((below_regrown w4 dq osq).mono HB4.out.size)⟩
end Go.Proofs.YtmaohnbddlccdaaGreat
end
