/- Joined texts: EngS, EngT, EngU. -/
import Derived.Test.YtmaohnbddlccdaaGreatMrgEngR
import Derived.Test.YtmaohnbddlccdaaGreatMrgBalP

/- engine: promise, server, balanced. -/
section
namespace Go.Proofs.YtmaohnbddlccdaaGreat
open Go.RowKit Go.Sort

set_option maxRecDepth 100000 in
set_option maxHeartbeats 4000000 in
theorem promise_any {w : World} {g : Nat} {q : QV} (hq : QM w g q) (kind : Int) (m : LV) (hwl : q.p.hw.length ≤ 1000) (hsv : q.x.server < 4294967296) :
    Calls Tryz.prog 74 #[ptE g, .int .i64 kind, m.v] w (GivesP w (promE q.x q.p.abs kind m.addr (longT q.x.lead q.now q.want q.cl m))) := by
  obtain ⟨w0, hw0⟩ : ∃ w0, w0 = (w.alloc (lbox m)).alloc (.cells zeroP.cells 32) := ⟨_, rfl⟩
  have hs : (w.alloc (lbox m)).heap.size = w.heap.size + 1 := by simp
  have hB : Below w.heap.size w w0 := by rw [hw0]; exact ((Below.refl _ _).alloc (Nat.le_refl _) _).alloc (by simp) _
  have hZ : Bx w0 (w.heap.size + 1) 32 zeroP.cells := by rw [hw0, ← hs]; exact Bx.new _ _ _
  have HL : Hid (LBox w0 w.heap.size m) := Lib.hid (by rw [hw0]; exact (LBox.new w m).alloc _)
  have HQ := Lib.hid (hq.later hB)
  have HB := Lib.hid hB
  have HZ := Lib.hid hZ
  have HLT : Hid (w.heap.size + 1 < w0.heap.size) := Lib.hid hZ.lt
  have HLO := Lib.hid (fun V (h : QM V g q) => qlong_any m h)
  have HW0 := Lib.hid hw0
  obtain ⟨X, hX⟩ : ∃ X, X = promE q.x q.p.abs kind m.addr (longT q.x.lead q.now q.want q.cl m) := ⟨_, rfl⟩
  rw [← hX]
  unfold promE moreE at hX
  generalize longT q.x.lead q.now q.want q.cl m = n at *
  have HXX := Lib.hid hX
  clear hw0 hB hZ hq hs hX
  have HTI := Lib.hid (fun V => NR.times_any n q.x.renew q.x.rebind V)
  generalize NR.Flo.partV n q.x.renew = n1 at *
  generalize max n1 (NR.Flo.partV n q.x.rebind) = n2 at *
  have HN1 := Lib.hid (fun V => number_any 51 n 4 V)
  have HN2 := Lib.hid (fun V => number_any 58 n1 4 V)
  have HN3 := Lib.hid (fun V => number_any 59 n2 4 V)
  generalize optE 51 n 4 = o1 at *
  generalize optE 58 n1 4 = o2 at *
  generalize optE 59 n2 4 = o3 at *
  obtain ⟨l0, l1, l2, l3, l4, l5, l6, l7⟩ := HL.out.all
  go_enter Tryz.func74, Tryz.ntmps74
  go_upto_region 1 with fail
  rw [show (w.alloc (lbox m)).alloc (.cells #[.int .i64 0, .int .u32 0, .int .i64 0, .int .i64 0, .int .u32 0, .int .u32 0, .int .u32 0, .int .u32 0, .slice none 0 0, .slice none 0 0] 32) = w0 from HW0.out.symm]
  go_wp2_with fail
  refine (HLO.out _ HQ.out).mono ?_
  rintro e w1 ⟨rfl, hb1⟩
  have HQ1 := Lib.hid (HQ.out.later hb1)
  have HB1 := Lib.hid (HB.out.trans (hb1.mono HB.out.size))
  have HZ1 := Lib.hid (HZ.out.later hb1)
  have HL1 := Lib.hid (HL.out.later hb1)
  have HS1 : Hid (w.heap.size + 1 < w1.heap.size) := Lib.hid HZ1.out.lt
  clear hb1 l0 l1 l2 l3 l4 l5 l6 l7 HQ HB HZ HL HLT HW0 HLO
  go_upto_region 2 with fail
  have c9 := HQ1.out.r9
  have c10 := HQ1.out.r10
  have HTQ := Lib.hid (qs HTI.out w1)
  refine wp_region_quiet_below (by kernel_rfl) (by kernel_rfl) ?_
  repeat (go_big_quiet_step (with_reducible exact HTQ.out _ _))
  refine wpQuiet_nil ?_
  intro _ hw'
  obtain ⟨⟨dq, osq⟩, hw''⟩ := hw'
  subst hw''
  have hbq := below_regrown w1 dq osq
  have HQ2 := Lib.hid (HQ1.out.later hbq)
  have HB2 := Lib.hid (HB1.out.trans (hbq.mono HB1.out.size))
  have HZ2 := Lib.hid (HZ1.out.later hbq)
  have HL2 := Lib.hid (HL1.out.later hbq)
  have HS2 : Hid (w.heap.size + 1 < (grow (redrawn w1 dq) osq).heap.size) := Lib.hid HZ2.out.lt
  clear hbq c9 c10 HTQ HTI HQ1 HB1 HZ1 HL1 HS1
  generalize grow (redrawn w1 dq) osq = w2 at *
  go_wp2_with fail
  refine (HN1.out w2).mono ?_
  rintro e w3 ⟨y1, rfl, HY1, hby1, hb3⟩
  have HB3 := Lib.hid hb3
  have HD1 := Lib.hid hby1
  clear hb3 hby1
  go_wp2_with fail
  refine (HN2.out w3).mono ?_
  rintro e w4 ⟨y2, rfl, HY2, hby2, hb4⟩
  have HB4 := Lib.hid (HB3.out.trans (hb4.mono HB3.out.size))
  have HD2 : Hid (NO.By w4 w4.heap.size y1.ad y1.data ∧ NO.By w4 w4.heap.size y2.ad y2.data) := Lib.hid ⟨HD1.out.later hb4, hby2⟩
  clear hb4 hby2
  go_wp2_with fail
  refine (HN3.out w4).mono ?_
  rintro e w5 ⟨y3, rfl, HY3, hby3, hb5⟩
  have HB5 := Lib.hid (HB4.out.trans (hb5.mono HB4.out.size))
  obtain ⟨w6, hw6⟩ : ∃ w6, w6 = w5.alloc (.cells #[.int .i64 y1.code, .slice y1.ad y1.data.length y1.cap, .int .i64 y2.code, .slice y2.ad y2.data.length y2.cap, .int .i64 y3.code, .slice y3.ad y3.data.length y3.cap] 68) := ⟨_, rfl⟩
  have h6 : Below w5.heap.size w5 w6 := by rw [hw6]; exact (Below.refl _ _).alloc (Nat.le_refl _) _
  have HEL : Hid (NO.Op w6 w6.heap.size (some ⟨w5.heap.size, 0, none⟩) [y1, y2, y3]) := Lib.hid (op_of (by
    have h := El.lit (E := ElemO) w5 [y1, y2, y3] #[.int .i64 y1.code, .slice y1.ad y1.data.length y1.cap, .int .i64 y2.code, .slice y2.ad y2.data.length y2.cap, .int .i64 y3.code, .slice y3.ad y3.data.length y3.cap] 68 (by simp [ecells, ElemO])
    rw [← hw6] at h
    exact h.more (by rw [hw6]; simp)) (fun x hx => by
      simp at hx
      rcases hx with rfl | rfl | rfl
      · exact (HD2.out.1.later hb5).later h6
      · exact (HD2.out.2.later hb5).later h6
      · exact hby3.later h6))
  have HB6 := Lib.hid (HB5.out.trans (h6.mono HB5.out.size))
  have HQ6 := Lib.hid (HQ2.out.later HB6.out)
  have HW6 := Lib.hid hw6
  clear hb5 hby3 h6 hw6
  have HRP := Lib.hid (reply_any (c := 3) HQ6.out kind HEL.out (by simp) hwl hsv)
  go_wp2_with fail
  rw [← HW6.out]
  refine HRP.out.mono ?_
  rintro e w7 ⟨p, rfl, HP, hps, hb7⟩
  have HB7 := Lib.hid (HB6.out.trans (hb7.mono HB6.out.size))
  obtain ⟨p9, hp9⟩ : ∃ p9 : NO.PktV, p9 = { p with yi := m.addr } := ⟨_, rfl⟩
  obtain ⟨w9, hw9⟩ : ∃ w9, w9 = w7.alloc (.cells p9.cells 32) := ⟨_, rfl⟩
  have h9 : Below w7.heap.size w7 w9 := by rw [hw9]; exact (Below.refl _ _).alloc (Nat.le_refl _) _
  have HX9 : Hid (Bx w9 w7.heap.size 32 p9.cells) := Lib.hid (by rw [hw9]; exact Bx.new _ _ _)
  have HB9 := Lib.hid (HB7.out.trans (h9.mono HB7.out.size))
  have HZ9 := Lib.hid ((HZ2.out.later HB7.out).later h9)
  have HLE : Hid (w.heap.size + 1 < w6.heap.size) := Lib.hid (Nat.lt_of_lt_of_le HS2.out HB6.out.size)
  have HPS : Hid (PkS w6.heap.size w9 p9) := Lib.hid (by rw [hp9]; have h := hps.later h9; exact ⟨⟨h.pk.hw, h.pk.opt⟩, h.row⟩)
  have HW9 : Hid (w9 = w7.alloc (.cells #[.int .i64 p.op, .int .u32 (p.xid : Int), .int .i64 p.secs, .int .i64 p.flags, .int .u32 (p.ci : Int), .int .u32 (m.addr : Int), .int .u32 (p.si : Int), .int .u32 (p.gi : Int), .slice p.hwA p.hw.length p.hwC, .slice p.opA p.L.length p.opC] 32)) := Lib.hid (by rw [hw9, hp9])
  have HP9 := Lib.hid hp9
  have k0 := ((HL2.out.later HB7.out).alloc (.cells p.cells 32)).c0
  clear hb7 h9 hw9 hp9 hps
  go_upto_region 5 with (first | (refine wp_storeL rowP rfl _ _ rfl _ _ _ rfl rfl rfl rfl rfl rfl ?_))
  rw [← HW9.out]
  clear k0
  go_wp2_with (first
    | (refine wp_loadR rowP rfl _ rfl w7.heap.size rfl HX9.out rfl ?_)
    | (refine wp_storeR rowP rfl _ _ rfl (w.heap.size + 1) _ rfl rfl HZ9.out rfl rfl rfl ?_))
  have HE := Lib.hid (HPS.out.set HZ9.out HLE.out (pktP_no8 zeroP) p9.cells)
  have HLW := Lib.hid (HB2.out.trans (HB9.out.mono HB2.out.size))
  have HLL := Lib.hid (HLW.out.trans (below_setRow w9 (w.heap.size + 1) p9.cells (Nat.le_succ _)))
  have HXX9 := Lib.hid (HZ9.out.set p9.cells)
  refine bodyPost_ret (v := p9.v) (results_R rowP rfl rfl HXX9.out rfl) rfl ⟨p9, rfl, ?_, HE.out.more (by have := HLE.out; omega), HLL.out⟩
  refine Lib.hid ?_
  rw [HXX.out, HP9.out]
  have e := HP.out
  show { NO.PktV.abs p with yi := m.addr } = _
  rw [e]
  have ho : NO.absL [y1, y2, y3] = [o1, o2, o3] := by
    rw [← HY1.out, ← HY2.out, ← HY3.out]
    rfl
  rw [ho]
end Go.Proofs.YtmaohnbddlccdaaGreat
end

/- engine: server, balanced. -/
section
namespace Go.Proofs.YtmaohnbddlccdaaGreat
open Go.RowKit Go.Sort

set_option maxRecDepth 100000 in
set_option maxHeartbeats 2000000 in
theorem server_any {w : World} {g : Nat} {q : QV} (hq : QM w g q) (hL : q.p.L.length ≤ 1000) (hd : ∀ x ∈ q.p.L, x.data.length ≤ 1000) :
    Calls Tryz.prog 75 #[ptE g] w fun e w' => e = .returned (.tuple #[.int .u32 (if toldE q.p.abs then ((NO.numL (NO.fd q.p.abs 54) : Nat) : Int) else 0), .bool (toldE q.p.abs)]) ∧ Below w.heap.size w w' := by
  have HF := Lib.hid (fun V (h : NO.Op V V.heap.size q.p.opA q.p.L) => NO.find_any q.p.opA q.p.opC q.p.L 54 V h (by omega) hd)
  have hfl := NO.fd_len q.p hd 54
  unfold toldE
  obtain ⟨l, hl⟩ : ∃ l, l = NO.fd q.p.abs 54 := ⟨_, rfl⟩
  have hl' : (NO.findL (NO.absL q.p.L) 54).1 = l := hl.symm
  rw [← hl] at hfl ⊢
  unfold NO.GivesF at HF
  rw [hl'] at HF
  have HQ := Lib.hid hq
  have c26 := hq.c26
  clear hl hl' hd hq
  by_cases hlen : l.length = 4
  · rw [decide_eq_true hlen, if_pos rfl]
    have hne : ((l.length : Int) != 4) = false := by simp; omega
    have HN := Lib.hid (fun A c W (h : NO.By W W.heap.size A l) => NO.number_any A c l W h hfl)
    have HR := Lib.hid (show NO.numR l = (((NO.numL l : Nat) : Int), 0) by unfold NO.numR; rw [hlen]; rfl)
    rw [HR.out] at HN
    have hwr := NO.wrap32 (NO.numL l) (NO.num4_lt l hlen)
    clear hlen
    go_enter Tryz.func75, Tryz.ntmps75
    go_wp2_with fail
    refine (HF.out w HQ.out.pk.opt).mono ?_
    rintro e w1 ⟨A, c, rfl, hby, hB1⟩
    go_wp2_with fail
    refine (HN.out A c w1 hby).mono ?_
    rintro e w' ⟨rfl, rfl⟩
    go_wp2
    go_ret2
    exact ⟨rfl, hB1⟩
  · rw [decide_eq_false hlen, if_neg (by decide)]
    have hne : ((l.length : Int) != 4) = true := by simp; omega
    clear hlen
    go_enter Tryz.func75, Tryz.ntmps75
    go_wp2_with fail
    refine (HF.out w HQ.out.pk.opt).mono ?_
    rintro e w1 ⟨A, c, rfl, hby, hB1⟩
    go_wp2
    go_ret2
    exact ⟨rfl, hB1⟩

theorem lies_regrown {w : World} {b : Nat} {vs : List Value} {t : TypeId} (h : NB.Lies w b vs t) : ∀ w', (∃ p : Regrown, w' = grow (redrawn w p.d) p.os) → NB.Lies w' b vs t := by
  rintro _ ⟨p, rfl⟩
  exact h.later (below_regrown w p.d p.os) h.lt
theorem hasI_mask (f : Nat → Bool) (k : Nat) (hk : k < 256) : NB.hasI (NB.maskL f) (k : Int) = f k := by
  unfold NB.hasI
  rw [decide_eq_true (by omega : (0 : Int) ≤ (k : Int)), decide_eq_true (by omega : (k : Int) < 256)]
  simp [NB.has_mask f k hk]

set_option maxRecDepth 100000 in
set_option maxHeartbeats 2000000 in
theorem balanced_any {w : World} {g : Nat} {q : QV} (hq : QM w g q) (hc : q.cl.length ≤ 1000) :
    Calls Tryz.prog 71 #[ptE g] w fun e w' => e = .returned (.bool (mineE q.x q.cl)) ∧ Below w.heap.size w w' := by
  have HF := Lib.hid (NB.first_any q.x.first w)
  have HNT := Lib.hid (fun V => NB.not_any (NB.maskL fun k => decide ((k : Int) < q.x.first)) (NB.maskL_is _) V)
  have HH := Lib.hid (fun f k V => NB.has_any (NB.maskL f) (NB.maskL_is f) k V)
  have HBU := Lib.hid (fun V => NB.bucket_any ⟨q.cl.toArray⟩ (by simp [ByteArray.size]; omega) V)
  have hbk : NB.bkN (NB.listOf ⟨q.cl.toArray⟩) = NB.bkN q.cl := by simp [NB.listOf]
  rw [hbk] at HBU
  have hlt := NB.bkN_lt q.cl
  unfold mineE
  generalize NB.bkN q.cl = bk at *
  have HM1 := Lib.hid (hasI_mask (fun k => decide ((k : Int) < q.x.first)) bk hlt)
  have HM2 : Hid (NB.hasI (NB.maskL fun k => !NB.hasL (NB.maskL fun k => decide ((k : Int) < q.x.first)) k) (bk : Int) = !decide ((bk : Int) < q.x.first)) := Lib.hid (by rw [hasI_mask _ bk hlt, NB.has_mask _ bk hlt])
  have HL1 : Hid ((NB.cellsM (NB.maskL fun k => decide ((k : Int) < q.x.first))).length = 32) := Lib.hid (by rw [NB.cellsM_len, NB.maskL_len])
  have HL2 : Hid ((NB.cellsM (NB.maskL fun k => !NB.hasL (NB.maskL fun k => decide ((k : Int) < q.x.first)) k)).length = 32) := Lib.hid (by rw [NB.cellsM_len, NB.maskL_len])
  have HH1 := Lib.hid (HH.out (fun k => decide ((k : Int) < q.x.first)) (bk : Int))
  have HH2 := Lib.hid (HH.out (fun k => !NB.hasL (NB.maskL fun k => decide ((k : Int) < q.x.first)) k) (bk : Int))
  rw [HM1.out] at HH1
  rw [HM2.out] at HH2
  unfold NB.OfFirst at HF HNT
  generalize (NB.maskL fun k => !NB.hasL (NB.maskL fun k => decide ((k : Int) < q.x.first)) k) = N at *
  generalize (NB.maskL fun k => decide ((k : Int) < q.x.first)) = F at *
  generalize decide ((bk : Int) < q.x.first) = d at *
  have HQ := Lib.hid hq
  have c0 := hq.c0
  have c6 := hq.c6
  clear hq hbk hlt HH HM1 HM2
  unfold NB.maskV at HF HNT HH1 HH2
  by_cases hid : q.x.id = 1
  · have t1 : (q.x.id == 1) = true := by simp [hid]
    rw [if_pos hid]
    clear hid
    go_enter Tryz.func71, Tryz.ntmps71
    go_wp2_with fail
    refine HF.out.mono ?_
    rintro e w1 ⟨rfl, hb1⟩
    have HX1 := Lib.hid (NB.Lies.new w1 (NB.cellsM F) 145)
    have HB1 := Lib.hid (hb1.alloc hb1.size (.cells (NB.cellsM F).toArray 145))
    have k0 := (HQ.out.later HB1.out).c0
    have hb1' := HB1.out
    have hb1s := hb1.size
    clear c0 c6 hb1
    go_wp2_with (first
      | (refine NB.wp_storeN NB.arrM rfl _ _ rfl _ _ _ rfl rfl rfl HL1.out (NB.cellsM_one _) rfl ?_)
      | (refine NB.wp_loadW NB.arrM rfl _ rfl _ rfl HX1.out HL1.out ?_))
    refine (HNT.out _).mono ?_
    rintro e w3 ⟨rfl, hb3⟩
    have HX3 := Lib.hid (HX1.out.later hb3 HX1.out.lt)
    have hq3 := hb1'.trans (hb3.mono hb1'.size)
    obtain ⟨w4, hw4⟩ : ∃ w4, w4 = w3.setRow w1.heap.size (NB.cellsM N).toArray := ⟨_, rfl⟩
    have h4 : Below w.heap.size w3 w4 := by rw [hw4]; exact below_setRow _ _ _ hb1s
    have HB4 := Lib.hid (hq3.trans h4)
    have HX4 : Hid (NB.Lies w4 w1.heap.size (NB.cellsM N) 145) := Lib.hid (by rw [hw4]; exact HX3.out.row _)
    have HW4 := Lib.hid hw4
    clear k0 hb3 hq3 hw4 h4 hb1' hb1s
    go_upto_region 4 with (first
      | (refine NB.wp_storeT NB.arrM rfl _ _ rfl _ _ rfl rfl HX3.out HL1.out HL2.out (NB.cellsM_one _) ?_))
    go_simp
    rw [← HW4.out]
    have c27 := (HQ.out.later HB4.out).r27
    have hX := lies_regrown HX4.out
    have HX := Lib.hid hX
    clear hX
    have C1 := Lib.hid (qs HBU.out w4)
    have C2 := Lib.hid (NC.qb HH2.out w4)
    refine wp_region_quiet_below (by kernel_rfl) (by kernel_rfl) ?_
    repeat (first
      | (go_big_quiet_want; (refine NB.quiet_load NB.arrM _ rfl _ rfl HX.out HL2.out ?_); go_simp; go_big_quiet_on)
      | go_big_quiet_step ((first | with_reducible exact C1.out _ _ | with_reducible exact C2.out _ _)))
    refine wpQuiet_nil ?_
    intro _ hw'
    obtain ⟨⟨dq, osq⟩, hw''⟩ := hw'
    subst hw''
    go_wp2
    go_ret
    exact ⟨rfl, HB4.out.trans ((below_regrown w4 dq osq).mono HB4.out.size)⟩
  · have t1 : (q.x.id == 1) = false := by simpa using hid
    rw [if_neg hid]
    clear hid
    go_enter Tryz.func71, Tryz.ntmps71
    go_wp2_with fail
    refine HF.out.mono ?_
    rintro e w1 ⟨rfl, hb1⟩
    obtain ⟨w4, hw4⟩ : ∃ w4, w4 = w1.alloc (.cells (NB.cellsM F).toArray 145) := ⟨_, rfl⟩
    have HX4 : Hid (NB.Lies w4 w1.heap.size (NB.cellsM F) 145) := Lib.hid (by rw [hw4]; exact NB.Lies.new _ _ _)
    have HB4 : Hid (Below w.heap.size w w4) := Lib.hid (by rw [hw4]; exact hb1.alloc hb1.size _)
    have k0 := (HQ.out.later (hb1.alloc hb1.size (.cells (NB.cellsM F).toArray 145))).c0
    have HW4 := Lib.hid hw4
    clear c0 c6 hb1 hw4
    go_upto_region 4 with (first
      | (refine NB.wp_storeN NB.arrM rfl _ _ rfl _ _ _ rfl rfl rfl HL1.out (NB.cellsM_one _) rfl ?_))
    go_simp
    rw [← HW4.out]
    clear k0
    have c27 := (HQ.out.later HB4.out).r27
    have hX := lies_regrown HX4.out
    have HX := Lib.hid hX
    clear hX
    have C1 := Lib.hid (qs HBU.out w4)
    have C2 := Lib.hid (NC.qb HH1.out w4)
    refine wp_region_quiet_below (by kernel_rfl) (by kernel_rfl) ?_
    repeat (first
      | (go_big_quiet_want; (refine NB.quiet_load NB.arrM _ rfl _ rfl HX.out HL1.out ?_); go_simp; go_big_quiet_on)
      | go_big_quiet_step ((first | with_reducible exact C1.out _ _ | with_reducible exact C2.out _ _)))
    refine wpQuiet_nil ?_
    intro _ hw'
    obtain ⟨⟨dq, osq⟩, hw''⟩ := hw'
    subst hw''
    go_wp2
    go_ret
    exact ⟨rfl, HB4.out.trans ((below_regrown w4 dq osq).mono HB4.out.size)⟩
end Go.Proofs.YtmaohnbddlccdaaGreat
end

/- engine: discover, decline. -/
section
namespace Go.Proofs.YtmaohnbddlccdaaGreat
open Go.RowKit Go.Sort

/-- What bounds a query. -/
structure QOk (q : QV) : Prop where
  hw : q.p.hw.length ≤ 1000
  sv : q.x.server < 4294967296
  cl : q.cl.length ≤ 1000
  ad : q.ad < 4294967296
  ci : q.p.ci < 4294967296
  len : q.p.L.length ≤ 1000
  dat : ∀ x ∈ q.p.L, x.data.length ≤ 1000
def longQ (q : QV) (m : LV) : Int := longT q.x.lead q.now q.want q.cl m
/-- What comes of Discover, of a query. -/
def discQ (q : QV) (L : List LV) : AnsV :=
  if (q.s == 1 && !mineE q.x q.cl) = true then noA
  else match chooseQ q L with
    | none => noA
    | some m => if longQ q m < 1 then noA else sentA (promE q.x q.p.abs 2 m.addr (longQ q m))

set_option maxRecDepth 100000 in
set_option maxHeartbeats 4000000 in
theorem discover_any {T : World → (Nat → Prop) → Nat → List LV → Prop} (K : TabK T) {w : World} {P : Nat → Prop} {g gt : Nat} {q : QV} {L : List LV} (h : QT T w P g gt q L) (ho : QOk q) :
    Calls Tryz.prog 33 #[ptE g] w (GivesA w (discQ q L)) := by
  obtain ⟨w0, hw0⟩ : ∃ w0, w0 = w.alloc (.cells zeroA.cells 44) := ⟨_, rfl⟩
  have hB : Below w.heap.size w w0 := by rw [hw0]; exact (Below.refl _ _).alloc (Nat.le_refl _) _
  have hZ : Bx w0 w.heap.size 44 zeroA.cells := by rw [hw0]; exact Bx.new _ _ _
  have HQ := Lib.hid (h.later K hB)
  have HB := Lib.hid hB
  have HZ := Lib.hid hZ
  have HK := Lib.hid K
  have HO := Lib.hid ho
  have HW0 : Hid (w0 = w.alloc (.cells #[.bool false, .int .i64 0, .int .u32 0, .int .i64 0, .int .i64 0, .int .u32 0, .int .u32 0, .int .u32 0, .int .u32 0, .slice none 0 0, .slice none 0 0, .bool false, .int .u32 0, .int .i64 0, .string ⟨#[]⟩, .int .i64 0, .int .i64 0, .int .i64 0, .int .i64 0, .int .i64 0, .int .i64 0] 44)) := Lib.hid hw0
  obtain ⟨X, hX⟩ : ∃ X, X = discQ q L := ⟨_, rfl⟩
  rw [← hX]
  unfold discQ at hX
  have HXX := Lib.hid hX
  have c31 := HQ.out.m.c31
  clear hw0 hB hZ h K ho hX
  go_enter Tryz.func33, Tryz.ntmps33
  go_upto_region 1 with fail
  rw [← HW0.out]
  go_cut [14] (fun s14 wx => s14 = .bool (q.s == 1 && !mineE q.x q.cl) ∧ Below w0.heap.size w0 wx)
  case first =>
    have HBAL := Lib.hid (balanced_any HQ.out.m HO.out.cl)
    by_cases hs : q.s = 1
    · have t1 : (q.s == 1) = true := by simp [hs]
      clear hs
      cases hmi : mineE q.x q.cl
      all_goals
        rw [hmi] at HBAL
        go_wp2_with fail
        refine HBAL.out.mono ?_
        rintro e w1 ⟨rfl, hb1⟩
        go_wp2
        go_meet
        exact ⟨by rw [t1, hmi]; rfl, hb1⟩
    · have t1 : (q.s == 1) = false := by simpa using hs
      clear hs
      go_wp2
      go_meet
      exact ⟨by rw [t1]; rfl, Below.refl _ _⟩
  case rest =>
    obtain ⟨rfl, hb1⟩ := hcut
    have HQ1 := Lib.hid (HQ.out.later HK.out hb1)
    have HZ1 := Lib.hid (HZ.out.later hb1)
    have HB1 := Lib.hid (HB.out.trans (hb1.mono HB.out.size))
    clear hb1 c31
    generalize (q.s == 1 && !mineE q.x q.cl) = bad at *
    cases bad
    rotate_left
    · rw [if_pos rfl] at HXX
      go_wp2_with (first | (refine wp_storeR rowA rfl _ _ rfl w.heap.size _ rfl rfl HZ1.out rfl rfl rfl ?_))
      exact ans_end (a := zeroA) rfl rfl (HZ1.out.set zeroA.cells) (by rw [HXX.out]; rfl) (zeroP_pks _ _) (HB1.out.trans (below_setRow _ w.heap.size zeroA.cells (Nat.le_refl _)))
    · rw [if_neg (by decide)] at HXX
      have HCH := Lib.hid (choice_any HK.out HQ1.out HO.out.ad)
      generalize chooseQ q L = r at *
      cases r with
      | none =>
        have HXN : Hid (X = noA) := Lib.hid HXX.out
        clear HXX
        have HXX := HXN
        go_wp2_with fail
        refine HCH.out.mono ?_
        rintro e w2 ⟨rfl, hb2⟩
        have HZ2 := Lib.hid ((HZ1.out.later hb2).alloc (lbox zeroL))
        have h2 := HB1.out.trans (hb2.mono HB1.out.size)
        have HB2 := Lib.hid (h2.alloc h2.size (lbox zeroL))
        clear hb2 h2
        go_wp2_with (first | (refine wp_storeR rowA rfl _ _ rfl w.heap.size _ rfl rfl HZ2.out rfl rfl rfl ?_))
        exact ans_end (a := zeroA) rfl rfl (HZ2.out.set zeroA.cells) (by rw [HXX.out]; rfl) (zeroP_pks _ _) (HB2.out.trans (below_setRow _ w.heap.size zeroA.cells (Nat.le_refl _)))
      | some m =>
        have HXS : Hid (X = if longQ q m < 1 then noA else sentA (promE q.x q.p.abs 2 m.addr (longQ q m))) := Lib.hid HXX.out
        clear HXX
        have HLO := Lib.hid (fun V (h : QM V g q) => (show Calls Tryz.prog 73 #[ptE g, m.v] V fun e w' => e = .returned (.int .i64 (longQ q m)) ∧ Below V.heap.size V w' from qlong_any m h))
        have HPR := Lib.hid (fun V (h : QM V g q) => (show Calls Tryz.prog 74 #[ptE g, .int .i64 2, m.v] V (GivesP V (promE q.x q.p.abs 2 m.addr (longQ q m))) from promise_any h 2 m HO.out.hw HO.out.sv))
        generalize longQ q m = n at *
        go_wp2_with fail
        refine HCH.out.mono ?_
        rintro e w2 ⟨rfl, hb2⟩
        have HZ2 := Lib.hid ((HZ1.out.later hb2).alloc (lbox m))
        have h2 := HB1.out.trans (hb2.mono HB1.out.size)
        have HB2 := Lib.hid (h2.alloc h2.size (lbox m))
        have HQ2 := Lib.hid ((HQ1.out.later HK.out hb2).alloc HK.out (lbox m))
        have HX2 := Lib.hid (LBox.new w2 m)
        clear hb2 h2
        obtain ⟨x0, x1, x2, x3, x4, x5, x6, x7⟩ := HX2.out.all
        go_wp2_with fail
        refine (HLO.out _ HQ2.out.m).mono ?_
        rintro e w3 ⟨rfl, hb3⟩
        have HZ3 := Lib.hid (HZ2.out.later hb3)
        have HB3 := Lib.hid (HB2.out.trans (hb3.mono HB2.out.size))
        have HQ3 := Lib.hid (HQ2.out.later HK.out hb3)
        have HX3 := Lib.hid (HX2.out.later hb3)
        clear hb3 x0 x1 x2 x3 x4 x5 x6 x7
        by_cases hn : n < 1
        · have t2 : decide (n < 1) = true := by simp [hn]
          rw [if_pos hn] at HXS
          have HXX := HXS
          clear hn HXS
          go_wp2_with (first | (refine wp_storeR rowA rfl _ _ rfl w.heap.size _ rfl rfl HZ3.out rfl rfl rfl ?_))
          exact ans_end (a := zeroA) rfl rfl (HZ3.out.set zeroA.cells) (by rw [HXX.out]; rfl) (zeroP_pks _ _) (HB3.out.trans (below_setRow _ w.heap.size zeroA.cells (Nat.le_refl _)))
        · have t2 : decide (n < 1) = false := by simp; omega
          rw [if_neg hn] at HXS
          clear hn
          obtain ⟨x0, x1, x2, x3, x4, x5, x6, x7⟩ := HX3.out.all
          go_wp2_with fail
          refine (HPR.out _ HQ3.out.m).mono ?_
          rintro e w4 ⟨p, rfl, HP, hps, hb4⟩
          have HS := Lib.hid (sent_any p w4)
          have HPS := Lib.hid hps
          have HB4 := Lib.hid hb4
          clear hps hb4 x0 x1 x2 x3 x4 x5 x6 x7
          go_wp2_with fail
          refine HS.out.mono ?_
          rintro e w5 ⟨rfl, hb5⟩
          have HZ5 := Lib.hid ((HZ3.out.later HB4.out).later hb5)
          have HB5 := Lib.hid (HB3.out.trans ((HB4.out.trans (hb5.mono HB4.out.size)).mono HB3.out.size))
          have HP5 := Lib.hid (HPS.out.later hb5)
          have HLT : Hid (w.heap.size < w3.heap.size) := Lib.hid HZ3.out.lt
          clear hb5
          go_wp2_with (first | (refine wp_storeR rowA rfl _ _ rfl w.heap.size _ rfl rfl HZ5.out rfl rfl rfl ?_))
          exact ans_end (a := ⟨true, p, false, zeroL, 0⟩) rfl rfl (HZ5.out.set _) (by rw [HXS.out]; show AnsV.mk _ p.abs _ _ _ = _; rw [HP.out]; rfl) ((HP5.out.set HZ5.out HLT.out (ansW_no8 zeroA) _).more (Nat.le_of_lt HLT.out)) (HB5.out.trans (below_setRow _ w.heap.size _ (Nat.le_refl _)))

def declineQ (q : QV) (L : List LV) : AnsV := match atE (hasE q) L q.ad with | none => noA | some m => ⟨false, zeroPA, true, bareL m.addr 5 m.ver, 0⟩
def releaseQ (q : QV) (L : List LV) : AnsV := match atE (hasE q) L q.p.ci with | none => noA | some m => ⟨false, zeroPA, true, { m with bind := 4, at_ := q.now }, 0⟩

set_option maxRecDepth 100000 in
set_option maxHeartbeats 4000000 in
theorem decline_any {T : World → (Nat → Prop) → Nat → List LV → Prop} (K : TabK T) {w : World} {P : Nat → Prop} {g gt : Nat} {q : QV} {L : List LV} (h : QT T w P g gt q L) (ho : QOk q) :
    Calls Tryz.prog 35 #[ptE g] w (GivesA w (declineQ q L)) := by
  obtain ⟨w0, hw0⟩ : ∃ w0, w0 = w.alloc (.cells zeroA.cells 44) := ⟨_, rfl⟩
  have hB : Below w.heap.size w w0 := by rw [hw0]; exact (Below.refl _ _).alloc (Nat.le_refl _) _
  have hZ : Bx w0 w.heap.size 44 zeroA.cells := by rw [hw0]; exact Bx.new _ _ _
  have HQ := Lib.hid (h.later K hB)
  have HB := Lib.hid hB
  have HZ := Lib.hid hZ
  have HO := Lib.hid ho
  have HW0 : Hid (w0 = w.alloc (.cells #[.bool false, .int .i64 0, .int .u32 0, .int .i64 0, .int .i64 0, .int .u32 0, .int .u32 0, .int .u32 0, .int .u32 0, .slice none 0 0, .slice none 0 0, .bool false, .int .u32 0, .int .i64 0, .string ⟨#[]⟩, .int .i64 0, .int .i64 0, .int .i64 0, .int .i64 0, .int .i64 0, .int .i64 0] 44)) := Lib.hid hw0
  have HA := Lib.hid (qat_any K HQ.out q.ad HO.out.ad (f := 80) (pre := #[ptE g]) (p := hasE q) (fun _ _ => rfl) (fun m W hW => qhas_any m hW.m))
  obtain ⟨X, hX⟩ : ∃ X, X = declineQ q L := ⟨_, rfl⟩
  rw [← hX]
  unfold declineQ at hX
  have HXX := Lib.hid hX
  have HK := Lib.hid K
  have ca := HQ.out.m.c28
  clear hw0 hB hZ h K ho hX
  generalize atE (hasE q) L q.ad = r at *
  cases r with
  | none =>
    have HXN : Hid (X = noA) := Lib.hid HXX.out
    clear HXX
    have HXX := HXN
    go_enter Tryz.func35, Tryz.ntmps35
    go_upto_region 1 with fail
    rw [← HW0.out]
    go_wp2_with fail
    refine HA.out.mono ?_
    rintro e w2 ⟨rfl, hb2⟩
    have HZ2 := Lib.hid ((HZ.out.later hb2).alloc (lbox zeroL))
    have h2 := HB.out.trans (hb2.mono HB.out.size)
    have HB2 := Lib.hid (h2.alloc h2.size (lbox zeroL))
    clear hb2 h2 ca
    go_wp2_with (first | (refine wp_storeR rowA rfl _ _ rfl w.heap.size _ rfl rfl HZ2.out rfl rfl rfl ?_))
    exact ans_end (a := zeroA) rfl rfl (HZ2.out.set zeroA.cells) (by rw [HXX.out]; rfl) (zeroP_pks _ _) (HB2.out.trans (below_setRow _ w.heap.size zeroA.cells (Nat.le_refl _)))
  | some m =>
    go_enter Tryz.func35, Tryz.ntmps35
    go_upto_region 1 with fail
    rw [← HW0.out]
    go_wp2_with fail
    refine HA.out.mono ?_
    rintro e w2 ⟨rfl, hb2⟩
    have HBA := Lib.hid (fun V => bare_any m.addr 5 m.ver V)
    have HZ2 := Lib.hid ((HZ.out.later hb2).alloc (lbox m))
    have h2 := HB.out.trans (hb2.mono HB.out.size)
    have HB2 := Lib.hid (h2.alloc h2.size (lbox m))
    have HX2 := Lib.hid (LBox.new w2 m)
    clear hb2 h2 ca
    obtain ⟨x0, x1, x2, x3, x4, x5, x6, x7⟩ := HX2.out.all
    go_wp2_with fail
    refine (HBA.out _).mono ?_
    rintro e w3 ⟨rfl, hb3⟩
    have HZ3 := Lib.hid (HZ2.out.later hb3)
    have HB3 := Lib.hid (HB2.out.trans (hb3.mono HB2.out.size))
    clear hb3 x0 x1 x2 x3 x4 x5 x6 x7
    go_wp2_with (first | (refine wp_storeR rowA rfl _ _ rfl w.heap.size _ rfl rfl HZ3.out rfl rfl rfl ?_))
    exact ans_end (a := ⟨false, zeroP, true, bareL m.addr 5 m.ver, 0⟩) rfl rfl (HZ3.out.set _) (by rw [HXX.out]; rfl) (zeroP_pks _ _) (HB3.out.trans (below_setRow _ w.heap.size _ (Nat.le_refl _)))

set_option maxRecDepth 100000 in
set_option maxHeartbeats 4000000 in
theorem release_any {T : World → (Nat → Prop) → Nat → List LV → Prop} (K : TabK T) {w : World} {P : Nat → Prop} {g gt : Nat} {q : QV} {L : List LV} (h : QT T w P g gt q L) (ho : QOk q) :
    Calls Tryz.prog 36 #[ptE g] w (GivesA w (releaseQ q L)) := by
  obtain ⟨w0, hw0⟩ : ∃ w0, w0 = w.alloc (.cells zeroA.cells 44) := ⟨_, rfl⟩
  have hB : Below w.heap.size w w0 := by rw [hw0]; exact (Below.refl _ _).alloc (Nat.le_refl _) _
  have hZ : Bx w0 w.heap.size 44 zeroA.cells := by rw [hw0]; exact Bx.new _ _ _
  have HQ := Lib.hid (h.later K hB)
  have HB := Lib.hid hB
  have HZ := Lib.hid hZ
  have HO := Lib.hid ho
  have HW0 : Hid (w0 = w.alloc (.cells #[.bool false, .int .i64 0, .int .u32 0, .int .i64 0, .int .i64 0, .int .u32 0, .int .u32 0, .int .u32 0, .int .u32 0, .slice none 0 0, .slice none 0 0, .bool false, .int .u32 0, .int .i64 0, .string ⟨#[]⟩, .int .i64 0, .int .i64 0, .int .i64 0, .int .i64 0, .int .i64 0, .int .i64 0] 44)) := Lib.hid hw0
  have HA := Lib.hid (qat_any K HQ.out q.p.ci HO.out.ci (f := 80) (pre := #[ptE g]) (p := hasE q) (fun _ _ => rfl) (fun m W hW => qhas_any m hW.m))
  obtain ⟨X, hX⟩ : ∃ X, X = releaseQ q L := ⟨_, rfl⟩
  rw [← hX]
  unfold releaseQ at hX
  have HXX := Lib.hid hX
  have HK := Lib.hid K
  have ca := HQ.out.m.c21
  clear hw0 hB hZ h K ho hX
  generalize atE (hasE q) L q.p.ci = r at *
  cases r with
  | none =>
    have HXN : Hid (X = noA) := Lib.hid HXX.out
    clear HXX
    have HXX := HXN
    go_enter Tryz.func36, Tryz.ntmps36
    go_upto_region 1 with fail
    rw [← HW0.out]
    go_wp2_with fail
    refine HA.out.mono ?_
    rintro e w2 ⟨rfl, hb2⟩
    have HZ2 := Lib.hid ((HZ.out.later hb2).alloc (lbox zeroL))
    have h2 := HB.out.trans (hb2.mono HB.out.size)
    have HB2 := Lib.hid (h2.alloc h2.size (lbox zeroL))
    clear hb2 h2 ca
    go_wp2_with (first | (refine wp_storeR rowA rfl _ _ rfl w.heap.size _ rfl rfl HZ2.out rfl rfl rfl ?_))
    exact ans_end (a := zeroA) rfl rfl (HZ2.out.set zeroA.cells) (by rw [HXX.out]; rfl) (zeroP_pks _ _) (HB2.out.trans (below_setRow _ w.heap.size zeroA.cells (Nat.le_refl _)))
  | some m =>
    go_enter Tryz.func36, Tryz.ntmps36
    go_upto_region 1 with fail
    rw [← HW0.out]
    go_wp2_with fail
    refine HA.out.mono ?_
    rintro e w2 ⟨rfl, hb2⟩
    obtain ⟨m2, hm2⟩ : ∃ m2 : LV, m2 = { m with bind := 4, at_ := q.now } := ⟨_, rfl⟩
    have HM2 := Lib.hid hm2
    have hbl := (Below.refl w2.heap.size w2).alloc (Nat.le_refl _) (lbox m)
    have HZ2 := Lib.hid ((HZ.out.later hb2).alloc (lbox m))
    have h2 := HB.out.trans (hb2.mono HB.out.size)
    have HB2 := Lib.hid (h2.alloc h2.size (lbox m))
    have HQ2 := Lib.hid ((HQ.out.later HK.out hb2).alloc HK.out (lbox m))
    have HX2 := Lib.hid (LBox.new w2 m)
    obtain ⟨w3, hw3⟩ : ∃ w3, w3 = w2.alloc (lbox m) := ⟨_, rfl⟩
    have HW3 := Lib.hid hw3
    rw [← hw3] at HZ2 HB2 HQ2 HX2
    have HGE : Hid (w.heap.size < w2.heap.size) := Lib.hid (HZ.out.later hb2).lt
    clear hb2 h2 ca hm2 hbl hw3
    have c32 := HQ2.out.m.c32
    go_upto_region 4 with fail
    rw [← HW3.out]
    go_cut [] (fun wx => LBox wx w2.heap.size m2 ∧ Bx wx w.heap.size 44 zeroA.cells ∧ Below w.heap.size w wx)
    case first =>
      have x1 := HX2.out.c1
      have x6 := HX2.out.c6
      have f1 := HX2.out.free 1
      have f6 := HX2.out.free 6
      go_region
      all_goals
        go_wp2
        go_meet
        refine ⟨LBox.drew (LBox.store (m' := m2) (HX2.out.store (m' := { m with bind := 4 }) 1 (.int .i64 4) rfl) 6 (.int .i64 q.now) (by rw [HM2.out]; rfl)), Bx.drew (Bx.other (Bx.other HZ2.out (a := ⟨w2.heap.size, 1, none⟩) (Nat.ne_of_lt HGE.out) _) (a := ⟨w2.heap.size, 6, none⟩) (Nat.ne_of_lt HGE.out) _), ?_⟩
        exact Below.drew (((HB2.out.setCell (p := ⟨w2.heap.size, 1, none⟩) (Nat.le_of_lt HGE.out) _).setCell (p := ⟨w2.heap.size, 6, none⟩) (Nat.le_of_lt HGE.out) _))
    case rest =>
      obtain ⟨hx, hz, hb⟩ := hcut
      have HX3 := Lib.hid hx
      have HZ3 := Lib.hid hz
      have HB3 := Lib.hid hb
      clear hx hz hb HX2 HZ2 HB2 HQ2 c32
      obtain ⟨x0, x1, x2, x3, x4, x5, x6, x7⟩ := HX3.out.all
      go_wp2_with (first | (refine wp_storeR rowA rfl _ _ rfl w.heap.size _ rfl rfl HZ3.out rfl rfl rfl ?_))
      exact ans_end (a := ⟨false, zeroP, true, m2, 0⟩) rfl rfl (HZ3.out.set _) (by rw [HXX.out, HM2.out]; rfl) (zeroP_pks _ _) (HB3.out.trans (below_setRow _ w.heap.size _ (Nat.le_refl _)))
end Go.Proofs.YtmaohnbddlccdaaGreat
end
