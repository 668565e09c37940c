/- Joined texts: EnrE, EnrR. -/
import Derived.Test.YtmaohnbddlccdaaGreatMrgEnrA
import Derived.Test.YtmaohnbddlccdaaGreatMrgTabP

/- engine, the document's: Pick. -/
section
namespace Go.Proofs.YtmaohnbddlccdaaGreat
open Go.RowKit Go.Sort

theorem find_here {p : LV → Bool} {L : List LV} {j : Nat} {x : LV} (hN : ∀ y ∈ L.take j, p y = false) (hx : L[j]? = some x) (hp : p x = true) : L.find? p = some x := by
  obtain ⟨h1, h2⟩ := List.getElem?_eq_some_iff.1 hx
  rw [List.find?_eq_some_iff_getElem]
  refine ⟨hp, j, h1, h2, fun k hk => ?_⟩
  have := hN L[k] (List.mem_of_getElem? (by rw [List.getElem?_take, if_pos hk]; exact List.getElem?_eq_getElem (by omega)))
  simp [this]
theorem find_nowhere {p : LV → Bool} {L : List LV} {j : Nat} (hN : ∀ y ∈ L.take j, p y = false) (hj : L.length ≤ j) : L.find? p = none := by
  rw [List.find?_eq_none]
  intro y hy
  have := hN y (by rwa [List.take_of_length_le hj])
  simp [this]
theorem none_next {p : LV → Bool} {L : List LV} {j : Nat} {x : LV} (hN : ∀ y ∈ L.take j, p y = false) (hx : L[j]? = some x) (hp : p x = false) : ∀ y ∈ L.take (j + 1), p y = false := by
  intro y hy
  rw [take_snoc_of L j x hx, List.mem_append, List.mem_singleton] at hy
  rcases hy with hy | rfl
  · exact hN y hy
  · exact hp

theorem rpick_end {w W : World} {g : Nat} {z m : LV} {b : Bool} {t : Array Value} (hz : LBox W g z) (hB : Below w.heap.size w W) (hg : w.heap.size ≤ g) (h2 : t[14]?.getD undef = .pointer (some ⟨g, 0, none⟩)) (h3 : t[15]?.getD undef = .bool b) :
    bodyPost Tryz.prog Tryz.f86 (fun e w' => e = .returned (.tuple #[m.v, .bool b]) ∧ Below w.heap.size w w') .ret { tmps := t, defers := [] } (storeL W g m) := by
  refine bodyPost_ret (v := .tuple #[m.v, .bool b]) ?_ ?_ ?_
  · obtain ⟨r0, r1, r2, r3, r4, r5, r6, r7⟩ := (storeL_box hz m).all
    simp [results, Tryz.f86, go_sem, h2, h3, r0, r1, r2, r3, r4, r5, r6, r7]
  · rfl
  · exact ⟨rfl, hB.trans (storeL_low W _ g hg m)⟩

set_option maxRecDepth 100000 in
set_option maxHeartbeats 4000000 in
theorem rpick_any (x : SiteV) (s now entry : Int) (c : List UInt8) (a : Nat) {wb w : World} {g : Nat} {v : Value} {L : List LV} (h : RTb wb w g v L) (hL : L.length ≤ 1000) :
    Calls Tryz.prog 86 #[x.v, ptE g, .int .i64 s, .int .i64 now, .int .i64 entry, .string ⟨c.toArray⟩, .int .u32 (a : Int)] w fun e w' => e = .returned (.tuple #[((pickE c (mayE x s now entry) L a).getD zeroL).v, .bool (pickE c (mayE x s now entry) L a).isSome]) ∧ Below w.heap.size w w' := by
  obtain ⟨w0, hw0⟩ : ∃ w0, w0 = (w.alloc (.cells x.cells 27)).alloc (.cells #[.int .u32 0, .int .i64 0, .string ⟨#[]⟩, .int .i64 0, .int .i64 0, .int .i64 0, .int .i64 0, .int .i64 0] 42) := ⟨_, rfl⟩
  have hs : (w.alloc (.cells x.cells 27)).heap.size = w.heap.size + 1 := by simp
  have hB : Below w.heap.size w w0 := by rw [hw0]; exact ((Below.refl _ _).alloc (Nat.le_refl _) _).alloc (by simp) _
  have HX : Hid (SBox w0 w.heap.size x) := Lib.hid (by rw [hw0]; exact (Bx.new _ _ _).alloc _)
  have HZ : Hid (LBox w0 (w.heap.size + 1) zeroL) := Lib.hid (by rw [hw0, ← hs]; exact LBox.new _ zeroL)
  have HT := Lib.hid (h.later hB)
  have HB := Lib.hid hB
  have HW0 := Lib.hid hw0
  have HG := Lib.hid (fun V (h : RTb wb V g v L) => rget_any a h (by omega))
  obtain ⟨r, hr⟩ : ∃ r, r = pickE c (mayE x s now entry) L a := ⟨_, rfl⟩
  rw [← hr]
  unfold pickE at hr
  have HRR := Lib.hid hr
  have HTH := Lib.hid (fun m V => rtheirs_any m c V)
  have HMA := Lib.hid (fun m V => (show Calls Tryz.prog 91 #[NC.r3v x.id x.lead x.guard, m.v, .int .i64 s, .int .i64 now, .int .i64 entry] V fun e w' => e = .returned (.bool (mayE x s now entry m)) ∧ Below V.heap.size V w' from NC.rmay_any x.id x.lead x.guard s now entry m V))
  have HRU := Lib.hid (fun V => rrules_any x V)
  generalize mayE x s now entry = may at *
  have hLL := hL
  clear hw0 hs hB h hr
  go_enter Tryz.func86, Tryz.ntmps86
  go_upto_region 1 with fail
  rw [← HW0.out]
  go_wp2
  go_loopw [16] (fun i wr => ∃ j : Nat, j ≤ L.length ∧ i = .int .i64 (j : Int) ∧ Hid (∀ y ∈ L.take j, theirsB y c = false) ∧ Hid (Below w0.heap.size w0 wr)) (fun i _ => L.length - (intOf i).toNat)
  case atStart => exact ⟨0, Nat.zero_le _, rfl, Lib.hid (by simp), Lib.hid (Below.refl _ _)⟩
  case round =>
    obtain ⟨j, hj, rfl, HN, HR⟩ := hrel
    rename_i wr
    have HT1 := Lib.hid (HT.out.later HR.out)
    obtain ⟨A, cc, -, c0, hlc, HE⟩ := HT1.out.read
    have HE := Lib.hid HE
    by_cases hlt : j < L.length
    · obtain ⟨y, hx⟩ : ∃ y, L[j]? = some y := ⟨_, List.getElem?_eq_getElem hlt⟩
      have HY := Lib.hid hx
      obtain ⟨b, o, rfl, hb, x0, x1, x2, x3, x4, x5, x6, x7⟩ := HE.out.at8 j y hx
      have hg : decide ((j : Int) < (L.length : Int)) = true := by simp; omega
      have hi1 : (j : Int) < (L.length : Int) := by omega
      clear hx hb
      have HC := Lib.hid (HTH.out y wr)
      cases ha : theirsB y c
      · rw [ha] at HC
        have HN2 := Lib.hid (none_next (p := (theirsB · c)) HN.out HY.out ha)
        clear ha
        go_wp2_with fail
        refine HC.out.mono ?_
        rintro e w2 ⟨rfl, hb2⟩
        have HR2 := Lib.hid (HR.out.trans (hb2.mono HR.out.size))
        clear hb2 c0 x0 x1 x2 x3 x4 x5 x6 x7
        go_wp2
        go_roundw
        case rel => exact ⟨j + 1, by omega, by go_num, HN2, HR2⟩
        case measure => simp [intOf]; omega
      · rw [ha] at HC
        have HF := Lib.hid (find_here (p := (theirsB · c)) HN.out HY.out ha)
        have er : r = some y := by rw [HRR.out, HF.out]
        subst er
        clear ha HRR
        go_wp2_with fail
        refine HC.out.mono ?_
        rintro e w2 ⟨rfl, hb2⟩
        have HR2 := Lib.hid (HR.out.trans (hb2.mono HR.out.size))
        have HZ2 := Lib.hid (HZ.out.later HR2.out)
        have HB2 := Lib.hid (HB.out.trans (HR2.out.mono HB.out.size))
        have HE2 := HE.out.later hb2
        have HT2 := HT1.out.later hb2
        obtain ⟨A2, cc2, ev, c0', -, -⟩ := HT2.read
        obtain ⟨A3, cc3, ev3, c03, -, -⟩ := HT1.out.read
        rw [c03] at c0
        injection c0 with c0
        injection c0 with d1 _ d2
        rw [ev3] at ev
        injection ev with e1 _ e2
        subst e1 e2 d1 d2
        clear hb2 x0 x1 x2 x3 x4 x5 x6 x7 ev3 c03 HT2
        obtain ⟨b', o', e8, _, x0, x1, x2, x3, x4, x5, x6, x7⟩ := HE2.at8 j y HY.out
        injection e8 with e8
        injection e8 with e81 e82
        subst e81 e82
        clear HE2
        obtain ⟨z0, z1, z2, z3, z4, z5, z6, z7⟩ := HZ2.out.all
        obtain ⟨f0, f1, f2, f3, f4, f5, f6, f7⟩ := HZ2.out.allF
        go_wp2
        refine rpick_end (w := w) (W := w2) (g := w.heap.size + 1) (z := zeroL) (m := y) (b := true) HZ2.out HB2.out (Nat.le_succ _) ?_ ?_ <;> rfl
    · have hg : decide ((j : Int) < (L.length : Int)) = false := decide_eq_false (by omega)
      have HF := Lib.hid (find_nowhere (p := (theirsB · c)) HN.out (by omega))
      have HX1 := Lib.hid (HX.out.later HR.out)
      rw [HF.out] at HRR
      have HR2 : Hid (r = match (lookE L a).filter may with | some m => some m | none => L.find? may) := Lib.hid HRR.out
      clear HRR HN HF
      obtain ⟨x0, x1, x2, x3, x4, x5, x6, x7, x8, x9, x10, x11, x12⟩ := SBox.all HX1.out
      go_wp2_with fail
      refine (HRU.out wr).mono ?_
      rintro e w2 ⟨rfl, hb2⟩
      have hal : Below w2.heap.size w2 (w2.alloc (NC.r3box 124 x.id x.lead x.guard)) := (Below.refl _ _).alloc (Nat.le_refl _) _
      have HQ3 := Lib.hid (NC.R3.new w2 124 x.id x.lead x.guard)
      have HR3 := Lib.hid (HR.out.trans ((hb2.trans (hal.mono hb2.size)).mono HR.out.size))
      have HT3 := Lib.hid (HT.out.later HR3.out)
      clear hb2 hal c0 x0 x1 x2 x3 x4 x5 x6 x7 x8 x9 x10 x11 x12
      clear hg hlt hj
      have HGG := Lib.hid (HG.out _ HT3.out)
      obtain ⟨q, e, hq1, hq2, hqe⟩ : ∃ (q : LV) (e : Int), (getL L a).1 = q ∧ (getL L a).2 = e ∧ (lookE L a = none ∧ e = 4 ∨ lookE L a = some q ∧ e = 0) := by
        rw [getL_look]
        cases lookE L a with
        | none => exact ⟨zeroL, 4, rfl, rfl, .inl ⟨rfl, rfl⟩⟩
        | some m => exact ⟨m, 0, rfl, rfl, .inr ⟨rfl, rfl⟩⟩
      rw [hq1, hq2] at HGG
      have HQE := Lib.hid hqe
      clear hq1 hq2 hqe
      go_wp2_with fail
      refine HGG.out.mono ?_
      rintro e4 w4 ⟨rfl, hb4⟩
      have hal : Below w4.heap.size w4 (w4.alloc (lbox q)) := (Below.refl _ _).alloc (Nat.le_refl _) _
      obtain ⟨w5, hw5⟩ : ∃ w5, w5 = w4.alloc (lbox q) := ⟨_, rfl⟩
      have HL5 : Hid (LBox w5 w4.heap.size q) := Lib.hid (by rw [hw5]; exact LBox.new w4 q)
      rw [← hw5] at hal
      have HQ5 := Lib.hid ((HQ3.out.later hb4).later hal)
      have HR5 := Lib.hid (HR3.out.trans ((hb4.trans (hal.mono hb4.size)).mono HR3.out.size))
      have HT5 := Lib.hid (HT.out.later HR5.out)
      have HW5 := Lib.hid hw5
      obtain ⟨gl, hgl⟩ : ∃ gl, gl = w4.heap.size := ⟨_, rfl⟩
      obtain ⟨gr, hgr⟩ : ∃ gr, gr = w2.heap.size := ⟨_, rfl⟩
      rw [← hgl] at HL5
      rw [← hgr] at HQ5
      have HGL := Lib.hid hgl
      have HGR := Lib.hid hgr
      clear hb4 hal hw5 hgl hgr HQ3 HR3 HT3 HG HGG
      go_upto_region 8 with fail
      rw [← HW5.out, ← HGL.out, ← HGR.out]
      clear HW5 HGL HGR
      obtain ⟨r0, r1, r2⟩ := HQ5.out.all
      obtain ⟨l0, l1, l2, l3, l4, l5, l6, l7⟩ := HL5.out.all
      go_cut [63] (fun s63 wx => s63 = .bool (e == 0 && may q) ∧ Below w5.heap.size w5 wx)
      case first =>
        rcases HQE.out with ⟨-, rfl⟩ | ⟨-, rfl⟩
        · go_wp2
          go_meet
          exact ⟨rfl, Below.refl _ _⟩
        · go_wp2_with fail
          refine (HMA.out q w5).mono ?_
          rintro e6 w6 ⟨rfl, hb6⟩
          have HB6 := Lib.hid hb6
          clear hb6 r0 r1 r2 l0 l1 l2 l3 l4 l5 l6 l7
          go_wp2
          go_meet
          exact ⟨by simp, HB6.out⟩
      case rest =>
        obtain ⟨rfl, hb6⟩ := hcut
        have HL6 := Lib.hid (HL5.out.later hb6)
        have HQ6 := Lib.hid (HQ5.out.later hb6)
        have HR6 := Lib.hid (HR5.out.trans (hb6.mono HR5.out.size))
        have HT6 := Lib.hid (HT5.out.later hb6)
        clear hb6 r0 r1 r2 l0 l1 l2 l3 l4 l5 l6 l7 HL5 HQ5 HR5 HT5
        cases ht : (e == 0 && may q)
        rotate_left
        · have er : r = some q := by
            simp only [Bool.and_eq_true, beq_iff_eq] at ht
            rcases HQE.out with ⟨-, h4⟩ | ⟨hl, -⟩
            · omega
            · rw [HR2.out, hl]
              simp [Option.filter, ht.2]
          subst er
          have HZ6 := Lib.hid (HZ.out.later HR6.out)
          have HB6 := Lib.hid (HB.out.trans (HR6.out.mono HB.out.size))
          clear ht HR2
          obtain ⟨l0, l1, l2, l3, l4, l5, l6, l7⟩ := HL6.out.all
          obtain ⟨z0, z1, z2, z3, z4, z5, z6, z7⟩ := HZ6.out.all
          obtain ⟨f0, f1, f2, f3, f4, f5, f6, f7⟩ := HZ6.out.allF
          go_wp2
          refine rpick_end (w := w) (W := wc) (g := w.heap.size + 1) (z := zeroL) (m := q) (b := true) HZ6.out HB6.out (Nat.le_succ _) ?_ ?_ <;> rfl
        · have HR7 : Hid (r = L.find? may) := Lib.hid (by
            rw [HR2.out]
            rcases HQE.out with ⟨hl, -⟩ | ⟨hl, rfl⟩
            · rw [hl]; rfl
            · have hm : may q = false := by simpa using ht
              rw [hl]
              simp [Option.filter, hm])
          clear ht HR2 HQE HL6
          go_wp2
          go_loopw [20] (fun i wr2 => ∃ j : Nat, j ≤ L.length ∧ i = .int .i64 (j : Int) ∧ Hid (∀ y ∈ L.take j, may y = false) ∧ Hid (Below wc.heap.size wc wr2)) (fun i _ => L.length - (intOf i).toNat)
          case atStart => exact ⟨0, Nat.zero_le _, rfl, Lib.hid (by simp), Lib.hid (Below.refl _ _)⟩
          case round =>
            obtain ⟨j2, hj2, rfl, HN2, HS⟩ := hrel
            have HS1 := Lib.hid (HR6.out.trans (HS.out.mono HR6.out.size))
            have HT7 := Lib.hid (HT6.out.later HS.out)
            have HQ7 := Lib.hid (HQ6.out.later HS.out)
            obtain ⟨A2, cc2, -, c0, hlc2, hE2⟩ := HT7.out.read
            have HE2 := Lib.hid hE2
            clear hE2
            by_cases hlt : j2 < L.length
            · obtain ⟨y, hx⟩ : ∃ y, L[j2]? = some y := ⟨_, List.getElem?_eq_getElem hlt⟩
              have HY := Lib.hid hx
              obtain ⟨b, o, rfl, hb, x0, x1, x2, x3, x4, x5, x6, x7⟩ := HE2.out.at8 j2 y hx
              have hg : decide ((j2 : Int) < (L.length : Int)) = true := by simp; omega
              clear hx hb
              go_wp2_with fail
              obtain ⟨r0, r1, r2⟩ := HQ7.out.allR
              have HMY := Lib.hid (NC.qb (fun V => HMA.out y V) wr)
              have d0 := cell_regrown c0
              have y0 := cell_regrown x0
              have y1 := cell_regrown x1
              have y2 := cell_regrown x2
              have y3 := cell_regrown x3
              have y4 := cell_regrown x4
              have y5 := cell_regrown x5
              have y6 := cell_regrown x6
              have y7 := cell_regrown x7
              refine wp_region_quiet_below (by kernel_rfl) (by kernel_rfl) ?_
              repeat (go_big_quiet_step (with_reducible exact HMY.out _ _))
              refine wpQuiet_nil ?_
              intro _ hw'
              obtain ⟨⟨dq, osq⟩, hw''⟩ := hw'
              subst hw''
              have hgr := below_regrown wr dq osq
              have HE8 := HE2.out.later hgr
              have c8 := (hgr.cell (block_lt_of_cell c0)).trans c0
              have HS8 := Lib.hid (HS.out.trans (hgr.mono HS.out.size))
              have HR8 := Lib.hid (HS1.out.trans (hgr.mono HS1.out.size))
              clear r0 r1 r2 d0 y0 y1 y2 y3 y4 y5 y6 y7 c0 x0 x1 x2 x3 x4 x5 x6 x7 hgr
              change (grow (redrawn wr dq) osq).cell? _ = _ at c8
              generalize grow (redrawn wr dq) osq = w9 at *
              cases ha : may y
              · have HN3 := Lib.hid (none_next (p := may) HN2.out HY.out ha)
                clear ha c8 HE8
                go_wp2
                go_roundw
                case rel => exact ⟨j2 + 1, by omega, by go_num, HN3, HS8⟩
                case measure => simp [intOf]; omega
              · have HF := Lib.hid (find_here (p := may) HN2.out HY.out ha)
                have er : r = some y := by rw [HR7.out, HF.out]
                subst er
                clear ha HR7
                have HZ9 := Lib.hid (HZ.out.later HR8.out)
                have HB9 := Lib.hid (HB.out.trans (HR8.out.mono HB.out.size))
                obtain ⟨b', o', e8, _, x0, x1, x2, x3, x4, x5, x6, x7⟩ := HE8.at8 j2 y HY.out
                injection e8 with e8
                injection e8 with e81 e82
                subst e81 e82
                clear HE8
                obtain ⟨z0, z1, z2, z3, z4, z5, z6, z7⟩ := HZ9.out.all
                obtain ⟨f0, f1, f2, f3, f4, f5, f6, f7⟩ := HZ9.out.allF
                go_wp2
                refine rpick_end (w := w) (W := w9) (g := w.heap.size + 1) (z := zeroL) (m := y) (b := true) HZ9.out HB9.out (Nat.le_succ _) ?_ ?_ <;> rfl
            · have hg : decide ((j2 : Int) < (L.length : Int)) = false := decide_eq_false (by omega)
              have HF := Lib.hid (find_nowhere (p := may) HN2.out (by omega))
              have er : r = none := by rw [HR7.out, HF.out]
              subst er
              have HZ9 := Lib.hid (HZ.out.later HS1.out)
              have HB9 := Lib.hid (HB.out.trans (HS1.out.mono HB.out.size))
              obtain ⟨z0, z1, z2, z3, z4, z5, z6, z7⟩ := HZ9.out.all
              obtain ⟨f0, f1, f2, f3, f4, f5, f6, f7⟩ := HZ9.out.allF
              go_wp2
              refine rpick_end (w := w) (W := wr) (g := w.heap.size + 1) (z := zeroL) (m := zeroL) (b := false) HZ9.out HB9.out (Nat.le_succ _) ?_ ?_ <;> rfl
end Go.Proofs.YtmaohnbddlccdaaGreat
end

/- engine, the document's: Right. (Written by wip/tools/genenrr.py.) -/
section
namespace Go.Proofs.YtmaohnbddlccdaaGreat
open Go.RowKit Go.Sort

theorem site_order (x : SiteV) (code : Int) : siteB x code = (code == 0 && (witB x.lead 0 1073741824 && witB x.guard 0 1073741824 && witB x.want 1 1073741824 && witB x.most 1 1073741824) && witB x.id 0 1 && decide (x.want ≤ x.most) && witB x.first 0 256 && witB x.room 1 1048576) := by
  unfold siteB witB
  rw [Bool.eq_iff_iff]
  simp only [Bool.and_eq_true, decide_eq_true_eq, beq_iff_eq]
  omega

set_option maxRecDepth 100000 in
set_option maxHeartbeats 4000000 in
theorem rsright_any (x : SiteV) (w : World) (hx : Rg w w.heap.size x.plA x.pl) (hl : x.pl.length ≤ 1000) :
    Calls Tryz.prog 15 #[x.v] w fun e w' => ∃ ol code, RefRes x.pl ol code ∧ e = .returned (.bool (siteB x code)) ∧ Below w.heap.size w w' := by
  obtain ⟨w0, hw0⟩ : ∃ w0, w0 = w.alloc (.cells x.cells 27) := ⟨_, rfl⟩
  have hB : Below w.heap.size w w0 := by rw [hw0]; exact (Below.refl _ _).alloc (Nat.le_refl _) _
  have hX : SBox w0 w.heap.size x := by rw [hw0]; exact Bx.new _ _ _
  have HP := Lib.hid (rpool_any x.plA x.plC x.pl w0 ((hx.below hB).more hB.size) (by omega))
  have HX := Lib.hid hX
  have HB := Lib.hid hB
  have HW0 := Lib.hid hw0
  have H1 := Lib.hid (fun V => rwithin_any x.lead 0 1073741824 V)
  have H2 := Lib.hid (fun V => rwithin_any x.guard 0 1073741824 V)
  have H3 := Lib.hid (fun V => rwithin_any x.want 1 1073741824 V)
  have H4 := Lib.hid (fun V => rwithin_any x.most 1 1073741824 V)
  have H5 := Lib.hid (fun V => rwithin_any x.id 0 1 V)
  have H6 := Lib.hid (fun V => rwithin_any x.first 0 256 V)
  have H7 := Lib.hid (fun V => rwithin_any x.room 1 1048576 V)
  have HS := Lib.hid (site_order x)
  generalize witB x.lead 0 1073741824 = b1 at *
  generalize witB x.guard 0 1073741824 = b2 at *
  generalize witB x.want 1 1073741824 = b3 at *
  generalize witB x.most 1 1073741824 = b4 at *
  generalize witB x.id 0 1 = b5 at *
  generalize witB x.first 0 256 = b6 at *
  generalize witB x.room 1 1048576 = b7 at *
  obtain ⟨wm, hwm⟩ : ∃ wm, wm = decide (x.want ≤ x.most) := ⟨_, rfl⟩
  rw [← hwm] at HS
  have HWM := Lib.hid hwm
  obtain ⟨x0, x1, x2, x3, x4, x5, x6, x7, x8, x9, x10, x11, x12⟩ := SBox.all hX
  clear hw0 hB hX hx hwm
  go_enter Tryz.func15, Tryz.ntmps15
  go_upto_region 1 with fail
  rw [← HW0.out]
  go_wp2_with fail
  refine HP.out.mono ?_
  rintro e w1 ⟨ol, code, pA, cap, rfl, hres, -, hb1⟩
  have HRES := Lib.hid hres
  have HX1 := Lib.hid (HX.out.later hb1)
  have HB1 := Lib.hid (HB.out.trans (hb1.mono HB.out.size))
  clear hb1 hres x0 x1 x2 x3 x4 x5 x6 x7 x8 x9 x10 x11 x12
  obtain ⟨x0, x1, x2, x3, x4, x5, x6, x7, x8, x9, x10, x11, x12⟩ := SBox.all HX1.out
  by_cases h0 : code = 0
  rotate_left
  · have t0 : (code == 0) = false := by simpa using h0
    have HT0 := Lib.hid t0
    clear h0
    go_wp2_with fail
    refine (H1.out _).mono ?_
    rintro e w' ⟨rfl, rfl⟩
    cases b1
    · go_wp2
      go_ret
      exact ⟨ol, code, HRES.out, by rw [HS.out, HT0.out]; simp, HB1.out⟩
    go_wp2_with fail
    refine (H2.out _).mono ?_
    rintro e w' ⟨rfl, rfl⟩
    cases b2
    · go_wp2
      go_ret
      exact ⟨ol, code, HRES.out, by rw [HS.out, HT0.out]; simp, HB1.out⟩
    go_wp2_with fail
    refine (H3.out _).mono ?_
    rintro e w' ⟨rfl, rfl⟩
    cases b3
    · go_wp2
      go_ret
      exact ⟨ol, code, HRES.out, by rw [HS.out, HT0.out]; simp, HB1.out⟩
    go_wp2_with fail
    refine (H4.out _).mono ?_
    rintro e w' ⟨rfl, rfl⟩
    cases b4
    · go_wp2
      go_ret
      exact ⟨ol, code, HRES.out, by rw [HS.out, HT0.out]; simp, HB1.out⟩
    go_wp2
    go_ret
    exact ⟨ol, code, HRES.out, by rw [HS.out, HT0.out]; simp, HB1.out⟩
  have t0 : (code == 0) = true := by simp [h0]
  have HT0 := Lib.hid t0
  clear h0
  go_wp2_with fail
  refine (H1.out _).mono ?_
  rintro e w' ⟨rfl, rfl⟩
  cases b1
  · go_wp2
    go_ret
    exact ⟨ol, code, HRES.out, by rw [HS.out, HT0.out]; simp, HB1.out⟩
  go_wp2_with fail
  refine (H2.out _).mono ?_
  rintro e w' ⟨rfl, rfl⟩
  cases b2
  · go_wp2
    go_ret
    exact ⟨ol, code, HRES.out, by rw [HS.out, HT0.out]; simp, HB1.out⟩
  go_wp2_with fail
  refine (H3.out _).mono ?_
  rintro e w' ⟨rfl, rfl⟩
  cases b3
  · go_wp2
    go_ret
    exact ⟨ol, code, HRES.out, by rw [HS.out, HT0.out]; simp, HB1.out⟩
  go_wp2_with fail
  refine (H4.out _).mono ?_
  rintro e w' ⟨rfl, rfl⟩
  cases b4
  · go_wp2
    go_ret
    exact ⟨ol, code, HRES.out, by rw [HS.out, HT0.out]; simp, HB1.out⟩
  go_wp2_with fail
  refine (H5.out _).mono ?_
  rintro e w' ⟨rfl, rfl⟩
  cases b5
  · go_wp2
    go_ret
    exact ⟨ol, code, HRES.out, by rw [HS.out, HT0.out]; simp, HB1.out⟩
  cases wm
  · have tw : decide (x.want ≤ x.most) = false := HWM.out.symm
    go_wp2
    go_ret
    exact ⟨ol, code, HRES.out, by rw [HS.out, HT0.out]; simp, HB1.out⟩
  have tw : decide (x.want ≤ x.most) = true := HWM.out.symm
  go_wp2_with fail
  refine (H6.out _).mono ?_
  rintro e w' ⟨rfl, rfl⟩
  cases b6
  · go_wp2
    go_ret
    exact ⟨ol, code, HRES.out, by rw [HS.out, HT0.out]; simp, HB1.out⟩
  go_wp2_with fail
  refine (H7.out _).mono ?_
  rintro e w' ⟨rfl, rfl⟩
  cases b7
  · go_wp2
    go_ret
    exact ⟨ol, code, HRES.out, by rw [HS.out, HT0.out]; simp, HB1.out⟩
  go_wp2
  go_ret
  exact ⟨ol, code, HRES.out, by rw [HS.out, HT0.out]; simp, HB1.out⟩
end Go.Proofs.YtmaohnbddlccdaaGreat
end
