/- Joined texts: EngX, EngY, EngQ. -/
import Derived.Test.YtmaohnbddlccdaaGreatMrgEngV
import Derived.Test.YtmaohnbddlccdaaGreatMrgAddrN

/- engine: Right, ask. (Written by wip/tools/genengx.py.) -/
section
namespace Go.Proofs.YtmaohnbddlccdaaGreat
open Go.RowKit Go.Sort

section
variable {w w' : World} {b : Nat} {x : SiteV}
/-- A site's box. -/
abbrev SBox (w : World) (b : Nat) (x : SiteV) : Prop := Bx w b 27 x.cells
theorem SBox.all (h : SBox w b x) : w.cell? ⟨b, 0, none⟩ = some (.int .i64 x.id) ∧ w.cell? ⟨b, 1, none⟩ = some (.int .i64 x.lead) ∧ w.cell? ⟨b, 2, none⟩ = some (.int .i64 x.guard) ∧ w.cell? ⟨b, 3, none⟩ = some (.int .u32 (x.server : Int)) ∧ w.cell? ⟨b, 4, none⟩ = some (.int .i64 x.want) ∧ w.cell? ⟨b, 5, none⟩ = some (.int .i64 x.most) ∧ w.cell? ⟨b, 6, none⟩ = some (.int .i64 x.first) ∧ w.cell? ⟨b, 7, none⟩ = some (.float .f64 x.part) ∧ w.cell? ⟨b, 8, none⟩ = some (.float .f64 x.slack) ∧ w.cell? ⟨b, 9, none⟩ = some (.float .f64 x.renew) ∧ w.cell? ⟨b, 10, none⟩ = some (.float .f64 x.rebind) ∧ w.cell? ⟨b, 11, none⟩ = some (.slice x.plA x.pl.length x.plC) ∧ w.cell? ⟨b, 12, none⟩ = some (.int .i64 x.room) :=
  ⟨h.at_ 0, h.at_ 1, h.at_ 2, h.at_ 3, h.at_ 4, h.at_ 5, h.at_ 6, h.at_ 7, h.at_ 8, h.at_ 9, h.at_ 10, h.at_ 11, h.at_ 12⟩
end

set_option maxRecDepth 100000 in
set_option maxHeartbeats 4000000 in
theorem sright_any (x : SiteV) (w : World) (hx : Rg w w.heap.size x.plA x.pl) (hl : x.pl.length ≤ 1000) :
    Calls Tryz.prog 14 #[x.v] w fun e w' => ∃ ol code, PoolRes x.pl ol code ∧ e = .returned (.bool (siteB x code)) ∧ Below w.heap.size w w' := by
  obtain ⟨w0, hw0⟩ : ∃ w0, w0 = w.alloc (.cells x.cells 27) := ⟨_, rfl⟩
  have hB : Below w.heap.size w w0 := by rw [hw0]; exact (Below.refl _ _).alloc (Nat.le_refl _) _
  have hX : SBox w0 w.heap.size x := by rw [hw0]; exact Bx.new _ _ _
  have HP := Lib.hid (pool_any x.plA x.plC x.pl w0 ((hx.below hB).more hB.size) (by omega))
  have HX := Lib.hid hX
  have HB := Lib.hid hB
  have HW0 := Lib.hid hw0
  have H1 := Lib.hid (fun V => within_any x.id 0 1 V)
  have H2 := Lib.hid (fun V => within_any x.lead 0 1073741824 V)
  have H3 := Lib.hid (fun V => within_any x.guard 0 1073741824 V)
  have H4 := Lib.hid (fun V => within_any x.most 1 1073741824 V)
  have H5 := Lib.hid (fun V => within_any x.want 1 x.most V)
  have H6 := Lib.hid (fun V => within_any x.first 0 256 V)
  have H7 := Lib.hid (fun V => within_any x.room 1 1048576 V)
  have HS : Hid (∀ code, siteB x code = (code == 0 && witB x.id 0 1 && witB x.lead 0 1073741824 && witB x.guard 0 1073741824 && witB x.most 1 1073741824 && witB x.want 1 x.most && witB x.first 0 256 && witB x.room 1 1048576)) := Lib.hid (fun code => rfl)
  generalize witB x.id 0 1 = b1 at *
  generalize witB x.lead 0 1073741824 = b2 at *
  generalize witB x.guard 0 1073741824 = b3 at *
  generalize witB x.most 1 1073741824 = b4 at *
  generalize witB x.want 1 x.most = b5 at *
  generalize witB x.first 0 256 = b6 at *
  generalize witB x.room 1 1048576 = b7 at *
  obtain ⟨x0, x1, x2, x3, x4, x5, x6, x7, x8, x9, x10, x11, x12⟩ := SBox.all hX
  clear hw0 hB hX hx
  go_enter Tryz.func14, Tryz.ntmps14
  go_upto_region 1 with fail
  rw [← HW0.out]
  go_wp2_with fail
  refine HP.out.mono ?_
  rintro e w1 ⟨ol, code, pA, cap, rfl, hres, -, hb1⟩
  have HRES := Lib.hid hres
  have HX1 := Lib.hid (HX.out.later hb1)
  have HB1 := Lib.hid (HB.out.trans (hb1.mono HB.out.size))
  clear hb1 hres x0 x1 x2 x3 x4 x5 x6 x7 x8 x9 x10 x11 x12
  obtain ⟨x0, x1, x2, x3, x4, x5, x6, x7, x8, x9, x10, x11, x12⟩ := SBox.all HX1.out
  by_cases h0 : code = 0
  rotate_left
  · have t0 : (code == 0) = false := by simpa using h0
    have HT0 := Lib.hid t0
    clear h0
    go_wp2
    go_ret
    exact ⟨ol, code, HRES.out, by rw [HS.out, HT0.out]; rfl, HB1.out⟩
  have t0 : (code == 0) = true := by simp [h0]
  have HT0 := Lib.hid t0
  clear h0
  go_wp2_with fail
  refine (H1.out _).mono ?_
  rintro e w' ⟨rfl, rfl⟩
  cases b1
  · go_wp2
    go_ret
    exact ⟨ol, code, HRES.out, by rw [HS.out, HT0.out]; rfl, HB1.out⟩
  go_wp2_with fail
  refine (H2.out _).mono ?_
  rintro e w' ⟨rfl, rfl⟩
  cases b2
  · go_wp2
    go_ret
    exact ⟨ol, code, HRES.out, by rw [HS.out, HT0.out]; rfl, HB1.out⟩
  go_wp2_with fail
  refine (H3.out _).mono ?_
  rintro e w' ⟨rfl, rfl⟩
  cases b3
  · go_wp2
    go_ret
    exact ⟨ol, code, HRES.out, by rw [HS.out, HT0.out]; rfl, HB1.out⟩
  go_wp2_with fail
  refine (H4.out _).mono ?_
  rintro e w' ⟨rfl, rfl⟩
  cases b4
  · go_wp2
    go_ret
    exact ⟨ol, code, HRES.out, by rw [HS.out, HT0.out]; rfl, HB1.out⟩
  go_wp2_with fail
  refine (H5.out _).mono ?_
  rintro e w' ⟨rfl, rfl⟩
  cases b5
  · go_wp2
    go_ret
    exact ⟨ol, code, HRES.out, by rw [HS.out, HT0.out]; rfl, HB1.out⟩
  go_wp2_with fail
  refine (H6.out _).mono ?_
  rintro e w' ⟨rfl, rfl⟩
  cases b6
  · go_wp2
    go_ret
    exact ⟨ol, code, HRES.out, by rw [HS.out, HT0.out]; rfl, HB1.out⟩
  go_wp2_with fail
  refine (H7.out _).mono ?_
  rintro e w' ⟨rfl, rfl⟩
  cases b7
  · go_wp2
    go_ret
    exact ⟨ol, code, HRES.out, by rw [HS.out, HT0.out]; rfl, HB1.out⟩
  go_wp2
  go_ret
  exact ⟨ol, code, HRES.out, by rw [HS.out, HT0.out]; rfl, HB1.out⟩
end Go.Proofs.YtmaohnbddlccdaaGreat
end

/- engine: ask. (Written by wip/tools/genengy.py.) -/
section
namespace Go.Proofs.YtmaohnbddlccdaaGreat
open Go.RowKit Go.Sort

/-- A query is given: of a site, its pool and a packet. -/
def GivesQ (w : World) (x : SiteV) (p : NO.PktV) (e : Ending) (w' : World) : Prop :=
  ∃ g ol code A c, PoolRes x.pl ol code ∧ e = .returned (ptE g) ∧ Bx w' g 77 (QV.cells ⟨x, A, c, ol, p, NO.clientA p.abs, NO.askA p.abs, wantE x p.abs, none, 0, 0, 0⟩) ∧ Rg w' g A ol ∧ w.heap.size ≤ g ∧ Below w.heap.size w w'

set_option maxRecDepth 100000 in
set_option maxHeartbeats 4000000 in
theorem ask_any (x : SiteV) (p : NO.PktV) (w : World) (hx : Rg w w.heap.size x.plA x.pl) (hl : x.pl.length ≤ 1000) (hp : NO.Pk w w.heap.size p) (hL : p.L.length ≤ 1000) (hd : ∀ y ∈ p.L, y.data.length ≤ 1000) :
    Calls Tryz.prog 32 #[x.v, p.v] w (GivesQ w x p) := by
  obtain ⟨w0, hw0⟩ : ∃ w0, w0 = (w.alloc (.cells x.cells 27)).alloc (NO.pbox p) := ⟨_, rfl⟩
  have hs : (w.alloc (.cells x.cells 27)).heap.size = w.heap.size + 1 := by simp
  have hB : Below w.heap.size w w0 := by rw [hw0]; exact ((Below.refl _ _).alloc (Nat.le_refl _) _).alloc (by simp) _
  have hX : SBox w0 w.heap.size x := by rw [hw0]; exact (Bx.new _ _ _).alloc _
  have hP : Bx w0 (w.heap.size + 1) 32 p.cells := by rw [hw0, ← hs]; exact Bx.new _ _ _
  have HPO := Lib.hid (pool_any x.plA x.plC x.pl w0 ((hx.below hB).more hB.size) (by omega))
  have HPK := Lib.hid (hp.later hB)
  have HAS := Lib.hid (fun V (h : NO.Pk V V.heap.size p) => NO.asked_any p V h hL hd)
  have HCL := Lib.hid (fun V (h : NO.Pk V V.heap.size p) => NO.client_any p V h hL hd)
  have HC := Lib.hid (fun V (hb : Below w0.heap.size w0 V) => (show (V).cell? ⟨w.heap.size, 0, none⟩ = some (.int .i64 x.id) ∧ (V).cell? ⟨w.heap.size, 1, none⟩ = some (.int .i64 x.lead) ∧ (V).cell? ⟨w.heap.size, 2, none⟩ = some (.int .i64 x.guard) ∧ (V).cell? ⟨w.heap.size, 3, none⟩ = some (.int .u32 (x.server : Int)) ∧ (V).cell? ⟨w.heap.size, 4, none⟩ = some (.int .i64 x.want) ∧ (V).cell? ⟨w.heap.size, 5, none⟩ = some (.int .i64 x.most) ∧ (V).cell? ⟨w.heap.size, 6, none⟩ = some (.int .i64 x.first) ∧ (V).cell? ⟨w.heap.size, 7, none⟩ = some (.float .f64 x.part) ∧ (V).cell? ⟨w.heap.size, 8, none⟩ = some (.float .f64 x.slack) ∧ (V).cell? ⟨w.heap.size, 9, none⟩ = some (.float .f64 x.renew) ∧ (V).cell? ⟨w.heap.size, 10, none⟩ = some (.float .f64 x.rebind) ∧ (V).cell? ⟨w.heap.size, 11, none⟩ = some (.slice x.plA x.pl.length x.plC) ∧ (V).cell? ⟨w.heap.size, 12, none⟩ = some (.int .i64 x.room) ∧ (V).cell? ⟨(w.heap.size + 1), 0, none⟩ = some (.int .i64 p.op) ∧ (V).cell? ⟨(w.heap.size + 1), 1, none⟩ = some (.int .u32 (p.xid : Int)) ∧ (V).cell? ⟨(w.heap.size + 1), 2, none⟩ = some (.int .i64 p.secs) ∧ (V).cell? ⟨(w.heap.size + 1), 3, none⟩ = some (.int .i64 p.flags) ∧ (V).cell? ⟨(w.heap.size + 1), 4, none⟩ = some (.int .u32 (p.ci : Int)) ∧ (V).cell? ⟨(w.heap.size + 1), 5, none⟩ = some (.int .u32 (p.yi : Int)) ∧ (V).cell? ⟨(w.heap.size + 1), 6, none⟩ = some (.int .u32 (p.si : Int)) ∧ (V).cell? ⟨(w.heap.size + 1), 7, none⟩ = some (.int .u32 (p.gi : Int)) ∧ (V).cell? ⟨(w.heap.size + 1), 8, none⟩ = some (.slice p.hwA p.hw.length p.hwC) ∧ (V).cell? ⟨(w.heap.size + 1), 9, none⟩ = some (.slice p.opA p.L.length p.opC) from ⟨(hX.later hb).at_ 0, (hX.later hb).at_ 1, (hX.later hb).at_ 2, (hX.later hb).at_ 3, (hX.later hb).at_ 4, (hX.later hb).at_ 5, (hX.later hb).at_ 6, (hX.later hb).at_ 7, (hX.later hb).at_ 8, (hX.later hb).at_ 9, (hX.later hb).at_ 10, (hX.later hb).at_ 11, (hX.later hb).at_ 12, (hP.later hb).at_ 0, (hP.later hb).at_ 1, (hP.later hb).at_ 2, (hP.later hb).at_ 3, (hP.later hb).at_ 4, (hP.later hb).at_ 5, (hP.later hb).at_ 6, (hP.later hb).at_ 7, (hP.later hb).at_ 8, (hP.later hb).at_ 9⟩))
  have HB := Lib.hid hB
  have HW0 := Lib.hid hw0
  unfold GivesQ wantE
  generalize NO.clientA p.abs = cl at *
  generalize NO.askA p.abs = ad at *
  obtain ⟨w8, hw8⟩ : ∃ w8 : Int, w8 = if NO.longA p.abs = 0 then x.want else (NO.longA p.abs : Int) := ⟨_, rfl⟩
  rw [← hw8]
  have HW8 := Lib.hid hw8
  generalize NO.longA p.abs = lg at *
  clear hw0 hB hX hP hx hp hd hs hw8
  obtain ⟨x0, x1, x2, x3, x4, x5, x6, x7, x8, x9, x10, x11, x12, x13, x14, x15, x16, x17, x18, x19, x20, x21, x22⟩ := HC.out w0 (Below.refl _ _)
  go_enter Tryz.func32, Tryz.ntmps32
  go_upto_region 1 with fail
  rw [← HW0.out]
  go_wp2_with fail
  refine HPO.out.mono ?_
  rintro e w1 ⟨ol, code, pA, cap, rfl, hres, hrg, hb1⟩
  have HRES := Lib.hid hres
  have HRG1 := Lib.hid hrg
  have HB1 := Lib.hid hb1
  clear hb1 hres hrg HPO x0 x1 x2 x3 x4 x5 x6 x7 x8 x9 x10 x11 x12 x13 x14 x15 x16 x17 x18 x19 x20 x21 x22
  obtain ⟨x0, x1, x2, x3, x4, x5, x6, x7, x8, x9, x10, x11, x12, x13, x14, x15, x16, x17, x18, x19, x20, x21, x22⟩ := HC.out w1 HB1.out
  go_wp2_with fail
  refine (HAS.out w1 (HPK.out.later HB1.out)).mono ?_
  rintro e w2 ⟨rfl, hb2⟩
  have HRG2 := Lib.hid ((HRG1.out.below hb2).more hb2.size)
  have HB2 := Lib.hid (HB1.out.trans (hb2.mono HB1.out.size))
  clear hb2 HRG1 x0 x1 x2 x3 x4 x5 x6 x7 x8 x9 x10 x11 x12 x13 x14 x15 x16 x17 x18 x19 x20 x21 x22
  obtain ⟨x0, x1, x2, x3, x4, x5, x6, x7, x8, x9, x10, x11, x12, x13, x14, x15, x16, x17, x18, x19, x20, x21, x22⟩ := HC.out w2 HB2.out
  go_upto_if 21 with fail
  go_cut [8] (fun s8 wx => s8 = .int .i64 w8 ∧ wx = w2)
  case first =>
    by_cases h0 : lg = 0
    · have t0 : ((lg : Int) == 0) = true := by simp [h0]
      have e8 := HW8.out
      rw [if_pos h0] at e8
      subst e8
      clear h0
      go_wp2
      go_meet
      exact ⟨rfl, rfl⟩
    · have t0 : ((lg : Int) == 0) = false := by simpa using h0
      have e8 := HW8.out
      rw [if_neg h0] at e8
      subst e8
      clear h0
      go_wp2
      go_meet
      exact ⟨rfl, rfl⟩
  case rest =>
    obtain ⟨rfl, hwc⟩ := hcut
    rw [hwc]
    clear hwc HAS HW8
    have k0 : Below w0.heap.size w0 w2.drew := HB2.out.drew
    have HB2D := Lib.hid k0
    obtain ⟨k0, k1, k2, k3, k4, k5, k6, k7, k8, k9, k10, k11, k12, k13, k14, k15, k16, k17, k18, k19, k20, k21, k22⟩ := HC.out w2.drew HB2D.out
    clear x0 x1 x2 x3 x4 x5 x6 x7 x8 x9 x10 x11 x12 x13 x14 x15 x16 x17 x18 x19 x20 x21 x22
    go_upto_region 5 with fail
    go_region_held3 (fun w' => (w').cell? ⟨w.heap.size, 0, none⟩ = some (.int .i64 x.id) ∧ (w').cell? ⟨w.heap.size, 1, none⟩ = some (.int .i64 x.lead) ∧ (w').cell? ⟨w.heap.size, 2, none⟩ = some (.int .i64 x.guard) ∧ (w').cell? ⟨w.heap.size, 3, none⟩ = some (.int .u32 (x.server : Int)) ∧ (w').cell? ⟨w.heap.size, 4, none⟩ = some (.int .i64 x.want) ∧ (w').cell? ⟨w.heap.size, 5, none⟩ = some (.int .i64 x.most) ∧ (w').cell? ⟨w.heap.size, 6, none⟩ = some (.int .i64 x.first) ∧ (w').cell? ⟨w.heap.size, 7, none⟩ = some (.float .f64 x.part) ∧ (w').cell? ⟨w.heap.size, 8, none⟩ = some (.float .f64 x.slack) ∧ (w').cell? ⟨w.heap.size, 9, none⟩ = some (.float .f64 x.renew) ∧ (w').cell? ⟨w.heap.size, 10, none⟩ = some (.float .f64 x.rebind) ∧ (w').cell? ⟨w.heap.size, 11, none⟩ = some (.slice x.plA x.pl.length x.plC) ∧ (w').cell? ⟨w.heap.size, 12, none⟩ = some (.int .i64 x.room) ∧ (w').cell? ⟨(w.heap.size + 1), 0, none⟩ = some (.int .i64 p.op) ∧ (w').cell? ⟨(w.heap.size + 1), 1, none⟩ = some (.int .u32 (p.xid : Int)) ∧ (w').cell? ⟨(w.heap.size + 1), 2, none⟩ = some (.int .i64 p.secs) ∧ (w').cell? ⟨(w.heap.size + 1), 3, none⟩ = some (.int .i64 p.flags) ∧ (w').cell? ⟨(w.heap.size + 1), 4, none⟩ = some (.int .u32 (p.ci : Int)) ∧ (w').cell? ⟨(w.heap.size + 1), 5, none⟩ = some (.int .u32 (p.yi : Int)) ∧ (w').cell? ⟨(w.heap.size + 1), 6, none⟩ = some (.int .u32 (p.si : Int)) ∧ (w').cell? ⟨(w.heap.size + 1), 7, none⟩ = some (.int .u32 (p.gi : Int)) ∧ (w').cell? ⟨(w.heap.size + 1), 8, none⟩ = some (.slice p.hwA p.hw.length p.hwC) ∧ (w').cell? ⟨(w.heap.size + 1), 9, none⟩ = some (.slice p.opA p.L.length p.opC)) (first | (with_reducible exact ra _) | go_keep) (first
      | (go_at_call 20; (with_reducible refine (HCL.out _ ?_).mono ?_); (with_reducible exact (HPK.out.later HB2D.out)); rintro e w7 ⟨rfl, hb7⟩; have HB7 := Lib.hid (HB2D.out.trans (hb7.mono HB2D.out.size)); have HRG7 := Lib.hid ((HRG2.out.below ((Below.refl w2.heap.size w2).drew)).more (Nat.le_refl w2.drew.heap.size)); obtain ⟨j0, j1, j2, j3, j4, j5, j6, j7, j8, j9, j10, j11, j12, j13, j14, j15, j16, j17, j18, j19, j20, j21, j22⟩ := HC.out w7 HB7.out; have ra : ∀ o, (w7.alloc o).cell? ⟨w.heap.size, 0, none⟩ = some (.int .i64 x.id) ∧ (w7.alloc o).cell? ⟨w.heap.size, 1, none⟩ = some (.int .i64 x.lead) ∧ (w7.alloc o).cell? ⟨w.heap.size, 2, none⟩ = some (.int .i64 x.guard) ∧ (w7.alloc o).cell? ⟨w.heap.size, 3, none⟩ = some (.int .u32 (x.server : Int)) ∧ (w7.alloc o).cell? ⟨w.heap.size, 4, none⟩ = some (.int .i64 x.want) ∧ (w7.alloc o).cell? ⟨w.heap.size, 5, none⟩ = some (.int .i64 x.most) ∧ (w7.alloc o).cell? ⟨w.heap.size, 6, none⟩ = some (.int .i64 x.first) ∧ (w7.alloc o).cell? ⟨w.heap.size, 7, none⟩ = some (.float .f64 x.part) ∧ (w7.alloc o).cell? ⟨w.heap.size, 8, none⟩ = some (.float .f64 x.slack) ∧ (w7.alloc o).cell? ⟨w.heap.size, 9, none⟩ = some (.float .f64 x.renew) ∧ (w7.alloc o).cell? ⟨w.heap.size, 10, none⟩ = some (.float .f64 x.rebind) ∧ (w7.alloc o).cell? ⟨w.heap.size, 11, none⟩ = some (.slice x.plA x.pl.length x.plC) ∧ (w7.alloc o).cell? ⟨w.heap.size, 12, none⟩ = some (.int .i64 x.room) ∧ (w7.alloc o).cell? ⟨(w.heap.size + 1), 0, none⟩ = some (.int .i64 p.op) ∧ (w7.alloc o).cell? ⟨(w.heap.size + 1), 1, none⟩ = some (.int .u32 (p.xid : Int)) ∧ (w7.alloc o).cell? ⟨(w.heap.size + 1), 2, none⟩ = some (.int .i64 p.secs) ∧ (w7.alloc o).cell? ⟨(w.heap.size + 1), 3, none⟩ = some (.int .i64 p.flags) ∧ (w7.alloc o).cell? ⟨(w.heap.size + 1), 4, none⟩ = some (.int .u32 (p.ci : Int)) ∧ (w7.alloc o).cell? ⟨(w.heap.size + 1), 5, none⟩ = some (.int .u32 (p.yi : Int)) ∧ (w7.alloc o).cell? ⟨(w.heap.size + 1), 6, none⟩ = some (.int .u32 (p.si : Int)) ∧ (w7.alloc o).cell? ⟨(w.heap.size + 1), 7, none⟩ = some (.int .u32 (p.gi : Int)) ∧ (w7.alloc o).cell? ⟨(w.heap.size + 1), 8, none⟩ = some (.slice p.hwA p.hw.length p.hwC) ∧ (w7.alloc o).cell? ⟨(w.heap.size + 1), 9, none⟩ = some (.slice p.opA p.L.length p.opC) := fun o => HC.out (w7.alloc o) (HB7.out.alloc HB7.out.size o); have HRG8 := Lib.hid ((HRG7.out.below hb7).more hb7.size); clear hb7))
    all_goals
      go_wp2
      go_ret
      have hal := HB7.out.alloc HB7.out.size (.cells (QV.cells ⟨x, pA, cap, ol, p, cl, ad, min w8 x.most, none, 0, 0, 0⟩) 77)
      have hb8 : Below w7.heap.size w7 (w7.alloc (.cells (QV.cells ⟨x, pA, cap, ol, p, cl, ad, min w8 x.most, none, 0, 0, 0⟩) 77)) := (Below.refl _ _).alloc (Nat.le_refl _) _
      refine ⟨w7.heap.size, ol, code, pA, cap, HRES.out, rfl, ?_, ?_, ?_, ?_⟩
      · exact Bx.new _ _ _
      · exact HRG8.out.below hb8
      · exact Nat.le_trans HB.out.size HB7.out.size
      · exact HB.out.trans (hal.mono HB.out.size)
end Go.Proofs.YtmaohnbddlccdaaGreat
end

/- engine, pure: what comes of a query is what comes of its packet; two answers of Pool are one. -/
section
namespace Go.Proofs.YtmaohnbddlccdaaGreat
open Go.RowKit Go.Sort

theorem look_self {L : List LV} (h : TabL L) {x : LV} (hx : x ∈ L) : lookE L x.addr = some x := by
  cases hl : lookE L x.addr with
  | none =>
    have := List.find?_eq_none.1 hl x hx
    simp at this
  | some y =>
    obtain ⟨hy, he⟩ := look_mem hl
    obtain ⟨i, hi⟩ := List.mem_iff_getElem?.1 hx
    obtain ⟨j, hj⟩ := List.mem_iff_getElem?.1 hy
    have e := addr_inj h.up hi hj he.symm
    subst e
    rw [hi] at hj
    injection hj with hj
    rw [hj]
theorem first_find {L : List LV} (h : TabL L) (p : LV → Bool) : ∀ (M : List LV), (∀ x ∈ M, x ∈ L) → firstE p L M = M.find? p
  | [], _ => rfl
  | x :: M, hm => by
    have e : atE p L x.addr = if p x = true then some x else none := by
      unfold atE
      rw [look_self h (hm x (by simp))]
      cases hp : p x <;> simp [Option.filter, hp]
    have ih := first_find h p M (fun y hy => hm y (List.mem_cons_of_mem x hy))
    unfold firstE at ih ⊢
    rw [List.findSome?_cons, e, List.find?_cons]
    cases hp : p x
    · simpa using ih
    · simp
theorem find_of (L : List LV) (c : List UInt8) : (ofL L c).find? (theirsB · c) = L.find? (theirsB · c) := by
  unfold ofL
  rw [List.find?_filter]
  congr 1
  funext m
  unfold theirsB
  cases h1 : (m.bind == 2)
  · simp
  · have e : m.bind = 2 := by simpa using h1
    have hh : HeldL m.bind := .inl e
    simp only [hh, decide_true, Bool.true_and]
    cases h2 : (m.client == c) <;> simp
theorem choose_pick {q : QV} {L : List LV} (h : TabL L) : chooseQ q L = pickE q.cl (mayQ q) L q.ad := by
  unfold chooseQ pickE
  have e1 : firstE (hasE q) L (ofL L q.cl) = L.find? (theirsB · q.cl) := by
    rw [first_find h _ _ (fun x hx => of_sub hx)]
    exact find_of L q.cl
  have e2 : firstE (mayQ q) L L = L.find? (mayQ q) := first_find h _ _ (fun x hx => hx)
  rw [e1, e2]
  unfold atE
  cases L.find? (theirsB · q.cl)
  · cases (lookE L q.ad).filter (mayQ q) <;> rfl
  · rfl

/-- A query asks what its packet does. -/
structure AskS (q : QV) (x : SiteV) (p : NO.PktV) (s now entry : Int) : Prop where
  hx : q.x = x
  hp : q.p = p
  hcl : q.cl = NO.clientA p.abs
  had : q.ad = NO.askA p.abs
  hwant : q.want = wantE x p.abs
  hs : q.s = s
  hnow : q.now = now
  hentry : q.entry = entry
section
variable {q : QV} {x : SiteV} {p : NO.PktV} {s now entry : Int} {L : List LV}
theorem long_q (h : AskS q x p s now entry) (m : LV) : longQ q m = longE x p.abs now m := by
  unfold longQ longE; rw [h.hx, h.hnow, h.hwant, h.hcl]
theorem may_q (h : AskS q x p s now entry) : mayQ q = mayE x s now entry := by
  funext m; unfold mayQ; rw [h.hx, h.hs, h.hnow, h.hentry]
theorem disc_q (h : AskS q x p s now entry) (hT : TabL L) : discQ q L = offerE x L s now entry p.abs := by
  unfold discQ offerE
  rw [choose_pick hT, may_q h, h.hcl, h.had, h.hs, h.hx, h.hp]
  have e : ((s == 1 && !mineE x (NO.clientA p.abs)) = true) = (s = 1 ∧ mineE x (NO.clientA p.abs) = false) := by simp
  simp only [e, long_q h]
  rfl
theorem bound_q (h : AskS q x p s now entry) (m : LV) : boundQ q m = boundE x now p.abs m := by
  unfold boundQ boundE
  rw [long_q h, h.hx, h.hp, h.hcl, h.hnow, h.hwant]
theorem request_q (h : AskS q x p s now entry) : requestQ q L = requestE x L s now entry p.abs := by
  unfold requestQ requestE atE
  have e : givesQ q = givesE x s now entry p.abs := by
    funext m
    unfold givesQ givesE
    rw [long_q h, may_q h, h.hcl]
  rw [e, h.had, h.hx, h.hp]
  have e2 : ∀ m, boundQ q m = boundE x now p.abs m := bound_q h
  simp only [e2]
  rfl
theorem decline_q (h : AskS q x p s now entry) : declineQ q L = declineE L p.abs := by
  unfold declineQ declineE atE
  have e : hasE q = (theirsB · (NO.clientA p.abs)) := by funext m; unfold hasE; rw [h.hcl]
  rw [e, h.had]
  rfl
theorem release_q (h : AskS q x p s now entry) : releaseQ q L = releaseE L now p.abs := by
  unfold releaseQ releaseE atE
  have e : hasE q = (theirsB · (NO.clientA p.abs)) := by funext m; unfold hasE; rw [h.hcl]
  rw [e, h.hp, h.hnow]
  rfl
end
end Go.Proofs.YtmaohnbddlccdaaGreat
end
