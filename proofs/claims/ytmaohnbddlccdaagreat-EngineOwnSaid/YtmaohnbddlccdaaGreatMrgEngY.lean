/- engine: ask. (Written by wip/tools/genengy.py.) -/
import Derived.Test.YtmaohnbddlccdaaGreatMrgEngX
namespace Go.Proofs.YtmaohnbddlccdaaGreat
open Go.RowKit Go.Sort

/-- A query is given: of a site, its pool and a packet. -/
def GivesQ (w : World) (x : SiteV) (p : NO.PktV) (e : Ending) (w' : World) : Prop :=
  ∃ g ol code A c, PoolRes x.pl ol code ∧ e = .returned (ptE g) ∧ Bx w' g 77 (QV.cells ⟨x, A, c, ol, p, NO.clientA p.abs, NO.askA p.abs, wantE x p.abs, none, 0, 0, 0⟩) ∧ Rg w' g A ol ∧ w.heap.size ≤ g ∧ Below w.heap.size w w'

set_option maxRecDepth 100000 in
set_option maxHeartbeats 4000000 in
theorem ask_any (x : SiteV) (p : NO.PktV) (w : World) (hx : Rg w w.heap.size x.plA x.pl) (hl : x.pl.length ≤ 1000) (hp : NO.Pk w w.heap.size p) (hL : p.L.length ≤ 1000) (hd : ∀ y ∈ p.L, y.data.length ≤ 1000) :
    Calls Tryz.prog 32 #[x.v, p.v] w (GivesQ w x p) := by
  obtain ⟨w0, hw0⟩ : ∃ w0, w0 = (w.alloc (.cells x.cells 27)).alloc (NO.pbox p) := ⟨_, rfl⟩
  have hs : (w.alloc (.cells x.cells 27)).heap.size = w.heap.size + 1 := by simp
  have hB : Below w.heap.size w w0 := by rw [hw0]; exact ((Below.refl _ _).alloc (Nat.le_refl _) _).alloc (by simp) _
  have hX : SBox w0 w.heap.size x := by rw [hw0]; exact (Bx.new _ _ _).alloc _
  have hP : Bx w0 (w.heap.size + 1) 32 p.cells := by rw [hw0, ← hs]; exact Bx.new _ _ _
  have HPO := Lib.hid (pool_any x.plA x.plC x.pl w0 ((hx.below hB).more hB.size) (by omega))
  have HPK := Lib.hid (hp.later hB)
  have HAS := Lib.hid (fun V (h : NO.Pk V V.heap.size p) => NO.asked_any p V h hL hd)
  have HCL := Lib.hid (fun V (h : NO.Pk V V.heap.size p) => NO.client_any p V h hL hd)
  have HC := Lib.hid (fun V (hb : Below w0.heap.size w0 V) => (show (V).cell? ⟨w.heap.size, 0, none⟩ = some (.int .i64 x.id) ∧ (V).cell? ⟨w.heap.size, 1, none⟩ = some (.int .i64 x.lead) ∧ (V).cell? ⟨w.heap.size, 2, none⟩ = some (.int .i64 x.guard) ∧ (V).cell? ⟨w.heap.size, 3, none⟩ = some (.int .u32 (x.server : Int)) ∧ (V).cell? ⟨w.heap.size, 4, none⟩ = some (.int .i64 x.want) ∧ (V).cell? ⟨w.heap.size, 5, none⟩ = some (.int .i64 x.most) ∧ (V).cell? ⟨w.heap.size, 6, none⟩ = some (.int .i64 x.first) ∧ (V).cell? ⟨w.heap.size, 7, none⟩ = some (.float .f64 x.part) ∧ (V).cell? ⟨w.heap.size, 8, none⟩ = some (.float .f64 x.slack) ∧ (V).cell? ⟨w.heap.size, 9, none⟩ = some (.float .f64 x.renew) ∧ (V).cell? ⟨w.heap.size, 10, none⟩ = some (.float .f64 x.rebind) ∧ (V).cell? ⟨w.heap.size, 11, none⟩ = some (.slice x.plA x.pl.length x.plC) ∧ (V).cell? ⟨w.heap.size, 12, none⟩ = some (.int .i64 x.room) ∧ (V).cell? ⟨(w.heap.size + 1), 0, none⟩ = some (.int .i64 p.op) ∧ (V).cell? ⟨(w.heap.size + 1), 1, none⟩ = some (.int .u32 (p.xid : Int)) ∧ (V).cell? ⟨(w.heap.size + 1), 2, none⟩ = some (.int .i64 p.secs) ∧ (V).cell? ⟨(w.heap.size + 1), 3, none⟩ = some (.int .i64 p.flags) ∧ (V).cell? ⟨(w.heap.size + 1), 4, none⟩ = some (.int .u32 (p.ci : Int)) ∧ (V).cell? ⟨(w.heap.size + 1), 5, none⟩ = some (.int .u32 (p.yi : Int)) ∧ (V).cell? ⟨(w.heap.size + 1), 6, none⟩ = some (.int .u32 (p.si : Int)) ∧ (V).cell? ⟨(w.heap.size + 1), 7, none⟩ = some (.int .u32 (p.gi : Int)) ∧ (V).cell? ⟨(w.heap.size + 1), 8, none⟩ = some (.slice p.hwA p.hw.length p.hwC) ∧ (V).cell? ⟨(w.heap.size + 1), 9, none⟩ = some (.slice p.opA p.L.length p.opC) from ⟨(hX.later hb).at_ 0, (hX.later hb).at_ 1, (hX.later hb).at_ 2, (hX.later hb).at_ 3, (hX.later hb).at_ 4, (hX.later hb).at_ 5, (hX.later hb).at_ 6, (hX.later hb).at_ 7, (hX.later hb).at_ 8, (hX.later hb).at_ 9, (hX.later hb).at_ 10, (hX.later hb).at_ 11, (hX.later hb).at_ 12, (hP.later hb).at_ 0, (hP.later hb).at_ 1, (hP.later hb).at_ 2, (hP.later hb).at_ 3, (hP.later hb).at_ 4, (hP.later hb).at_ 5, (hP.later hb).at_ 6, (hP.later hb).at_ 7, (hP.later hb).at_ 8, (hP.later hb).at_ 9⟩))
  have HB := Lib.hid hB
  have HW0 := Lib.hid hw0
  unfold GivesQ wantE
  generalize NO.clientA p.abs = cl at *
  generalize NO.askA p.abs = ad at *
  obtain ⟨w8, hw8⟩ : ∃ w8 : Int, w8 = if NO.longA p.abs = 0 then x.want else (NO.longA p.abs : Int) := ⟨_, rfl⟩
  rw [← hw8]
  have HW8 := Lib.hid hw8
  generalize NO.longA p.abs = lg at *
  clear hw0 hB hX hP hx hp hd hs hw8
  obtain ⟨x0, x1, x2, x3, x4, x5, x6, x7, x8, x9, x10, x11, x12, x13, x14, x15, x16, x17, x18, x19, x20, x21, x22⟩ := HC.out w0 (Below.refl _ _)
  go_enter Tryz.func32, Tryz.ntmps32
  go_upto_region 1 with fail
  rw [← HW0.out]
  go_wp2_with fail
  refine HPO.out.mono ?_
  rintro e w1 ⟨ol, code, pA, cap, rfl, hres, hrg, hb1⟩
  have HRES := Lib.hid hres
  have HRG1 := Lib.hid hrg
  have HB1 := Lib.hid hb1
  clear hb1 hres hrg HPO x0 x1 x2 x3 x4 x5 x6 x7 x8 x9 x10 x11 x12 x13 x14 x15 x16 x17 x18 x19 x20 x21 x22
  obtain ⟨x0, x1, x2, x3, x4, x5, x6, x7, x8, x9, x10, x11, x12, x13, x14, x15, x16, x17, x18, x19, x20, x21, x22⟩ := HC.out w1 HB1.out
  go_wp2_with fail
  refine (HAS.out w1 (HPK.out.later HB1.out)).mono ?_
  rintro e w2 ⟨rfl, hb2⟩
  have HRG2 := Lib.hid ((HRG1.out.below hb2).more hb2.size)
  have HB2 := Lib.hid (HB1.out.trans (hb2.mono HB1.out.size))
  clear hb2 HRG1 x0 x1 x2 x3 x4 x5 x6 x7 x8 x9 x10 x11 x12 x13 x14 x15 x16 x17 x18 x19 x20 x21 x22
  obtain ⟨x0, x1, x2, x3, x4, x5, x6, x7, x8, x9, x10, x11, x12, x13, x14, x15, x16, x17, x18, x19, x20, x21, x22⟩ := HC.out w2 HB2.out
  go_upto_if 21 with fail
  go_cut [8] (fun s8 wx => s8 = .int .i64 w8 ∧ wx = w2)
  case first =>
    by_cases h0 : lg = 0
    · have t0 : ((lg : Int) == 0) = true := by simp [h0]
      have e8 := HW8.out
      rw [if_pos h0] at e8
      subst e8
      clear h0
      go_wp2
      go_meet
      exact ⟨rfl, rfl⟩
    · have t0 : ((lg : Int) == 0) = false := by simpa using h0
      have e8 := HW8.out
      rw [if_neg h0] at e8
      subst e8
      clear h0
      go_wp2
      go_meet
      exact ⟨rfl, rfl⟩
  case rest =>
    obtain ⟨rfl, hwc⟩ := hcut
    rw [hwc]
    clear hwc HAS HW8
    have k0 : Below w0.heap.size w0 w2.drew := HB2.out.drew
    have HB2D := Lib.hid k0
    obtain ⟨k0, k1, k2, k3, k4, k5, k6, k7, k8, k9, k10, k11, k12, k13, k14, k15, k16, k17, k18, k19, k20, k21, k22⟩ := HC.out w2.drew HB2D.out
    clear x0 x1 x2 x3 x4 x5 x6 x7 x8 x9 x10 x11 x12 x13 x14 x15 x16 x17 x18 x19 x20 x21 x22
    go_upto_region 5 with fail
    go_region_held3 (fun w' => (w').cell? ⟨w.heap.size, 0, none⟩ = some (.int .i64 x.id) ∧ (w').cell? ⟨w.heap.size, 1, none⟩ = some (.int .i64 x.lead) ∧ (w').cell? ⟨w.heap.size, 2, none⟩ = some (.int .i64 x.guard) ∧ (w').cell? ⟨w.heap.size, 3, none⟩ = some (.int .u32 (x.server : Int)) ∧ (w').cell? ⟨w.heap.size, 4, none⟩ = some (.int .i64 x.want) ∧ (w').cell? ⟨w.heap.size, 5, none⟩ = some (.int .i64 x.most) ∧ (w').cell? ⟨w.heap.size, 6, none⟩ = some (.int .i64 x.first) ∧ (w').cell? ⟨w.heap.size, 7, none⟩ = some (.float .f64 x.part) ∧ (w').cell? ⟨w.heap.size, 8, none⟩ = some (.float .f64 x.slack) ∧ (w').cell? ⟨w.heap.size, 9, none⟩ = some (.float .f64 x.renew) ∧ (w').cell? ⟨w.heap.size, 10, none⟩ = some (.float .f64 x.rebind) ∧ (w').cell? ⟨w.heap.size, 11, none⟩ = some (.slice x.plA x.pl.length x.plC) ∧ (w').cell? ⟨w.heap.size, 12, none⟩ = some (.int .i64 x.room) ∧ (w').cell? ⟨(w.heap.size + 1), 0, none⟩ = some (.int .i64 p.op) ∧ (w').cell? ⟨(w.heap.size + 1), 1, none⟩ = some (.int .u32 (p.xid : Int)) ∧ (w').cell? ⟨(w.heap.size + 1), 2, none⟩ = some (.int .i64 p.secs) ∧ (w').cell? ⟨(w.heap.size + 1), 3, none⟩ = some (.int .i64 p.flags) ∧ (w').cell? ⟨(w.heap.size + 1), 4, none⟩ = some (.int .u32 (p.ci : Int)) ∧ (w').cell? ⟨(w.heap.size + 1), 5, none⟩ = some (.int .u32 (p.yi : Int)) ∧ (w').cell? ⟨(w.heap.size + 1), 6, none⟩ = some (.int .u32 (p.si : Int)) ∧ (w').cell? ⟨(w.heap.size + 1), 7, none⟩ = some (.int .u32 (p.gi : Int)) ∧ (w').cell? ⟨(w.heap.size + 1), 8, none⟩ = some (.slice p.hwA p.hw.length p.hwC) ∧ (w').cell? ⟨(w.heap.size + 1), 9, none⟩ = some (.slice p.opA p.L.length p.opC)) (first | (with_reducible exact ra _) | go_keep) (first
      | (go_at_call 20; (with_reducible refine (HCL.out _ ?_).mono ?_); (with_reducible exact (HPK.out.later HB2D.out)); rintro e w7 ⟨rfl, hb7⟩; have HB7 := Lib.hid (HB2D.out.trans (hb7.mono HB2D.out.size)); have HRG7 := Lib.hid ((HRG2.out.below ((Below.refl w2.heap.size w2).drew)).more (Nat.le_refl w2.drew.heap.size)); obtain ⟨j0, j1, j2, j3, j4, j5, j6, j7, j8, j9, j10, j11, j12, j13, j14, j15, j16, j17, j18, j19, j20, j21, j22⟩ := HC.out w7 HB7.out; have ra : ∀ o, (w7.alloc o).cell? ⟨w.heap.size, 0, none⟩ = some (.int .i64 x.id) ∧ (w7.alloc o).cell? ⟨w.heap.size, 1, none⟩ = some (.int .i64 x.lead) ∧ (w7.alloc o).cell? ⟨w.heap.size, 2, none⟩ = some (.int .i64 x.guard) ∧ (w7.alloc o).cell? ⟨w.heap.size, 3, none⟩ = some (.int .u32 (x.server : Int)) ∧ (w7.alloc o).cell? ⟨w.heap.size, 4, none⟩ = some (.int .i64 x.want) ∧ (w7.alloc o).cell? ⟨w.heap.size, 5, none⟩ = some (.int .i64 x.most) ∧ (w7.alloc o).cell? ⟨w.heap.size, 6, none⟩ = some (.int .i64 x.first) ∧ (w7.alloc o).cell? ⟨w.heap.size, 7, none⟩ = some (.float .f64 x.part) ∧ (w7.alloc o).cell? ⟨w.heap.size, 8, none⟩ = some (.float .f64 x.slack) ∧ (w7.alloc o).cell? ⟨w.heap.size, 9, none⟩ = some (.float .f64 x.renew) ∧ (w7.alloc o).cell? ⟨w.heap.size, 10, none⟩ = some (.float .f64 x.rebind) ∧ (w7.alloc o).cell? ⟨w.heap.size, 11, none⟩ = some (.slice x.plA x.pl.length x.plC) ∧ (w7.alloc o).cell? ⟨w.heap.size, 12, none⟩ = some (.int .i64 x.room) ∧ (w7.alloc o).cell? ⟨(w.heap.size + 1), 0, none⟩ = some (.int .i64 p.op) ∧ (w7.alloc o).cell? ⟨(w.heap.size + 1), 1, none⟩ = some (.int .u32 (p.xid : Int)) ∧ (w7.alloc o).cell? ⟨(w.heap.size + 1), 2, none⟩ = some (.int .i64 p.secs) ∧ (w7.alloc o).cell? ⟨(w.heap.size + 1), 3, none⟩ = some (.int .i64 p.flags) ∧ (w7.alloc o).cell? ⟨(w.heap.size + 1), 4, none⟩ = some (.int .u32 (p.ci : Int)) ∧ (w7.alloc o).cell? ⟨(w.heap.size + 1), 5, none⟩ = some (.int .u32 (p.yi : Int)) ∧ (w7.alloc o).cell? ⟨(w.heap.size + 1), 6, none⟩ = some (.int .u32 (p.si : Int)) ∧ (w7.alloc o).cell? ⟨(w.heap.size + 1), 7, none⟩ = some (.int .u32 (p.gi : Int)) ∧ (w7.alloc o).cell? ⟨(w.heap.size + 1), 8, none⟩ = some (.slice p.hwA p.hw.length p.hwC) ∧ (w7.alloc o).cell? ⟨(w.heap.size + 1), 9, none⟩ = some (.slice p.opA p.L.length p.opC) := fun o => HC.out (w7.alloc o) (HB7.out.alloc HB7.out.size o); have HRG8 := Lib.hid ((HRG7.out.below hb7).more hb7.size); clear hb7))
    all_goals
      go_wp2
      go_ret
      have hal := HB7.out.alloc HB7.out.size (.cells (QV.cells ⟨x, pA, cap, ol, p, cl, ad, min w8 x.most, none, 0, 0, 0⟩) 77)
      have hb8 : Below w7.heap.size w7 (w7.alloc (.cells (QV.cells ⟨x, pA, cap, ol, p, cl, ad, min w8 x.most, none, 0, 0, 0⟩) 77)) := (Below.refl _ _).alloc (Nat.le_refl _) _
      refine ⟨w7.heap.size, ol, code, pA, cap, HRES.out, rfl, ?_, ?_, ?_, ?_⟩
      · exact Bx.new _ _ _
      · exact HRG8.out.below hb8
      · exact Nat.le_trans HB.out.size HB7.out.size
      · exact HB.out.trans (hal.mono HB.out.size)
end Go.Proofs.YtmaohnbddlccdaaGreat
