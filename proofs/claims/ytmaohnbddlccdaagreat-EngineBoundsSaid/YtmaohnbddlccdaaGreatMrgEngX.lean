/- engine: Right, ask. (Written by wip/tools/genengx.py.) -/
import Derived.Test.YtmaohnbddlccdaaGreatMrgEngW
import Derived.Test.YtmaohnbddlccdaaGreatMrgAddrN
namespace Go.Proofs.YtmaohnbddlccdaaGreat
open Go.RowKit Go.Sort

section
variable {w w' : World} {b : Nat} {x : SiteV}
/-- A site's box. -/
abbrev SBox (w : World) (b : Nat) (x : SiteV) : Prop := Bx w b 27 x.cells
theorem SBox.all (h : SBox w b x) : w.cell? ⟨b, 0, none⟩ = some (.int .i64 x.id) ∧ w.cell? ⟨b, 1, none⟩ = some (.int .i64 x.lead) ∧ w.cell? ⟨b, 2, none⟩ = some (.int .i64 x.guard) ∧ w.cell? ⟨b, 3, none⟩ = some (.int .u32 (x.server : Int)) ∧ w.cell? ⟨b, 4, none⟩ = some (.int .i64 x.want) ∧ w.cell? ⟨b, 5, none⟩ = some (.int .i64 x.most) ∧ w.cell? ⟨b, 6, none⟩ = some (.int .i64 x.first) ∧ w.cell? ⟨b, 7, none⟩ = some (.float .f64 x.part) ∧ w.cell? ⟨b, 8, none⟩ = some (.float .f64 x.slack) ∧ w.cell? ⟨b, 9, none⟩ = some (.float .f64 x.renew) ∧ w.cell? ⟨b, 10, none⟩ = some (.float .f64 x.rebind) ∧ w.cell? ⟨b, 11, none⟩ = some (.slice x.plA x.pl.length x.plC) ∧ w.cell? ⟨b, 12, none⟩ = some (.int .i64 x.room) :=
  ⟨h.at_ 0, h.at_ 1, h.at_ 2, h.at_ 3, h.at_ 4, h.at_ 5, h.at_ 6, h.at_ 7, h.at_ 8, h.at_ 9, h.at_ 10, h.at_ 11, h.at_ 12⟩
end

set_option maxRecDepth 100000 in
set_option maxHeartbeats 4000000 in
theorem sright_any (x : SiteV) (w : World) (hx : Rg w w.heap.size x.plA x.pl) (hl : x.pl.length ≤ 1000) :
    Calls Tryz.prog 14 #[x.v] w fun e w' => ∃ ol code, PoolRes x.pl ol code ∧ e = .returned (.bool (siteB x code)) ∧ Below w.heap.size w w' := by
  obtain ⟨w0, hw0⟩ : ∃ w0, w0 = w.alloc (.cells x.cells 27) := ⟨_, rfl⟩
  have hB : Below w.heap.size w w0 := by rw [hw0]; exact (Below.refl _ _).alloc (Nat.le_refl _) _
  have hX : SBox w0 w.heap.size x := by rw [hw0]; exact Bx.new _ _ _
  have HP := Lib.hid (pool_any x.plA x.plC x.pl w0 ((hx.below hB).more hB.size) (by omega))
  have HX := Lib.hid hX
  have HB := Lib.hid hB
  have HW0 := Lib.hid hw0
  have H1 := Lib.hid (fun V => within_any x.id 0 1 V)
  have H2 := Lib.hid (fun V => within_any x.lead 0 1073741824 V)
  have H3 := Lib.hid (fun V => within_any x.guard 0 1073741824 V)
  have H4 := Lib.hid (fun V => within_any x.most 1 1073741824 V)
  have H5 := Lib.hid (fun V => within_any x.want 1 x.most V)
  have H6 := Lib.hid (fun V => within_any x.first 0 256 V)
  have H7 := Lib.hid (fun V => within_any x.room 1 1048576 V)
  have HS : Hid (∀ code, siteB x code = (code == 0 && witB x.id 0 1 && witB x.lead 0 1073741824 && witB x.guard 0 1073741824 && witB x.most 1 1073741824 && witB x.want 1 x.most && witB x.first 0 256 && witB x.room 1 1048576)) := Lib.hid (fun code => rfl)
  generalize witB x.id 0 1 = b1 at *
  generalize witB x.lead 0 1073741824 = b2 at *
  generalize witB x.guard 0 1073741824 = b3 at *
  generalize witB x.most 1 1073741824 = b4 at *
  generalize witB x.want 1 x.most = b5 at *
  generalize witB x.first 0 256 = b6 at *
  generalize witB x.room 1 1048576 = b7 at *
  obtain ⟨x0, x1, x2, x3, x4, x5, x6, x7, x8, x9, x10, x11, x12⟩ := SBox.all hX
  clear hw0 hB hX hx
  go_enter Tryz.func14, Tryz.ntmps14
  go_upto_region 1 with fail
  rw [← HW0.out]
  go_wp2_with fail
  refine HP.out.mono ?_
  rintro e w1 ⟨ol, code, pA, cap, rfl, hres, -, hb1⟩
  have HRES := Lib.hid hres
  have HX1 := Lib.hid (HX.out.later hb1)
  have HB1 := Lib.hid (HB.out.trans (hb1.mono HB.out.size))
  clear hb1 hres x0 x1 x2 x3 x4 x5 x6 x7 x8 x9 x10 x11 x12
  obtain ⟨x0, x1, x2, x3, x4, x5, x6, x7, x8, x9, x10, x11, x12⟩ := SBox.all HX1.out
  by_cases h0 : code = 0
  rotate_left
  · have t0 : (code == 0) = false := by simpa using h0
    have HT0 := Lib.hid t0
    clear h0
    go_wp2
    go_ret
    exact ⟨ol, code, HRES.out, by rw [HS.out, HT0.out]; rfl, HB1.out⟩
  have t0 : (code == 0) = true := by simp [h0]
  have HT0 := Lib.hid t0
  clear h0
  go_wp2_with fail
  refine (H1.out _).mono ?_
  rintro e w' ⟨rfl, rfl⟩
  cases b1
  · go_wp2
    go_ret
    exact ⟨ol, code, HRES.out, by rw [HS.out, HT0.out]; rfl, HB1.out⟩
  go_wp2_with fail
  refine (H2.out _).mono ?_
  rintro e w' ⟨rfl, rfl⟩
  cases b2
  · go_wp2
    go_ret
    exact ⟨ol, code, HRES.out, by rw [HS.out, HT0.out]; rfl, HB1.out⟩
  go_wp2_with fail
  refine (H3.out _).mono ?_
  rintro e w' ⟨rfl, rfl⟩
  cases b3
  · go_wp2
    go_ret
    exact ⟨ol, code, HRES.out, by rw [HS.out, HT0.out]; rfl, HB1.out⟩
  go_wp2_with fail
  refine (H4.out _).mono ?_
  rintro e w' ⟨rfl, rfl⟩
  cases b4
  · go_wp2
    go_ret
    exact ⟨ol, code, HRES.out, by rw [HS.out, HT0.out]; rfl, HB1.out⟩
  go_wp2_with fail
  refine (H5.out _).mono ?_
  rintro e w' ⟨rfl, rfl⟩
  cases b5
  · go_wp2
    go_ret
    exact ⟨ol, code, HRES.out, by rw [HS.out, HT0.out]; rfl, HB1.out⟩
  go_wp2_with fail
  refine (H6.out _).mono ?_
  rintro e w' ⟨rfl, rfl⟩
  cases b6
  · go_wp2
    go_ret
    exact ⟨ol, code, HRES.out, by rw [HS.out, HT0.out]; rfl, HB1.out⟩
  go_wp2_with fail
  refine (H7.out _).mono ?_
  rintro e w' ⟨rfl, rfl⟩
  cases b7
  · go_wp2
    go_ret
    exact ⟨ol, code, HRES.out, by rw [HS.out, HT0.out]; rfl, HB1.out⟩
  go_wp2
  go_ret
  exact ⟨ol, code, HRES.out, by rw [HS.out, HT0.out]; rfl, HB1.out⟩
end Go.Proofs.YtmaohnbddlccdaaGreat
