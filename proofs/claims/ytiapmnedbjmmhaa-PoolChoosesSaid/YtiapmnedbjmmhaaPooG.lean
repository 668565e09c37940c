/- pool: the program's Gives. -/
import Derived.Test.YtiapmnedbjmmhaaPooM
import Derived.Deep.RegionWith
namespace Go.Proofs.Ytiapmnedbjmmhaa
open Ieee Go.RowKit Go.Sort Flo

theorem within_any (n : Int) (W : World) : Calls Try.prog 17 #[.int .i64 n] W fun e w' => e = .returned (.int .i64 (bnd n)) ∧ W = w' := by
  go_enter Try.func17, Try.ntmps17
  go_wp2
  all_goals
    go_ret
    refine ⟨?_, rfl⟩
    show Ending.returned (.int .i64 _) = _
    congr 2
    unfold bnd
    omega

set_option maxRecDepth 100000 in
set_option maxHeartbeats 1000000 in
theorem punev_any (p s : Nat) (f b : Int) (w : World) : Calls Try.prog 14 #[f2v p s, .int .i64 f, .int .i64 b] w fun e w' => e = .returned (.bool (gtF (unW f b p) s)) ∧ Below w.heap.size w w' := by
  have HY := Lib.hid (quiet_same (uneven_any f b p))
  have hgt : (FloatKind.f64.format.order (unW f b p) s == some .gt) = gtF (unW f b p) s := t_gt _ _
  generalize gtF (unW f b p) s = big at *
  generalize unW f b p = Y at *
  obtain ⟨w0, hw0⟩ : ∃ w0, w0 = w.alloc (f2box 27 p s) := ⟨_, rfl⟩
  have HL : Hid (F2 27 w0 w.heap.size p s) := Lib.hid (by rw [hw0]; exact F2.new w _ p s)
  have HB : Hid (Below w.heap.size w w0) := Lib.hid (by rw [hw0]; exact (Below.refl _ _).alloc (Nat.le_refl _) _)
  have HW0 := Lib.hid hw0
  clear hw0
  have c0 := HL.out.c0
  have c1 := HL.out.c1
  go_enter Try.func14, Try.ntmps14
  go_upto_region 1 with fail
  rw [← HW0.out]
  go_quiet (exact HY.out _ _)
  go_wp2
  go_ret
  exact ⟨rfl, drewN_low HB.out _⟩

set_option maxRecDepth 100000 in
set_option maxHeartbeats 1000000 in
theorem pspare_any (p s : Nat) (f b : Int) (hf : 0 ≤ f ∧ f ≤ 1073741824) (hb : 0 ≤ b ∧ b ≤ 1073741824) (w : World) : Calls Try.prog 16 #[f2v p s, .int .i64 f, .int .i64 b] w fun e w' => e = .returned (.int .i64 (max (b - partV (f + b) p) 0)) ∧ Below w.heap.size w w' := by
  have HP := Lib.hid (fun V => part_any (f + b) p V)
  have hr := part_range (f + b) p
  generalize partV (f + b) p = pt at *
  obtain ⟨w0, hw0⟩ : ∃ w0, w0 = w.alloc (f2box 27 p s) := ⟨_, rfl⟩
  have HL : Hid (F2 27 w0 w.heap.size p s) := Lib.hid (by rw [hw0]; exact F2.new w _ p s)
  have HB : Hid (Below w.heap.size w w0) := Lib.hid (by rw [hw0]; exact (Below.refl _ _).alloc (Nat.le_refl _) _)
  have HW0 := Lib.hid hw0
  clear hw0
  have c0 := HL.out.c0
  have c1 := HL.out.c1
  go_enter Try.func16, Try.ntmps16
  go_wp2_with fail
  rw [← HW0.out]
  refine (HP.out _).mono ?_
  rintro e w' ⟨rfl, rfl⟩
  go_wp2
  all_goals
    go_ret
    refine ⟨?_, HB.out⟩
    show Ending.returned (.int .i64 _) = _
    congr 2
    omega

set_option maxRecDepth 100000 in
set_option maxHeartbeats 2000000 in
theorem gives_any (p s : Nat) (id f b : Int) (w : World) : Calls Try.prog 9 #[f2v p s, .int .i64 id, .int .i64 f, .int .i64 b] w fun e w' => e = .returned (.int .i64 (givV p s id f b)) ∧ Below w.heap.size w w' := by
  have HU := Lib.hid (fun V => punev_any p s f b V)
  have HG : Hid (givV p s id f b = if gtF (unW f b p) s = true then (if id = 0 then shareV f b p else if id = 1 then min (max (bnd b - partV (bnd f + bnd b) p) 0) (bnd b) else 0) else 0) := Lib.hid rfl
  have HF := Lib.hid (fun n V => within_any n V)
  have HS := Lib.hid (fun V => share_any f b p V)
  have HP := Lib.hid (fun V => pspare_any p s (bnd f) (bnd b) (bnd_range f) (bnd_range b) V)
  have hr := part_range (bnd f + bnd b) p
  obtain ⟨f0, f1⟩ := bnd_range f
  obtain ⟨b0, b1⟩ := bnd_range b
  obtain ⟨k, hk⟩ : ∃ k, k = max (bnd b - partV (bnd f + bnd b) p) 0 := ⟨_, rfl⟩
  have hkb : min k (bnd b) = k := by omega
  rw [← hk] at HG HP
  rw [hkb] at HG
  clear hk hkb hr
  generalize givV p s id f b = r at *
  generalize gtF (unW f b p) s = big at *
  generalize shareV f b p = sh at *
  obtain ⟨w0, hw0⟩ : ∃ w0, w0 = w.alloc (f2box 27 p s) := ⟨_, rfl⟩
  have HL : Hid (F2 27 w0 w.heap.size p s) := Lib.hid (by rw [hw0]; exact F2.new w _ p s)
  have HB : Hid (Below w.heap.size w w0) := Lib.hid (by rw [hw0]; exact (Below.refl _ _).alloc (Nat.le_refl _) _)
  have HW0 := Lib.hid hw0
  clear hw0
  have c0 := HL.out.c0
  have c1 := HL.out.c1
  go_enter Try.func9, Try.ntmps9
  go_upto_region 1 with fail
  rw [← HW0.out]
  go_wp2_with fail
  refine (HU.out _).mono ?_
  rintro e w1 ⟨rfl, hb1⟩
  have HL1 := Lib.hid (HL.out.later hb1)
  have HB1 := Lib.hid (HB.out.trans (hb1.mono HB.out.size))
  clear hb1 c0 c1 HL
  have c0 := HL1.out.c0
  have c1 := HL1.out.c1
  cases big
  · go_wp2
    go_ret
    rw [HG.out]
    exact ⟨rfl, HB1.out⟩
  by_cases h0 : id = 0
  · have t0 : (id == 0) = true := by rw [h0]; rfl
    have HR : Hid (r = sh) := Lib.hid (by rw [HG.out]; simp [h0])
    clear h0
    go_wp2_with fail
    refine (HS.out _).mono ?_
    rintro e w' ⟨rfl, rfl⟩
    go_wp2
    go_ret
    rw [HR.out]
    exact ⟨rfl, HB1.out⟩
  have t0 : (id == 0) = false := by simpa using h0
  by_cases h1 : id = 1
  · have t1 : (id == 1) = true := by rw [h1]; rfl
    have HR : Hid (r = k) := Lib.hid (by rw [HG.out]; simp [h1])
    clear h0 h1
    go_upto_region 7 with fail
    go_region_with (first
      | (go_at_call 17; refine (HF.out _ _).mono ?_; rintro e w' ⟨rfl, rfl⟩)
      | (go_at_call 16; refine (HP.out _).mono ?_; rintro e w2 ⟨rfl, hb2⟩))
    all_goals
      go_wp2
      go_ret
      rw [HR.out]
      exact ⟨rfl, HB1.out.drew.trans (hb2.mono HB1.out.size)⟩
  have t1 : (id == 1) = false := by simpa using h1
  have HR : Hid (r = 0) := Lib.hid (by rw [HG.out]; simp [h0, h1])
  clear h0 h1
  go_wp2
  go_ret
  rw [HR.out]
  exact ⟨rfl, HB1.out⟩
end Go.Proofs.Ytiapmnedbjmmhaa
