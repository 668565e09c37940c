/- The closure by which Due puts its leases in order: by Until, and then by address. -/
import Derived.Test.YtjkkdmfpekkfhaaTabF
import Derived.Deep.RegionLaw
namespace Go.Proofs.Ytjkkdmfpekkfhaa
open Go.RowKit Go.Sort Go.Maps Go.Shelf Go.Lib

theorem five_grown (W : World) (a b c d e : Obj) : ∃ os, ((((W.alloc a).alloc b).drew.alloc c).alloc d).alloc e = grow (W.drewN 1) os := by
  refine ⟨#[a, b, c, d, e], ?_⟩
  have e1 : (grow (grow W #[a]) #[b]).drew = grow (W.drewN 1) #[a, b] := by rw [grow_grow]; rfl
  rw [alloc_eq_grow, alloc_eq_grow, alloc_eq_grow, alloc_eq_grow, alloc_eq_grow, e1, grow_grow, grow_grow, grow_grow]
  rfl

set_option maxRecDepth 100000 in
set_option maxHeartbeats 2000000 in
theorem due2_any (x y : LV) (W : World) : Calls Try.prog 37 #[x.v, y.v] W fun e w' => e = .returned (.int .i64 (cmpD x y)) ∧ ∃ q os', w' = grow (W.drewN q) os' := by
  have HC := Lib.hid (fun V => compare_int x.unt y.unt V)
  have HA := Lib.hid (fun V => byaddr_any x y V)
  have HO := Lib.hid (fun V : World => or_any V.heap.size (cmpI x.unt y.unt) (cmpA x y) (V.alloc (.cells #[.int .i64 (cmpI x.unt y.unt), .int .i64 (cmpA x y)] 3)) (heap_alloc_new _ _))
  have hd : cmpD x y = if cmpI x.unt y.unt = 0 then cmpA x y else cmpI x.unt y.unt := rfl
  rw [hd]
  clear hd
  generalize cmpI x.unt y.unt = r1 at HC HO ⊢
  generalize cmpA x y = r2 at HA HO ⊢
  generalize hr3 : (if r1 = 0 then r2 else r1) = r3 at HO ⊢
  clear hr3
  obtain ⟨w2, hw2⟩ : ∃ w2, w2 = (W.alloc (lbox x)).alloc (lbox y) := ⟨_, rfl⟩
  have hX : LBox w2 W.heap.size x := by rw [hw2]; exact (LBox.new W x).alloc _
  have hY : LBox w2 (W.heap.size + 1) y := by rw [hw2]; have := LBox.new (W.alloc (lbox x)) y; simpa using this
  have HW2 := Lib.hid hw2
  obtain ⟨c0, c1, c2, c3, c4, c5, c6, c7⟩ := hX.drew.all
  obtain ⟨d0, d1, d2, d3, d4, d5, d6, d7⟩ := hY.drew.all
  clear hX hY hw2
  go_enter Try.func37, Try.ntmps37
  go_upto_region 1 with fail
  rw [← HW2.out]
  go_region_law (first
    | (go_simp; go_at_call 39; refine (HC.out _).mono ?_; rintro e w' ⟨rfl, rfl⟩)
    | (go_simp; go_at_call 35; refine (HA.out _).mono ?_; rintro e w5 ⟨rfl, hw5⟩; have HW5 := Lib.hid hw5; clear hw5)
    | (go_simp; go_at_call 38; refine (HO.out w5).mono ?_; rintro e w' ⟨rfl, rfl⟩))
  all_goals
    go_wp2
    go_ret
    refine ⟨rfl, 1, ?_⟩
    rw [HW5.out, HW2.out]
    exact five_grown W (lbox x) (lbox y) (lbox x) (lbox y) _
end Go.Proofs.Ytjkkdmfpekkfhaa
