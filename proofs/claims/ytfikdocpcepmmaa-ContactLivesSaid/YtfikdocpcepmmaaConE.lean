/- The document's contact: New, Mark, Hello. -/
import Derived.Test.YtfikdocpcepmmaaConD
namespace Go.Proofs.Ytfikdocpcepmmaa
open Go.RowKit Go.Sort

theorem rnew_ok (n : Int) (h1 : 1 ≤ n) (h2 : n ≤ 536870912) (w : World) : Calls Try.prog 9 #[.int .i64 n] w fun e w' => ∃ g, e = .returned (.tuple #[ptrV g, .int .i64 0]) ∧ RAt w' g (newC n) ∧ Below w.heap.size w w' ∧ w.heap.size ≤ g := by
  go_enter Try.func9, Try.ntmps9
  go_wp2
  go_ret2
  exact ⟨_, rfl, CAt.new w _ _, (Below.refl _ _).alloc (Nat.le_refl _) _, Nat.le_refl _⟩
theorem rnew_no (n : Int) (h : ¬ (1 ≤ n ∧ n ≤ 536870912)) (w : World) : Calls Try.prog 9 #[.int .i64 n] w fun e w' => e = .returned (.tuple #[.pointer none, .int .i64 1]) ∧ Below w.heap.size w w' := by
  go_enter Try.func9, Try.ntmps9
  by_cases h1 : n < 1
  · go_wp2
    go_ret2
    exact ⟨rfl, Below.refl _ _⟩
  · have h2 : 536870912 < n := by omega
    go_wp2
    go_ret2
    exact ⟨rfl, Below.refl _ _⟩
/-- How Mark ends. -/
theorem rmark_end {W : World} {g : Nat} {m0 q : MsgV} {t : Array Value} {P : World → Prop} (hz : MBox W g m0) (hP : P (storeM W g q)) (h4 : t[4]?.getD undef = .pointer (some ⟨g, 0, none⟩)) :
    bodyPost Try.prog Try.f21 (fun e w' => e = .returned q.v ∧ P w') .ret { tmps := t, defers := [] } (storeM W g q) := by
  refine bodyPost_ret (v := q.v) ?_ ?_ ⟨rfl, hP⟩
  · obtain ⟨r0, r1, r2, r3, r4, r5, r6, r7, r8, r9, r10⟩ := (storeM_box hz q).all
    simp [results, Try.f21, go_sem, h4, r0, r1, r2, r3, r4, r5, r6, r7, r8, r9, r10]
  · rfl

set_option maxRecDepth 100000 in
set_option maxHeartbeats 2000000 in
theorem rmark_any {w : World} {g : Nat} {c : ConV} (m : MsgV) (h : RAt w g c) : Calls Try.prog 21 #[ptrV g, m.v] w fun e w' => e = .returned (c.mark m).v ∧ Below w.heap.size w w' := by
  obtain ⟨w1, hw1⟩ : ∃ w1, w1 = (w.alloc (mbox m)).alloc (mbox zeroM) := ⟨_, rfl⟩
  have s1 : (w.alloc (mbox m)).heap.size = w.heap.size + 1 := World.size_alloc _ _
  have hB0 : Below w.heap.size w (w.alloc (mbox m)) := (Below.refl _ _).alloc (Nat.le_refl _) _
  have hB1 : Below w.heap.size w w1 := by rw [hw1]; exact hB0.alloc (by omega) _
  have HM : Hid (MBox w1 w.heap.size m) := Lib.hid (by rw [hw1]; exact (MBox.new w m).later ((Below.refl _ _).alloc (Nat.le_refl _) _))
  have HZ : Hid (MBox w1 (w.heap.size + 1) zeroM) := Lib.hid (by rw [hw1, ← s1]; exact MBox.new _ zeroM)
  have HP := Lib.hid (CAt.later h hB1)
  have HB := Lib.hid hB1
  have HW1 := Lib.hid hw1
  obtain ⟨c0, c1, c2, c3, c4, c5, c6⟩ := RAt.all HP.out
  have m1 := HM.out.c1
  have m2 := HM.out.c2
  have f1 := HM.out.free 1
  have f2 := HM.out.free 2
  clear hw1 s1 hB0 hB1 h
  go_enter Try.func21, Try.ntmps21
  go_upto_region 1 with fail
  rw [show ∀ V : World, V.alloc (.cells #[.int .i64 0, .int .i64 0, .int .i64 0, .int .i64 0, .int .i64 0, .int .u32 0, .int .i64 0, .string ⟨#[]⟩, .int .i64 0, .int .i64 0, .bool false] 34) = V.alloc (mbox zeroM) from fun _ => rfl, ← HW1.out]
  obtain ⟨wc, hwc⟩ : ∃ wc, wc = (w1.setCell ⟨w.heap.size, 1, none⟩ (.int .i64 c.life)).setCell ⟨w.heap.size, 2, none⟩ (.int .i64 c.known) := ⟨_, rfl⟩
  have HM2 : Hid (MBox wc w.heap.size (c.mark m)) := Lib.hid (by rw [hwc]; exact (HM.out.store (m' := { m with life := c.life }) 1 _ rfl).store (m' := c.mark m) 2 _ rfl)
  have HZ2 : Hid (MBox wc (w.heap.size + 1) zeroM) := Lib.hid (by rw [hwc]; exact (HZ.out.other (by show w.heap.size + 1 ≠ w.heap.size; omega) _).other (by show w.heap.size + 1 ≠ w.heap.size; omega) _)
  have h3 : Below w.heap.size w wc := by rw [hwc]; exact (HB.out.setCell (p := ⟨w.heap.size, 1, none⟩) (Nat.le_refl _) _).setCell (p := ⟨w.heap.size, 2, none⟩) (Nat.le_refl _) _
  have HEND := Lib.hid (h3.trans (((storeM_kp wc (w.heap.size + 1) (c.mark m)).below (B := w.heap.size) fun k hk => by show k ≠ w.heap.size + 1; omega)))
  have HWC := Lib.hid hwc
  have hne : g ≠ w.heap.size := ne_rm HP.out HM.out
  have e1 : (w1.setCell ⟨w.heap.size, 1, none⟩ (.int .i64 c.life)).cell? ⟨g, 1, none⟩ = some (.int .i64 c.known) := CAt.at_ (HP.out.other hne _) 1
  clear hwc h3
  go_upto_region 3 with fail
  rw [← HWC.out]
  clear c0 c1 c2 c3 c4 c5 c6 m1 m2 f1 f2 e1 hne
  obtain ⟨y0, y1, y2, y3, y4, y5, y6, y7, y8, y9, y10⟩ := HM2.out.all
  obtain ⟨z0, z1, z2, z3, z4, z5, z6, z7, z8, z9, z10⟩ := HZ2.out.all
  have hf : ∀ i, wc.frozen? ⟨w.heap.size + 1, i, none⟩ = false := fun i => HZ2.out.free i
  have g0 := hf 0
  have g1 := hf 1
  have g2 := hf 2
  have g3 := hf 3
  have g4 := hf 4
  have g5 := hf 5
  have g6 := hf 6
  have g7 := hf 7
  have g8 := hf 8
  have g9 := hf 9
  have g10 := hf 10
  go_wp2
  exact rmark_end (W := wc) (q := c.mark m) HZ2.out HEND.out rfl
/-- How Hello ends. -/
theorem rhello_end {W : World} {g : Nat} {m0 q : MsgV} {k : Int} {t : Array Value} {P : World → Prop} (hz : MBox W g m0) (hP : P (storeM W g q)) (h4 : t[4]?.getD undef = .pointer (some ⟨g, 0, none⟩)) (h5 : t[5]?.getD undef = .int .i64 k) :
    bodyPost Try.prog Try.f18 (fun e w' => e = .returned (.tuple #[q.v, .int .i64 k]) ∧ P w') .ret { tmps := t, defers := [] } (storeM W g q) := by
  refine bodyPost_ret (v := .tuple #[q.v, .int .i64 k]) ?_ ?_ ⟨rfl, hP⟩
  · obtain ⟨r0, r1, r2, r3, r4, r5, r6, r7, r8, r9, r10⟩ := (storeM_box hz q).all
    simp [results, Try.f18, go_sem, h4, h5, r0, r1, r2, r3, r4, r5, r6, r7, r8, r9, r10]
  · rfl

set_option maxRecDepth 100000 in
set_option maxHeartbeats 2000000 in
theorem rhello_any {w : World} {g : Nat} {c : ConV} (n : Int) (hok : c.Ok) (h : RAt w g c) : Calls Try.prog 18 #[ptrV g, .int .i64 n] w fun e w' => e = .returned (.tuple #[(c.hello n).2.1.v, .int .i64 (c.hello n).2.2]) ∧ RAt w' g (c.hello n).1 ∧ Way (One g) w (One g) w' := by
  obtain ⟨w1, hw1⟩ : ∃ w1, w1 = w.alloc (mbox zeroM) := ⟨_, rfl⟩
  have hB1 : Below w.heap.size w w1 := by rw [hw1]; exact (Below.refl _ _).alloc (Nat.le_refl _) _
  have HZ : Hid (MBox w1 w.heap.size zeroM) := Lib.hid (by rw [hw1]; exact MBox.new w zeroM)
  have HP := Lib.hid (CAt.later h hB1)
  have HB := Lib.hid (Way.of_below (Q := One g) hB1)
  have HGN := Lib.hid (ne_rm HP.out HZ.out)
  have HW1 := Lib.hid hw1
  have hs0 := hok.s0
  have hs1 := hok.s1
  have HR1 : ¬ (0 ≤ n ∧ n ≤ 8) → Hid (c.hello n = (c, zeroM, 1)) := fun e => Lib.hid (by unfold ConV.hello; rw [if_neg e])
  have HR2 : (0 ≤ n ∧ n ≤ 8) → c.said = 1073741824 → Hid (c.hello n = (c, zeroM, 3)) := fun e e2 => Lib.hid (by unfold ConV.hello; rw [if_pos e, if_pos e2])
  have HR3 : (0 ≤ n ∧ n ≤ 8) → ¬ c.said = 1073741824 → Hid (c.hello n = ({ c with said := c.said + 1 }, c.hm n, 0)) := fun e e2 => Lib.hid (by unfold ConV.hello; rw [if_pos e, if_neg e2])
  have HE1 : Hid (RAt (storeM w1 w.heap.size zeroM) g c ∧ Way (One g) w (One g) (storeM w1 w.heap.size zeroM)) := Lib.hid ⟨HP.out.kpM HGN.out _, HB.out.kpM (Nat.le_refl _) _⟩
  clear hw1 hB1 h hok
  obtain ⟨z0, z1, z2, z3, z4, z5, z6, z7, z8, z9, z10⟩ := HZ.out.all
  have hf : ∀ i, w1.frozen? ⟨w.heap.size, i, none⟩ = false := fun i => HZ.out.free i
  have g0 := hf 0
  have g1 := hf 1
  have g2 := hf 2
  have g3 := hf 3
  have g4 := hf 4
  have g5 := hf 5
  have g6 := hf 6
  have g7 := hf 7
  have g8 := hf 8
  have g9 := hf 9
  have g10 := hf 10
  obtain ⟨c0, c1, c2, c3, c4, c5, c6⟩ := RAt.all HP.out
  go_enter Try.func18, Try.ntmps18
  go_upto_region 1 with fail
  rw [show ∀ V : World, V.alloc (.cells #[.int .i64 0, .int .i64 0, .int .i64 0, .int .i64 0, .int .i64 0, .int .u32 0, .int .i64 0, .string ⟨#[]⟩, .int .i64 0, .int .i64 0, .bool false] 34) = V.alloc (mbox zeroM) from fun _ => rfl, ← HW1.out]
  by_cases h1 : n < 0
  · have HR := HR1 (by omega)
    clear HR1 HR2 HR3
    go_wp2
    rw [HR.out]
    exact rhello_end (W := w1) (q := zeroM) HZ.out HE1.out rfl rfl
  by_cases h2 : 8 < n
  · have HR := HR1 (by omega)
    clear HR1 HR2 HR3
    go_wp2
    rw [HR.out]
    exact rhello_end (W := w1) (q := zeroM) HZ.out HE1.out rfl rfl
  by_cases h3 : c.said = 1073741824
  · have HR := HR2 (by omega) h3
    have e3 : decide (1073741824 ≤ c.said) = true := by simp; omega
    clear HR1 HR2 HR3 h3
    go_wp2
    rw [HR.out]
    exact rhello_end (W := w1) (q := zeroM) HZ.out HE1.out rfl rfl
  have HR := HR3 (by omega) h3
  have e3 : decide (1073741824 ≤ c.said) = false := by simp; omega
  clear HR1 HR2 HR3
  obtain ⟨c', hc'⟩ : ∃ c', c' = ({ c with said := c.said + 1 } : ConV) := ⟨_, rfl⟩
  obtain ⟨q, hq⟩ : ∃ q, q = c.hm n := ⟨_, rfl⟩
  rw [← hc', ← hq] at HR
  obtain ⟨w2, hw2⟩ : ∃ w2, w2 = w1.setCell ⟨g, 2, none⟩ (.int .i64 (c.said + 1)) := ⟨_, rfl⟩
  have HP2 : Hid (RAt w2 g c') := Lib.hid (by rw [hw2, hc']; exact HP.out.store 2 _)
  have HZ2 : Hid (MBox w2 w.heap.size zeroM) := Lib.hid (by rw [hw2]; exact HZ.out.other (fun e => HGN.out e.symm) _)
  have HB2 : Hid (Way (One g) w (One g) w2) := Lib.hid (by rw [hw2]; exact HB.out.trans (way_one w1 g 2 _))
  have HM : Hid (Calls Try.prog 21 #[ptrV g, (MsgV.mk 1 0 0 (c.said + 1) n 0 0 ⟨#[]⟩ 0 0 false).v] w2 fun e w' => e = .returned q.v ∧ Below w2.heap.size w2 w') := Lib.hid (by
    have := rmark_any (MsgV.mk 1 0 0 (c.said + 1) n 0 0 ⟨#[]⟩ 0 0 false) HP2.out
    rw [hq]
    rw [hc'] at this
    exact this)
  have k4 : w2.cell? ⟨g, 2, none⟩ = some (.int .i64 (c.said + 1)) := by
    have := CAt.at_ HP2.out 2
    rw [hc'] at this
    exact this
  have HW2 := Lib.hid hw2
  have f4 := HP.out.free 2
  have hlt : c.said < 1073741824 := by omega
  clear hw2 hc' hq h3
  go_upto_region 6 with fail
  rw [← HW2.out]
  clear c0 c1 c2 c3 c4 c5 c6 z0 z1 z2 z3 z4 z5 z6 z7 z8 z9 z10 g0 g1 g2 g3 g4 g5 g6 g7 g8 g9 g10 hf f4
  go_wp2_with fail
  refine HM.out.mono ?_
  rintro e w3 ⟨rfl, hb3⟩
  have HZ3 := Lib.hid (HZ2.out.later hb3)
  have HE3 : Hid (RAt (storeM w3 w.heap.size q) g c' ∧ Way (One g) w (One g) (storeM w3 w.heap.size q)) := Lib.hid ⟨(CAt.later HP2.out hb3).kpM HGN.out _, (HB2.out.trans (Way.of_below hb3)).kpM (Nat.le_refl _) _⟩
  clear hb3 k4
  obtain ⟨z0, z1, z2, z3, z4, z5, z6, z7, z8, z9, z10⟩ := HZ3.out.all
  have hf : ∀ i, w3.frozen? ⟨w.heap.size, i, none⟩ = false := fun i => HZ3.out.free i
  have g0 := hf 0
  have g1 := hf 1
  have g2 := hf 2
  have g3 := hf 3
  have g4 := hf 4
  have g5 := hf 5
  have g6 := hf 6
  have g7 := hf 7
  have g8 := hf 8
  have g9 := hf 9
  have g10 := hf 10
  go_wp2
  rw [HR.out]
  exact rhello_end (W := w3) (q := q) HZ3.out HE3.out rfl rfl

end Go.Proofs.Ytfikdocpcepmmaa
