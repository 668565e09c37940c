/- Joined texts: GraD, GraC. -/
import Derived.Test.YtmaohnbddlccdaaGreatMrgGraM
import Derived.Deep.RegionLaw

/- grant: Lease, Potential. -/
section
namespace Go.Proofs.YtmaohnbddlccdaaGreat.NC
open Go.RowKit Go.Sort

/-- A lease's Until behind Potential. -/
def potV (m : LV) (now want : Int) : Int := max (moV m.unt) (aftV now want)
theorem moV_aft (t s : Int) : moV (aftV t s) = aftV t s := moV_id (aftV_range t s).1 (aftV_range t s).2

set_option maxRecDepth 100000 in
set_option maxHeartbeats 1000000 in
theorem pot_any (a b c now want : Int) (m : LV) (w : World) : Calls Tryz.prog 127 #[r3v a b c, m.v, .int .i64 now, .int .i64 want] w fun e w' => e = .returned (.int .i64 (potV m now want)) ∧ Below w.heap.size w w' := by
  have H1 := Lib.hid (fun V => after_any now want V)
  have H2 := Lib.hid (fun (V : World) b (h : V.heap.size = b) => latest_two_d h m.unt (aftV now want))
  rw [moV_aft] at H2
  unfold potV
  generalize max (moV m.unt) (aftV now want) = y at *
  generalize aftV now want = x at *
  obtain ⟨w0, hw0⟩ : ∃ w0, w0 = (w.alloc (r3box 61 a b c)).alloc (lbox m) := ⟨_, rfl⟩
  have HL : Hid (LBox w0 (w.heap.size + 1) m) := Lib.hid (by rw [hw0]; have h := LBox.new (w.alloc (r3box 61 a b c)) m; rw [show (w.alloc (r3box 61 a b c)).heap.size = w.heap.size + 1 by simp] at h; exact h)
  have HB : Hid (Below w.heap.size w w0) := Lib.hid (by rw [hw0]; exact ((Below.refl _ _).alloc (Nat.le_refl _) _).alloc (by simp) _)
  have HW0 := Lib.hid hw0
  clear hw0
  have l3 := HL.out.c3
  go_enter Tryz.func127, Tryz.ntmps127
  go_upto_region 1 with fail
  rw [← HW0.out]
  go_region_held3 (fun w' => w'.cell? ⟨w.heap.size + 1, 3, none⟩ = some (.int .i64 m.unt))
    (first | go_keep)
    (first
      | (go_at_call 101; (with_reducible refine (H1.out _).mono ?_); rintro e w2 ⟨rfl, rfl⟩)
      | (go_at_call 103; (with_reducible refine (H2.out _ _ rfl).mono ?_); rintro e w2 ⟨rfl, rfl⟩))
  all_goals
    go_wp2
    go_ret
    exact ⟨rfl, (HB.out.trans ((Below.refl _ _).alloc HB.out.size _)).drew⟩

/-- What Lease begins with: the lease itself, or one that knows nothing. -/
def baseL (m : LV) (cb : ByteArray) : LV := if m.bind = 2 ∧ m.cb = cb then m else ⟨m.addr, 2, cb.data.toList, 0, 0, 0, 0, m.ver⟩
/-- What is known of an address once it was promised. -/
def lsV (b : Int) (m : LV) (cb : ByteArray) (now want : Int) : LV := { baseL m cb with unt := max (moV (baseL m cb).unt) (moV (untV b now want (baseL m cb).acked)), at_ := moV now }

theorem lease_end {w W : World} {g : Nat} {q : LV} {t : Array Value} (hz : LBox W g q) (hB : Below w.heap.size w W) (h2 : t[10]?.getD undef = .pointer (some ⟨g, 0, none⟩)) :
    bodyPost Tryz.prog Tryz.f126 (fun e w' => e = .returned q.v ∧ Below w.heap.size w w') .ret { tmps := t, defers := [] } W := by
  refine bodyPost_ret (v := q.v) ?_ ?_ ?_
  · obtain ⟨r0, r1, r2, r3, r4, r5, r6, r7⟩ := hz.all
    simp [results, Tryz.f126, go_sem, h2, r0, r1, r2, r3, r4, r5, r6, r7]
  · rfl
  · exact ⟨rfl, hB⟩

theorem R3.storeL {W : World} {t : TypeId} {g k : Nat} {a b c : Int} (h : R3 t W g a b c) (hk : g < k) {q : LV} : R3 t (storeL W k q) g a b c :=
  ((storeL_low W (g + 1) k hk q).block g (Nat.lt_succ_self g)).trans h
theorem _root_.Go.Proofs.YtmaohnbddlccdaaGreat.LBox.storeL {W : World} {g k : Nat} {m : LV} (h : LBox W g m) (hk : g ≠ k) {q : LV} : LBox (storeL W k q) g m := by
  unfold Proofs.YtmaohnbddlccdaaGreat.storeL
  exact (((((((h.other (a := ⟨k, 0, none⟩) hk _).other (a := ⟨k, 1, none⟩) hk _).other (a := ⟨k, 2, none⟩) hk _).other (a := ⟨k, 3, none⟩) hk _).other (a := ⟨k, 4, none⟩) hk _).other (a := ⟨k, 5, none⟩) hk _).other (a := ⟨k, 6, none⟩) hk _).other (a := ⟨k, 7, none⟩) hk _

set_option maxRecDepth 100000 in
set_option maxHeartbeats 2000000 in
theorem lease_any (a b c now want : Int) (m : LV) (cb : ByteArray) (w : World) : Calls Tryz.prog 126 #[r3v a b c, m.v, .string cb, .int .i64 now, .int .i64 want] w fun e w' => e = .returned (lsV b m cb now want).v ∧ Below w.heap.size w w' := by
  obtain ⟨w0, hw0⟩ : ∃ w0, w0 = ((w.alloc (r3box 61 a b c)).alloc (lbox m)).alloc (.cells #[.int .u32 0, .int .i64 0, .string ⟨#[]⟩, .int .i64 0, .int .i64 0, .int .i64 0, .int .i64 0, .int .i64 0] 42) := ⟨_, rfl⟩
  have HR : Hid (R3 61 w0 w.heap.size a b c) := Lib.hid (by rw [hw0]; exact ((R3.new w _ a b c).alloc _).alloc _)
  have HL : Hid (LBox w0 (w.heap.size + 1) m) := Lib.hid (by rw [hw0]; have h := LBox.new (w.alloc (r3box 61 a b c)) m; rw [show (w.alloc (r3box 61 a b c)).heap.size = w.heap.size + 1 by simp] at h; exact h.alloc _)
  have HZ : Hid (LBox w0 (w.heap.size + 1 + 1) zeroL) := Lib.hid (by rw [hw0]; have h := LBox.new ((w.alloc (r3box 61 a b c)).alloc (lbox m)) zeroL; rw [show ((w.alloc (r3box 61 a b c)).alloc (lbox m)).heap.size = w.heap.size + 1 + 1 by simp] at h; exact h)
  have HB : Hid (Below w.heap.size w w0) := Lib.hid (by rw [hw0]; exact (((Below.refl _ _).alloc (Nat.le_refl _) _).alloc (by simp) _).alloc (by simp; omega) _)
  have HW0 := Lib.hid hw0
  clear hw0
  obtain ⟨l0, l1, l2, l3, l4, l5, l6, l7⟩ := HL.out.all
  obtain ⟨e0, e1, e2, e3, e4, e5, e6, e7⟩ := HL.out.allF
  have HQ : Hid (∃ q, q = baseL m cb) := Lib.hid ⟨_, rfl⟩
  have hcase : (m.bind = 2 ∧ m.cb = cb ∧ baseL m cb = m) ∨ (¬ m.bind = 2 ∧ baseL m cb = ⟨m.addr, 2, cb.data.toList, 0, 0, 0, 0, m.ver⟩) ∨ (m.bind = 2 ∧ m.cb ≠ cb ∧ baseL m cb = ⟨m.addr, 2, cb.data.toList, 0, 0, 0, 0, m.ver⟩) := by
    unfold baseL
    by_cases h1 : m.bind = 2 <;> by_cases h2 : m.cb = cb <;> simp [h1, h2]
  unfold lsV
  generalize baseL m cb = q at *
  have HU := Lib.hid (fun V => until_any a b c now want q.acked V)
  have H2 := Lib.hid (fun (V : World) b k (h : V.heap.size = b) => latest_two h q.unt k)
  have H3 := Lib.hid (fun (V : World) b (h : V.heap.size = b) => latest_one h now)
  generalize untV b now want q.acked = u at *
  rcases hcase with ⟨h1, h2, hq⟩ | ⟨h1, hq⟩ | ⟨h1, h2, hq⟩
  · go_enter Tryz.func126, Tryz.ntmps126
    go_upto_region 1 with fail
    rw [← HW0.out]
    go_upto_region 3 with fail
    obtain ⟨W1, hW1⟩ : ∃ W1, W1 = w0 := ⟨_, rfl⟩
    rw [← hW1]
    have HR1 : Hid (R3 61 W1 w.heap.size a b c) := Lib.hid (hW1 ▸ HR.out)
    have HL1 : Hid (LBox W1 (w.heap.size + 1) q) := Lib.hid (hW1 ▸ hq ▸ HL.out)
    have HZ1 : Hid (LBox W1 (w.heap.size + 1 + 1) zeroL) := Lib.hid (hW1 ▸ HZ.out)
    have HB1 : Hid (Below w.heap.size w W1) := Lib.hid (hW1 ▸ HB.out)
    have HW1 := Lib.hid hW1
    clear hW1
    have HQ1 := Lib.hid hq
    clear hq
    clear l0 l1 l2 l3 l4 l5 l6 l7 e0 e1 e2 e3 e4 e5 e6 e7
    obtain ⟨c0, c1, c2⟩ := HR1.out.all
    have l3 := HL1.out.c3
    have l4 := HL1.out.c4
    go_region_law (first
      | (go_simp; go_at_call 123; refine (HU.out _).mono ?_; rintro e w2 ⟨rfl, hb2⟩; have hB2 : Below W1.heap.size W1 w2 := ⟨hb2.os, hb2.tape, hb2.output, hb2.size, hb2.block⟩; have HB2 := Lib.hid hB2; have HL2 := Lib.hid (HL1.out.later hB2); have HZ2 := Lib.hid (HZ1.out.later hB2); have k3 := HL2.out.c3; have HX2 := Lib.hid (HL2.out.alloc (.cells #[.int .i64 q.unt, .int .i64 u] 3)); have k4 := HX2.out.c3; have f4 := HX2.out.free 3)
      | (go_simp; go_at_call 103; refine (H2.out _ _ _ rfl).mono ?_; rintro e w3 ⟨rfl, rfl⟩))
    all_goals
      obtain ⟨w4, hw4⟩ : ∃ w4, w4 = (w2.alloc (.cells #[.int .i64 q.unt, .int .i64 u] 3)).setCell ⟨w.heap.size + 1, 3, none⟩ (.int .i64 (max (moV q.unt) (moV u))) := ⟨_, rfl⟩
      rw [← hw4]
      have HL4 : Hid (LBox w4 (w.heap.size + 1) { q with unt := max (moV q.unt) (moV u) }) := Lib.hid (by rw [hw4]; exact HX2.out.store 3 _ rfl)
      have HZ4 : Hid (LBox w4 (w.heap.size + 1 + 1) zeroL) := Lib.hid (by rw [hw4]; exact (HZ2.out.alloc _).other (a := ⟨w.heap.size + 1, 3, none⟩) (Nat.succ_ne_self _) _)
      have HB4 : Hid (Below w.heap.size w w4) := Lib.hid (by rw [hw4]; exact ((HB1.out.trans (HB2.out.mono HB1.out.size)).alloc (HB1.out.trans (HB2.out.mono HB1.out.size)).size _).setCell (p := ⟨w.heap.size + 1, 3, none⟩) (Nat.le_succ _) _)
      clear k3 k4 f4 c0 c1 c2 l3 l4 hb2 hB2 hw4
      have HX4 := Lib.hid (HL4.out.alloc (.cells #[.int .i64 now] 3))
      have k6 := HX4.out.c6
      have f6 := HX4.out.free 6
      go_wp2_with fail
      refine (H3.out _ _ rfl).mono ?_
      rintro e w5 ⟨rfl, rfl⟩
      go_upto_region 5 with fail
      obtain ⟨w6, hw6⟩ : ∃ w6, w6 = (w4.alloc (.cells #[.int .i64 now] 3)).setCell ⟨w.heap.size + 1, 6, none⟩ (.int .i64 (moV now)) := ⟨_, rfl⟩
      rw [← hw6]
      have HL6 : Hid (LBox w6 (w.heap.size + 1) { q with unt := max (moV q.unt) (moV u), at_ := moV now }) := Lib.hid (by rw [hw6]; exact HX4.out.store 6 _ rfl)
      have HZ6 : Hid (LBox w6 (w.heap.size + 1 + 1) zeroL) := Lib.hid (by rw [hw6]; exact (HZ4.out.alloc _).other (a := ⟨w.heap.size + 1, 6, none⟩) (Nat.succ_ne_self _) _)
      have HB6 : Hid (Below w.heap.size w w6) := Lib.hid (by rw [hw6]; exact (HB4.out.alloc HB4.out.size _).setCell (p := ⟨w.heap.size + 1, 6, none⟩) (Nat.le_succ _) _)
      clear k6 f6 hw6
      obtain ⟨l0, l1, l2, l3, l4, l5, l6, l7⟩ := HL6.out.all
      obtain ⟨z0, z1, z2, z3, z4, z5, z6, z7⟩ := HZ6.out.all
      obtain ⟨e0, e1, e2, e3, e4, e5, e6, e7⟩ := HZ6.out.allF
      go_wp2
      exact lease_end (W := storeL w6 (w.heap.size + 1 + 1) { q with unt := max (moV q.unt) (moV u), at_ := moV now }) (storeL_box HZ6.out _) (HB6.out.trans (storeL_low w6 _ _ (by omega) _)) rfl
  · have HQ1 := Lib.hid hq
    clear hq
    go_enter Tryz.func126, Tryz.ntmps126
    go_upto_region 1 with fail
    rw [← HW0.out]
    go_upto_region 3 with fail
    obtain ⟨W1, hW1⟩ : ∃ W1, W1 = storeL w0 (w.heap.size + 1) q := ⟨_, rfl⟩
    have hW2 : W1 = ((((((((w0.setCell ⟨w.heap.size + 1, 0, none⟩ (.int .u32 (m.addr : Int))).setCell ⟨w.heap.size + 1, 1, none⟩ (.int .i64 2)).setCell ⟨w.heap.size + 1, 2, none⟩ (.string cb)).setCell ⟨w.heap.size + 1, 3, none⟩ (.int .i64 0)).setCell ⟨w.heap.size + 1, 4, none⟩ (.int .i64 0)).setCell ⟨w.heap.size + 1, 5, none⟩ (.int .i64 0)).setCell ⟨w.heap.size + 1, 6, none⟩ (.int .i64 0)).setCell ⟨w.heap.size + 1, 7, none⟩ (.int .i64 m.ver)) := by
      rw [hW1, HQ1.out]
      unfold storeL LV.cb
      simp
    rw [← hW2]
    clear hW2
    have HR1 : Hid (R3 61 W1 w.heap.size a b c) := Lib.hid (by rw [hW1]; exact R3.storeL HR.out (by omega))
    have HL1 : Hid (LBox W1 (w.heap.size + 1) q) := Lib.hid (by rw [hW1]; exact storeL_box HL.out q)
    have HZ1 : Hid (LBox W1 (w.heap.size + 1 + 1) zeroL) := Lib.hid (by rw [hW1]; exact HZ.out.storeL (by omega))
    have HB1 : Hid (Below w.heap.size w W1) := Lib.hid (by rw [hW1]; exact HB.out.trans (storeL_low w0 _ _ (by omega) q))
    have HW1 := Lib.hid hW1
    clear hW1
    clear l0 l1 l2 l3 l4 l5 l6 l7 e0 e1 e2 e3 e4 e5 e6 e7
    obtain ⟨c0, c1, c2⟩ := HR1.out.all
    have l3 := HL1.out.c3
    have l4 := HL1.out.c4
    go_region_law (first
      | (go_simp; go_at_call 123; refine (HU.out _).mono ?_; rintro e w2 ⟨rfl, hb2⟩; have hB2 : Below W1.heap.size W1 w2 := ⟨hb2.os, hb2.tape, hb2.output, hb2.size, hb2.block⟩; have HB2 := Lib.hid hB2; have HL2 := Lib.hid (HL1.out.later hB2); have HZ2 := Lib.hid (HZ1.out.later hB2); have k3 := HL2.out.c3; have HX2 := Lib.hid (HL2.out.alloc (.cells #[.int .i64 q.unt, .int .i64 u] 3)); have k4 := HX2.out.c3; have f4 := HX2.out.free 3)
      | (go_simp; go_at_call 103; refine (H2.out _ _ _ rfl).mono ?_; rintro e w3 ⟨rfl, rfl⟩))
    all_goals
      obtain ⟨w4, hw4⟩ : ∃ w4, w4 = (w2.alloc (.cells #[.int .i64 q.unt, .int .i64 u] 3)).setCell ⟨w.heap.size + 1, 3, none⟩ (.int .i64 (max (moV q.unt) (moV u))) := ⟨_, rfl⟩
      rw [← hw4]
      have HL4 : Hid (LBox w4 (w.heap.size + 1) { q with unt := max (moV q.unt) (moV u) }) := Lib.hid (by rw [hw4]; exact HX2.out.store 3 _ rfl)
      have HZ4 : Hid (LBox w4 (w.heap.size + 1 + 1) zeroL) := Lib.hid (by rw [hw4]; exact (HZ2.out.alloc _).other (a := ⟨w.heap.size + 1, 3, none⟩) (Nat.succ_ne_self _) _)
      have HB4 : Hid (Below w.heap.size w w4) := Lib.hid (by rw [hw4]; exact ((HB1.out.trans (HB2.out.mono HB1.out.size)).alloc (HB1.out.trans (HB2.out.mono HB1.out.size)).size _).setCell (p := ⟨w.heap.size + 1, 3, none⟩) (Nat.le_succ _) _)
      clear k3 k4 f4 c0 c1 c2 l3 l4 hb2 hB2 hw4
      have HX4 := Lib.hid (HL4.out.alloc (.cells #[.int .i64 now] 3))
      have k6 := HX4.out.c6
      have f6 := HX4.out.free 6
      go_wp2_with fail
      refine (H3.out _ _ rfl).mono ?_
      rintro e w5 ⟨rfl, rfl⟩
      go_upto_region 5 with fail
      obtain ⟨w6, hw6⟩ : ∃ w6, w6 = (w4.alloc (.cells #[.int .i64 now] 3)).setCell ⟨w.heap.size + 1, 6, none⟩ (.int .i64 (moV now)) := ⟨_, rfl⟩
      rw [← hw6]
      have HL6 : Hid (LBox w6 (w.heap.size + 1) { q with unt := max (moV q.unt) (moV u), at_ := moV now }) := Lib.hid (by rw [hw6]; exact HX4.out.store 6 _ rfl)
      have HZ6 : Hid (LBox w6 (w.heap.size + 1 + 1) zeroL) := Lib.hid (by rw [hw6]; exact (HZ4.out.alloc _).other (a := ⟨w.heap.size + 1, 6, none⟩) (Nat.succ_ne_self _) _)
      have HB6 : Hid (Below w.heap.size w w6) := Lib.hid (by rw [hw6]; exact (HB4.out.alloc HB4.out.size _).setCell (p := ⟨w.heap.size + 1, 6, none⟩) (Nat.le_succ _) _)
      clear k6 f6 hw6
      obtain ⟨l0, l1, l2, l3, l4, l5, l6, l7⟩ := HL6.out.all
      obtain ⟨z0, z1, z2, z3, z4, z5, z6, z7⟩ := HZ6.out.all
      obtain ⟨e0, e1, e2, e3, e4, e5, e6, e7⟩ := HZ6.out.allF
      go_wp2
      exact lease_end (W := storeL w6 (w.heap.size + 1 + 1) { q with unt := max (moV q.unt) (moV u), at_ := moV now }) (storeL_box HZ6.out _) (HB6.out.trans (storeL_low w6 _ _ (by omega) _)) rfl
  · have HQ1 := Lib.hid hq
    have h3 : (m.cb.toList == cb.toList) = false := by
      rw [beq_eq_false_iff_ne]
      intro e
      rw [ByteArray.toList_eq, ByteArray.toList_eq] at e
      exact h2 (ByteArray.ext (Array.toList_inj.1 e))
    clear hq h2
    go_enter Tryz.func126, Tryz.ntmps126
    go_upto_region 1 with fail
    rw [← HW0.out]
    go_upto_region 3 with fail
    obtain ⟨W1, hW1⟩ : ∃ W1, W1 = storeL w0 (w.heap.size + 1) q := ⟨_, rfl⟩
    have hW2 : W1 = ((((((((w0.setCell ⟨w.heap.size + 1, 0, none⟩ (.int .u32 (m.addr : Int))).setCell ⟨w.heap.size + 1, 1, none⟩ (.int .i64 2)).setCell ⟨w.heap.size + 1, 2, none⟩ (.string cb)).setCell ⟨w.heap.size + 1, 3, none⟩ (.int .i64 0)).setCell ⟨w.heap.size + 1, 4, none⟩ (.int .i64 0)).setCell ⟨w.heap.size + 1, 5, none⟩ (.int .i64 0)).setCell ⟨w.heap.size + 1, 6, none⟩ (.int .i64 0)).setCell ⟨w.heap.size + 1, 7, none⟩ (.int .i64 m.ver)) := by
      rw [hW1, HQ1.out]
      unfold storeL LV.cb
      simp
    rw [← hW2]
    clear hW2
    have HR1 : Hid (R3 61 W1 w.heap.size a b c) := Lib.hid (by rw [hW1]; exact R3.storeL HR.out (by omega))
    have HL1 : Hid (LBox W1 (w.heap.size + 1) q) := Lib.hid (by rw [hW1]; exact storeL_box HL.out q)
    have HZ1 : Hid (LBox W1 (w.heap.size + 1 + 1) zeroL) := Lib.hid (by rw [hW1]; exact HZ.out.storeL (by omega))
    have HB1 : Hid (Below w.heap.size w W1) := Lib.hid (by rw [hW1]; exact HB.out.trans (storeL_low w0 _ _ (by omega) q))
    have HW1 := Lib.hid hW1
    clear hW1
    clear l0 l1 l2 l3 l4 l5 l6 l7 e0 e1 e2 e3 e4 e5 e6 e7
    obtain ⟨c0, c1, c2⟩ := HR1.out.all
    have l3 := HL1.out.c3
    have l4 := HL1.out.c4
    go_region_law (first
      | (go_simp; go_at_call 123; refine (HU.out _).mono ?_; rintro e w2 ⟨rfl, hb2⟩; have hB2 : Below W1.heap.size W1 w2 := ⟨hb2.os, hb2.tape, hb2.output, hb2.size, hb2.block⟩; have HB2 := Lib.hid hB2; have HL2 := Lib.hid (HL1.out.later hB2); have HZ2 := Lib.hid (HZ1.out.later hB2); have k3 := HL2.out.c3; have HX2 := Lib.hid (HL2.out.alloc (.cells #[.int .i64 q.unt, .int .i64 u] 3)); have k4 := HX2.out.c3; have f4 := HX2.out.free 3)
      | (go_simp; go_at_call 103; refine (H2.out _ _ _ rfl).mono ?_; rintro e w3 ⟨rfl, rfl⟩))
    all_goals
      obtain ⟨w4, hw4⟩ : ∃ w4, w4 = (w2.alloc (.cells #[.int .i64 q.unt, .int .i64 u] 3)).setCell ⟨w.heap.size + 1, 3, none⟩ (.int .i64 (max (moV q.unt) (moV u))) := ⟨_, rfl⟩
      rw [← hw4]
      have HL4 : Hid (LBox w4 (w.heap.size + 1) { q with unt := max (moV q.unt) (moV u) }) := Lib.hid (by rw [hw4]; exact HX2.out.store 3 _ rfl)
      have HZ4 : Hid (LBox w4 (w.heap.size + 1 + 1) zeroL) := Lib.hid (by rw [hw4]; exact (HZ2.out.alloc _).other (a := ⟨w.heap.size + 1, 3, none⟩) (Nat.succ_ne_self _) _)
      have HB4 : Hid (Below w.heap.size w w4) := Lib.hid (by rw [hw4]; exact ((HB1.out.trans (HB2.out.mono HB1.out.size)).alloc (HB1.out.trans (HB2.out.mono HB1.out.size)).size _).setCell (p := ⟨w.heap.size + 1, 3, none⟩) (Nat.le_succ _) _)
      clear k3 k4 f4 c0 c1 c2 l3 l4 hb2 hB2 hw4
      have HX4 := Lib.hid (HL4.out.alloc (.cells #[.int .i64 now] 3))
      have k6 := HX4.out.c6
      have f6 := HX4.out.free 6
      go_wp2_with fail
      refine (H3.out _ _ rfl).mono ?_
      rintro e w5 ⟨rfl, rfl⟩
      go_upto_region 5 with fail
      obtain ⟨w6, hw6⟩ : ∃ w6, w6 = (w4.alloc (.cells #[.int .i64 now] 3)).setCell ⟨w.heap.size + 1, 6, none⟩ (.int .i64 (moV now)) := ⟨_, rfl⟩
      rw [← hw6]
      have HL6 : Hid (LBox w6 (w.heap.size + 1) { q with unt := max (moV q.unt) (moV u), at_ := moV now }) := Lib.hid (by rw [hw6]; exact HX4.out.store 6 _ rfl)
      have HZ6 : Hid (LBox w6 (w.heap.size + 1 + 1) zeroL) := Lib.hid (by rw [hw6]; exact (HZ4.out.alloc _).other (a := ⟨w.heap.size + 1, 6, none⟩) (Nat.succ_ne_self _) _)
      have HB6 : Hid (Below w.heap.size w w6) := Lib.hid (by rw [hw6]; exact (HB4.out.alloc HB4.out.size _).setCell (p := ⟨w.heap.size + 1, 6, none⟩) (Nat.le_succ _) _)
      clear k6 f6 hw6
      obtain ⟨l0, l1, l2, l3, l4, l5, l6, l7⟩ := HL6.out.all
      obtain ⟨z0, z1, z2, z3, z4, z5, z6, z7⟩ := HZ6.out.all
      obtain ⟨e0, e1, e2, e3, e4, e5, e6, e7⟩ := HZ6.out.allF
      go_wp2
      exact lease_end (W := storeL w6 (w.heap.size + 1 + 1) { q with unt := max (moV q.unt) (moV u), at_ := moV now }) (storeL_box HZ6.out _) (HB6.out.trans (storeL_low w6 _ _ (by omega) _)) rfl
end Go.Proofs.YtmaohnbddlccdaaGreat.NC
end

/- grant: the document's May. -/
section
namespace Go.Proofs.YtmaohnbddlccdaaGreat.NC
open Go.RowKit Go.Sort

set_option maxRecDepth 100000 in
set_option maxHeartbeats 1000000 in
theorem rmay_any (a b c s now entry : Int) (m : LV) (w : World) : Calls Tryz.prog 91 #[r3v a b c, m.v, .int .i64 s, .int .i64 now, .int .i64 entry] w fun e w' => e = .returned (.bool (mayV a b c m s now entry)) ∧ Below w.heap.size w w' := by
  have H1 := Lib.hid (fun V => rserves_any s V)
  have H2 := Lib.hid (fun V => radd_any (max b 0) (max c 0) V)
  have H3 := Lib.hid (fun V => rover_any m V)
  have H4 := Lib.hid (fun V => rpast_any now (max entry (overL m)) (aftV b c) V)
  rw [aftV_max] at H2
  unfold mayV ovrB
  generalize decide (ServesI s) = x at *
  generalize pastV now (max entry (overL m)) (aftV b c) = z at *
  generalize aftV b c = y at *
  generalize overL m = o at *
  obtain ⟨p, hp⟩ : ∃ p, p = max b 0 := ⟨_, rfl⟩
  obtain ⟨q, hq⟩ : ∃ q, q = max c 0 := ⟨_, rfl⟩
  obtain ⟨r, hr⟩ : ∃ r, r = max entry o := ⟨_, rfl⟩
  rw [← hp, ← hq] at H2
  rw [← hr] at H4
  have hp' : (if b < 0 then (0 : Int) else b) = p := by split <;> omega
  have hq' : (if c < 0 then (0 : Int) else c) = q := by split <;> omega
  have hr' : (if entry < o then o else entry) = r := by split <;> omega
  clear hp hq hr
  obtain ⟨w0, hw0⟩ : ∃ w0, w0 = (w.alloc (r3box 124 a b c)).alloc (lbox m) := ⟨_, rfl⟩
  have HR : Hid (R3 124 w0 w.heap.size a b c) := Lib.hid (by rw [hw0]; exact (R3.new w _ a b c).alloc _)
  have HL : Hid (LBox w0 (w.heap.size + 1) m) := Lib.hid (by rw [hw0]; have h := LBox.new (w.alloc (r3box 124 a b c)) m; rw [show (w.alloc (r3box 124 a b c)).heap.size = w.heap.size + 1 by simp] at h; exact h)
  have HB : Hid (Below w.heap.size w w0) := Lib.hid (by rw [hw0]; exact ((Below.refl _ _).alloc (Nat.le_refl _) _).alloc (by simp) _)
  have HW0 := Lib.hid hw0
  clear hw0
  have C2 := Lib.hid (qb (fun V => rown_any a b c V) w0)
  generalize ownV a = k at *
  cases x
  · go_enter Tryz.func91, Tryz.ntmps91
    go_wp2_with fail
    rw [← HW0.out]
    refine (H1.out _).mono ?_
    rintro e w' ⟨rfl, rfl⟩
    go_wp2
    go_ret
    exact ⟨rfl, HB.out⟩
  · obtain ⟨c0, c1, c2⟩ := HR.out.allR
    obtain ⟨l0, l1, l2, l3, l4, l5, l6, l7⟩ := HL.out.allR
    go_enter Tryz.func91, Tryz.ntmps91
    go_wp2_with fail
    rw [← HW0.out]
    refine (H1.out _).mono ?_
    rintro e w' ⟨rfl, rfl⟩
    go_upto_region 3 with fail
    refine wp_region_quiet_below (by kernel_rfl) (by kernel_rfl) ?_
    repeat (go_big_quiet_step (with_reducible exact C2.out _ _))
    refine wpQuiet_nil ?_
    intro _ hw'
    obtain ⟨⟨dq, osq⟩, hw''⟩ := hw'
    subst hw''
    have HB1 := Lib.hid (HB.out.trans ((below_regrown w0 dq osq).mono HB.out.size))
    have HR1 := Lib.hid (HR.out.later (below_regrown w0 dq osq))
    have HL1 := Lib.hid (HL.out.later (below_regrown w0 dq osq))
    clear c0 c1 c2 l0 l1 l2 l3 l4 l5 l6 l7 C2
    generalize grow (redrawn w0 dq) osq = w1 at *
    obtain ⟨c0, c1, c2⟩ := HR1.out.all
    obtain ⟨l0, l1, l2, l3, l4, l5, l6, l7⟩ := HL1.out.all
    cases hk : m.bind == k
    · go_wp2_with fail
      refine (H2.out _).mono ?_
      rintro e w' ⟨rfl, rfl⟩
      cases h3 : s == 3
      · go_wp2
        go_ret
        refine ⟨?_, HB1.out⟩
        rw [hk, h3]
        rfl
      · by_cases h5 : m.bind = 5
        · go_wp2
          go_ret
          refine ⟨?_, HB1.out⟩
          rw [hk, h3, h5]
          rfl
        · go_wp2_with fail
          refine (H3.out _).mono ?_
          rintro e w2 ⟨rfl, hb2⟩
          have HB2 := Lib.hid (HB1.out.trans (hb2.mono HB1.out.size))
          clear hb2
          go_wp2_with fail
          refine (H4.out _).mono ?_
          rintro e w' ⟨rfl, rfl⟩
          go_wp2
          go_ret
          refine ⟨?_, HB2.out⟩
          rw [hk, h3, show (m.bind != 5) = true by simpa using h5]
          rfl
    · go_wp2
      go_ret
      refine ⟨?_, HB1.out⟩
      rw [hk]
      rfl
end Go.Proofs.YtmaohnbddlccdaaGreat.NC
end
