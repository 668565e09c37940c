/- grant, the document's: Potential, Lease, of a lease that may be. -/
import Derived.Test.YtmaohnbddlccdaaGreatMrgGraD
namespace Go.Proofs.YtmaohnbddlccdaaGreat
open Go.RowKit Go.Sort

set_option maxRecDepth 100000 in
set_option maxHeartbeats 1000000 in
theorem rpot_any (a b c now want : Int) (m : LV) (hm : NC.moV m.unt = m.unt) (w : World) : Calls Tryz.prog 93 #[NC.r3v a b c, m.v, .int .i64 now, .int .i64 want] w fun e w' => e = .returned (.int .i64 (NC.potV m now want)) ∧ Below w.heap.size w w' := by
  have H2 := Lib.hid (fun V => NC.radd_any now (max want 0) V)
  unfold NC.potV NC.aftV
  rw [hm]
  generalize NC.addV now (max want 0) = y at *
  obtain ⟨p, hp⟩ : ∃ p, p = max want 0 := ⟨_, rfl⟩
  rw [← hp] at H2
  have hp' : (if want < 0 then (0 : Int) else want) = p := by split <;> omega
  clear hp hm
  obtain ⟨w0, hw0⟩ : ∃ w0, w0 = (w.alloc (NC.r3box 124 a b c)).alloc (lbox m) := ⟨_, rfl⟩
  have HL : Hid (LBox w0 (w.heap.size + 1) m) := Lib.hid (by rw [hw0]; have h := LBox.new (w.alloc (NC.r3box 124 a b c)) m; rw [show (w.alloc (NC.r3box 124 a b c)).heap.size = w.heap.size + 1 by simp] at h; exact h)
  have HB : Hid (Below w.heap.size w w0) := Lib.hid (by rw [hw0]; exact ((Below.refl _ _).alloc (Nat.le_refl _) _).alloc (by simp) _)
  have HW0 := Lib.hid hw0
  clear hw0
  have C2 := Lib.hid (NC.qb (fun V => (H2.out V).mono (fun _ _ ⟨he, hw⟩ => ⟨he, hw ▸ Below.refl _ _⟩)) w0)
  have l3 := HL.out.allR.2.2.2.1
  go_enter Tryz.func93, Tryz.ntmps93
  go_upto_region 1 with fail
  rw [← HW0.out]
  refine wp_region_quiet_below (by kernel_rfl) (by kernel_rfl) ?_
  repeat (go_big_quiet_step (with_reducible exact C2.out _ _))
  refine wpQuiet_nil ?_
  intro _ hw'
  obtain ⟨⟨dq, osq⟩, hw''⟩ := hw'
  subst hw''
  go_wp2
  all_goals
    go_ret
    refine ⟨?_, HB.out.trans ((below_regrown w0 dq osq).mono HB.out.size)⟩
    show Ending.returned (.int .i64 _) = _
    congr 2
    omega

theorem rlease_end {w W : World} {g : Nat} {q : LV} {t : Array Value} (hz : LBox W g q) (hB : Below w.heap.size w W) (h2 : t[10]?.getD undef = .pointer (some ⟨g, 0, none⟩)) :
    bodyPost Tryz.prog Tryz.f92 (fun e w' => e = .returned q.v ∧ Below w.heap.size w w') .ret { tmps := t, defers := [] } W := by
  refine bodyPost_ret (v := q.v) ?_ ?_ ?_
  · obtain ⟨r0, r1, r2, r3, r4, r5, r6, r7⟩ := hz.all
    simp [results, Tryz.f92, go_sem, h2, r0, r1, r2, r3, r4, r5, r6, r7]
  · rfl
  · exact ⟨rfl, hB⟩

set_option maxRecDepth 100000 in
set_option maxHeartbeats 2000000 in
theorem rlease_any (a b c now want : Int) (m : LV) (hm : NC.moV m.unt = m.unt) (cb : ByteArray) (w : World) : Calls Tryz.prog 92 #[NC.r3v a b c, m.v, .string cb, .int .i64 now, .int .i64 want] w fun e w' => e = .returned (NC.lsV b m cb now want).v ∧ Below w.heap.size w w' := by
  obtain ⟨w0, hw0⟩ : ∃ w0, w0 = ((w.alloc (NC.r3box 124 a b c)).alloc (lbox m)).alloc (.cells #[.int .u32 0, .int .i64 0, .string ⟨#[]⟩, .int .i64 0, .int .i64 0, .int .i64 0, .int .i64 0, .int .i64 0] 42) := ⟨_, rfl⟩
  have HR : Hid (NC.R3 124 w0 w.heap.size a b c) := Lib.hid (by rw [hw0]; exact ((NC.R3.new w _ a b c).alloc _).alloc _)
  have HL : Hid (LBox w0 (w.heap.size + 1) m) := Lib.hid (by rw [hw0]; have h := LBox.new (w.alloc (NC.r3box 124 a b c)) m; rw [show (w.alloc (NC.r3box 124 a b c)).heap.size = w.heap.size + 1 by simp] at h; exact h.alloc _)
  have HZ : Hid (LBox w0 (w.heap.size + 1 + 1) zeroL) := Lib.hid (by rw [hw0]; have h := LBox.new ((w.alloc (NC.r3box 124 a b c)).alloc (lbox m)) zeroL; rw [show ((w.alloc (NC.r3box 124 a b c)).alloc (lbox m)).heap.size = w.heap.size + 1 + 1 by simp] at h; exact h)
  have HB : Hid (Below w.heap.size w w0) := Lib.hid (by rw [hw0]; exact (((Below.refl _ _).alloc (Nat.le_refl _) _).alloc (by simp) _).alloc (by simp; omega) _)
  have HW0 := Lib.hid hw0
  clear hw0
  obtain ⟨l0, l1, l2, l3, l4, l5, l6, l7⟩ := HL.out.all
  have hcase : (m.bind = 2 ∧ m.cb = cb ∧ NC.lsV b m cb now want = { m with unt := max m.unt (NC.untV b now want m.acked), at_ := NC.moV now }) ∨ ((m.bind = 2 → (m.cb.toList == cb.toList) = false) ∧ NC.lsV b m cb now want = ⟨m.addr, 2, cb.data.toList, NC.untV b now want 0, 0, 0, NC.moV now, m.ver⟩) := by
    have hu : ∀ k, NC.moV (NC.untV b now want k) = NC.untV b now want k := fun k => by
      have h1 := NC.aftV_range now want
      have h2 := NC.aftV_range (max (NC.moV now) (NC.moV k)) b
      exact NC.moV_id (by unfold NC.untV; omega) (by unfold NC.untV; omega)
    have h0 : ∀ k, 0 ≤ NC.untV b now want k := fun k => by
      have h1 := NC.aftV_range now want
      have h2 := NC.aftV_range (max (NC.moV now) (NC.moV k)) b
      unfold NC.untV; omega
    by_cases h1 : m.bind = 2 ∧ m.cb = cb
    · refine .inl ⟨h1.1, h1.2, ?_⟩
      unfold NC.lsV NC.baseL
      rw [if_pos h1, hm, hu]
    · refine .inr ⟨fun hb => ?_, ?_⟩
      · rw [beq_eq_false_iff_ne]
        intro e
        rw [ByteArray.toList_eq, ByteArray.toList_eq] at e
        exact h1 ⟨hb, ByteArray.ext (Array.toList_inj.1 e)⟩
      · unfold NC.lsV NC.baseL
        rw [if_neg h1]
        show LV.mk _ _ _ (max (NC.moV 0) (NC.moV (NC.untV b now want 0))) _ _ _ _ = _
        rw [hu, show NC.moV 0 = 0 from NC.moV_id (by omega) (by omega), show max 0 (NC.untV b now want 0) = NC.untV b now want 0 from by have := h0 0; omega]
  have HBO := Lib.hid (fun V => NC.rbounded_any now V)
  generalize NC.moV now = mn at *
  rcases hcase with ⟨h1, h2, hq⟩ | ⟨h1, hq⟩
  · have HU := Lib.hid (fun V => NC.runtil_any a b c now want m.acked V)
    rw [hq]
    generalize NC.untV b now want m.acked = u at *
    obtain ⟨M, hM⟩ : ∃ M, M = max m.unt u := ⟨_, rfl⟩
    rw [← hM]
    have hmx : (if m.unt < u then u else m.unt) = M := by rw [hM]; split <;> omega
    have t1 : (m.bind == 2) = true := by simp [h1]
    have t2 : (m.cb.toList == cb.toList) = true := by rw [h2]; simp
    clear hq hm hM h1 h2
    obtain ⟨c0, c1, c2⟩ := HR.out.all
    go_enter Tryz.func92, Tryz.ntmps92
    go_upto_region 1 with fail
    rw [← HW0.out]
    go_upto_region 2 with fail
    clear l0 l1 l2 l5 l6 l7 t1 t2
    go_region_law (first
      | (go_simp; go_at_call 135; refine (HU.out _).mono ?_; rintro e w2 ⟨rfl, hb2⟩; have hB2 : Below w0.heap.size w0 w2 := ⟨hb2.os, hb2.tape, hb2.output, hb2.size, hb2.block⟩; have HB2 := Lib.hid hB2; have HL2 := Lib.hid (HL.out.later hB2); have HZ2 := Lib.hid (HZ.out.later hB2); have k3 := HL2.out.c3; have f3 := HL2.out.free 3; clear hb2 hB2))
    all_goals
      obtain ⟨w4, hw4⟩ : ∃ w4, w4 = w2.setCell ⟨w.heap.size + 1, 3, none⟩ (.int .i64 M) := ⟨_, rfl⟩
      rw [← hw4]
      have HL4 : Hid (LBox w4 (w.heap.size + 1) { m with unt := M }) := Lib.hid (by rw [hw4]; exact HL2.out.store 3 _ rfl)
      have HZ4 : Hid (LBox w4 (w.heap.size + 1 + 1) zeroL) := Lib.hid (by rw [hw4]; exact HZ2.out.other (a := ⟨w.heap.size + 1, 3, none⟩) (Nat.succ_ne_self _) _)
      have HB4 : Hid (Below w.heap.size w w4) := Lib.hid (by rw [hw4]; exact (HB.out.trans (HB2.out.mono HB.out.size)).setCell (p := ⟨w.heap.size + 1, 3, none⟩) (Nat.le_succ _) _)
      clear k3 f3 c0 c1 c2 l3 l4 hmx hw4
      have k6 := HL4.out.c6
      have f6 := HL4.out.free 6
      go_wp2_with fail
      refine (HBO.out _).mono ?_
      rintro e w' ⟨rfl, rfl⟩
      go_upto_region 4 with fail
      obtain ⟨w6, hw6⟩ : ∃ w6, w6 = w4.setCell ⟨w.heap.size + 1, 6, none⟩ (.int .i64 mn) := ⟨_, rfl⟩
      rw [← hw6]
      have HL6 : Hid (LBox w6 (w.heap.size + 1) { m with unt := M, at_ := mn }) := Lib.hid (by rw [hw6]; exact HL4.out.store 6 _ rfl)
      have HZ6 : Hid (LBox w6 (w.heap.size + 1 + 1) zeroL) := Lib.hid (by rw [hw6]; exact HZ4.out.other (a := ⟨w.heap.size + 1, 6, none⟩) (Nat.succ_ne_self _) _)
      have HB6 : Hid (Below w.heap.size w w6) := Lib.hid (by rw [hw6]; exact HB4.out.setCell (p := ⟨w.heap.size + 1, 6, none⟩) (Nat.le_succ _) _)
      clear k6 f6 hw6
      obtain ⟨l0, l1, l2, l3, l4, l5, l6, l7⟩ := HL6.out.all
      obtain ⟨z0, z1, z2, z3, z4, z5, z6, z7⟩ := HZ6.out.all
      obtain ⟨e0, e1, e2, e3, e4, e5, e6, e7⟩ := HZ6.out.allF
      go_wp2
      exact rlease_end (W := storeL w6 (w.heap.size + 1 + 1) { m with unt := M, at_ := mn }) (storeL_box HZ6.out _) (HB6.out.trans (storeL_low w6 _ _ (by omega) _)) rfl
  · have HU := Lib.hid (fun V => NC.runtil_any a b c now want 0 V)
    rw [hq]
    generalize NC.untV b now want 0 = u at *
    clear hq hm
    obtain ⟨q, hq⟩ : ∃ q : LV, q = ⟨m.addr, 2, cb.data.toList, u, 0, 0, mn, m.ver⟩ := ⟨_, rfl⟩
    rw [← hq]
    have EQ : Hid (q.addr = m.addr ∧ q.bind = 2 ∧ q.cb = cb ∧ q.unt = u ∧ q.acked = 0 ∧ q.told = 0 ∧ q.at_ = mn ∧ q.ver = m.ver) := Lib.hid (by rw [hq]; exact ⟨rfl, rfl, by unfold LV.cb; simp, rfl, rfl, rfl, rfl, rfl⟩)
    have N1 : Hid (w.heap.size < w.heap.size + 1 + 1) := Lib.hid (by omega)
    have N2 : Hid (w.heap.size + 1 < w.heap.size + 1 + 1) := Lib.hid (by omega)
    clear hq
    by_cases hb : m.bind = 2
    all_goals
      first
      | (have t1 : (m.bind == 2) = true := (by simp [hb]); have t2 := h1 hb)
      | have t1 : (m.bind == 2) = false := by simpa using hb
      clear h1 hb
      obtain ⟨c0, c1, c2⟩ := HR.out.all
      go_enter Tryz.func92, Tryz.ntmps92
      go_upto_region 1 with fail
      rw [← HW0.out]
      go_upto_region 5 with fail
      have k0 : w0.drew.cell? ⟨w.heap.size, 0, none⟩ = some (.int .i64 a) := c0
      have k1 : w0.drew.cell? ⟨w.heap.size, 1, none⟩ = some (.int .i64 b) := c1
      have k2 : w0.drew.cell? ⟨w.heap.size, 2, none⟩ = some (.int .i64 c) := c2
      have k3 : w0.drew.cell? ⟨w.heap.size + 1, 0, none⟩ = some (.int .u32 (m.addr : Int)) := l0
      have k4 : w0.drew.cell? ⟨w.heap.size + 1, 7, none⟩ = some (.int .i64 m.ver) := l7
      clear c0 c1 c2 l0 l1 l2 l3 l4 l5 l6 l7
      go_region_held3 (fun w' => w'.cell? ⟨w.heap.size, 0, none⟩ = some (.int .i64 a) ∧ w'.cell? ⟨w.heap.size, 1, none⟩ = some (.int .i64 b) ∧ w'.cell? ⟨w.heap.size, 2, none⟩ = some (.int .i64 c) ∧ w'.cell? ⟨w.heap.size + 1, 0, none⟩ = some (.int .u32 (m.addr : Int)) ∧ w'.cell? ⟨w.heap.size + 1, 7, none⟩ = some (.int .i64 m.ver)) (first | (with_reducible exact rz) | go_keep) (first
        | (go_at_call 141; (with_reducible refine (HBO.out _).mono ?_); rintro e w' ⟨rfl, rfl⟩)
        | (go_at_call 135; (with_reducible refine (HU.out _).mono ?_); rintro e w2 ⟨rfl, hb2⟩; have HZ2 := Lib.hid (LBox.later (w := w0.drew) HZ.out hb2); have HB2 := Lib.hid (HB.out.drew.trans (hb2.mono HB.out.size)); have j0 := (hb2.cell (block_lt_of_cell k0)).trans k0; have j1 := (hb2.cell (block_lt_of_cell k1)).trans k1; have j2 := (hb2.cell (block_lt_of_cell k2)).trans k2; have j3 := (hb2.cell (block_lt_of_cell k3)).trans k3; have j4 := (hb2.cell (block_lt_of_cell k4)).trans k4; have rz : (storeL w2 (w.heap.size + 1 + 1) q).cell? ⟨w.heap.size, 0, none⟩ = some (.int .i64 a) ∧ (storeL w2 (w.heap.size + 1 + 1) q).cell? ⟨w.heap.size, 1, none⟩ = some (.int .i64 b) ∧ (storeL w2 (w.heap.size + 1 + 1) q).cell? ⟨w.heap.size, 2, none⟩ = some (.int .i64 c) ∧ (storeL w2 (w.heap.size + 1 + 1) q).cell? ⟨w.heap.size + 1, 0, none⟩ = some (.int .u32 (m.addr : Int)) ∧ (storeL w2 (w.heap.size + 1 + 1) q).cell? ⟨w.heap.size + 1, 7, none⟩ = some (.int .i64 m.ver) := ⟨((storeL_low w2 _ _ (Nat.le_refl _) q).cell N1.out).trans j0, ((storeL_low w2 _ _ (Nat.le_refl _) q).cell N1.out).trans j1, ((storeL_low w2 _ _ (Nat.le_refl _) q).cell N1.out).trans j2, ((storeL_low w2 _ _ (Nat.le_refl _) q).cell N2.out).trans j3, ((storeL_low w2 _ _ (Nat.le_refl _) q).cell N2.out).trans j4⟩; obtain ⟨e1, e2, e3, e4, e5, e6, e7, e8⟩ := EQ.out; unfold storeL at rz; rw [e1, e2, e3, e4, e5, e6, e7, e8] at rz; clear e1 e2 e3 e4 e5 e6 e7 e8; clear hb2; obtain ⟨z0, z1, z2, z3, z4, z5, z6, z7⟩ := HZ2.out.all; obtain ⟨f0, f1, f2, f3, f4, f5, f6, f7⟩ := HZ2.out.allF))
      all_goals
        clear rz z0 z1 z2 z3 z4 z5 z6 z7 f0 f1 f2 f3 f4 f5 f6 f7 j0 j1 j2 j3 j4
        go_wp2
        have hW : storeL w2 (w.heap.size + 1 + 1) q = ((((((((w2.setCell ⟨w.heap.size + 1 + 1, 0, none⟩ (.int .u32 (m.addr : Int))).setCell ⟨w.heap.size + 1 + 1, 1, none⟩ (.int .i64 2)).setCell ⟨w.heap.size + 1 + 1, 2, none⟩ (.string cb)).setCell ⟨w.heap.size + 1 + 1, 3, none⟩ (.int .i64 u)).setCell ⟨w.heap.size + 1 + 1, 4, none⟩ (.int .i64 0)).setCell ⟨w.heap.size + 1 + 1, 5, none⟩ (.int .i64 0)).setCell ⟨w.heap.size + 1 + 1, 6, none⟩ (.int .i64 mn)).setCell ⟨w.heap.size + 1 + 1, 7, none⟩ (.int .i64 m.ver)) := by
          obtain ⟨e1, e2, e3, e4, e5, e6, e7, e8⟩ := EQ.out
          unfold storeL
          rw [e1, e2, e3, e4, e5, e6, e7, e8]
        rw [← hW]
        exact rlease_end (storeL_box HZ2.out _) (HB2.out.trans (storeL_low w2 _ _ (by omega) _)) rfl
end Go.Proofs.YtmaohnbddlccdaaGreat
