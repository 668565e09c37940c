/- The program's contact: Hello, Take, Tick. -/
import Derived.Test.YtfikdocpcepmmaaConB
namespace Go.Proofs.Ytfikdocpcepmmaa
open Go.RowKit Go.Sort

theorem Way.kpM {Q : Nat → Prop} {w W : World} {z : Nat} (h : Way Q w Q W) (hz : w.heap.size ≤ z) (q : MsgV) : Way Q w Q (storeM W z q) := by
  have hk := storeM_kp W z q
  exact ⟨⟨hk.os.trans h.oth.os, hk.tape.trans h.oth.tape, hk.output.trans h.oth.output, Nat.le_trans h.oth.size hk.size, fun b hb hq => (hk.block b (by show b ≠ z; omega)).trans (h.oth.block b hb hq)⟩, h.new⟩
theorem CAt.kpM {t : TypeId} {W : World} {g z : Nat} {cs : Array Value} (h : CAt t W g cs) (hz : g ≠ z) (q : MsgV) : CAt t (storeM W z q) g cs := ((storeM_kp W z q).block g hz).trans h

/-- How Hello ends. -/
theorem phello_end {W : World} {g : Nat} {m0 q : MsgV} {k : Int} {t : Array Value} {P : World → Prop} (hz : MBox W g m0) (hP : P (storeM W g q)) (h4 : t[4]?.getD undef = .pointer (some ⟨g, 0, none⟩)) (h5 : t[5]?.getD undef = .int .i64 k) :
    bodyPost Try.prog Try.f14 (fun e w' => e = .returned (.tuple #[q.v, .int .i64 k]) ∧ P w') .ret { tmps := t, defers := [] } (storeM W g q) := by
  refine bodyPost_ret (v := .tuple #[q.v, .int .i64 k]) ?_ ?_ ⟨rfl, hP⟩
  · obtain ⟨r0, r1, r2, r3, r4, r5, r6, r7, r8, r9, r10⟩ := (storeM_box hz q).all
    simp [results, Try.f14, go_sem, h4, h5, r0, r1, r2, r3, r4, r5, r6, r7, r8, r9, r10]
  · rfl

set_option maxRecDepth 100000 in
set_option maxHeartbeats 2000000 in
theorem phello_any {w : World} {g : Nat} {c : ConV} (n : Int) (hok : c.Ok) (h : PAt w g c) : Calls Try.prog 14 #[ptrV g, .int .i64 n] w fun e w' => e = .returned (.tuple #[(c.hello n).2.1.v, .int .i64 (c.hello n).2.2]) ∧ PAt w' g (c.hello n).1 ∧ Way (One g) w (One g) w' := by
  obtain ⟨w1, hw1⟩ : ∃ w1, w1 = w.alloc (mbox zeroM) := ⟨_, rfl⟩
  have hB1 : Below w.heap.size w w1 := by rw [hw1]; exact (Below.refl _ _).alloc (Nat.le_refl _) _
  have HZ : Hid (MBox w1 w.heap.size zeroM) := Lib.hid (by rw [hw1]; exact MBox.new w zeroM)
  have HP := Lib.hid (CAt.later h hB1)
  have HB := Lib.hid (Way.of_below (Q := One g) hB1)
  have HGN := Lib.hid (ne_pm HP.out HZ.out)
  have HW1 := Lib.hid hw1
  have hs0 := hok.s0
  have hs1 := hok.s1
  have HR1 : ¬ (0 ≤ n ∧ n ≤ 8) → Hid (c.hello n = (c, zeroM, 1)) := fun e => Lib.hid (by unfold ConV.hello; rw [if_neg e])
  have HR2 : (0 ≤ n ∧ n ≤ 8) → c.said = 1073741824 → Hid (c.hello n = (c, zeroM, 3)) := fun e e2 => Lib.hid (by unfold ConV.hello; rw [if_pos e, if_pos e2])
  have HR3 : (0 ≤ n ∧ n ≤ 8) → ¬ c.said = 1073741824 → Hid (c.hello n = ({ c with said := c.said + 1 }, c.hm n, 0)) := fun e e2 => Lib.hid (by unfold ConV.hello; rw [if_pos e, if_neg e2])
  have HE1 : Hid (PAt (storeM w1 w.heap.size zeroM) g c ∧ Way (One g) w (One g) (storeM w1 w.heap.size zeroM)) := Lib.hid ⟨HP.out.kpM HGN.out _, HB.out.kpM (Nat.le_refl _) _⟩
  clear hw1 hB1 h hok
  obtain ⟨z0, z1, z2, z3, z4, z5, z6, z7, z8, z9, z10⟩ := HZ.out.all
  have hf : ∀ i, w1.frozen? ⟨w.heap.size, i, none⟩ = false := fun i => HZ.out.free i
  have g0 := hf 0
  have g1 := hf 1
  have g2 := hf 2
  have g3 := hf 3
  have g4 := hf 4
  have g5 := hf 5
  have g6 := hf 6
  have g7 := hf 7
  have g8 := hf 8
  have g9 := hf 9
  have g10 := hf 10
  obtain ⟨c0, c1, c2, c3, c4, c5, c6⟩ := PAt.all HP.out
  go_enter Try.func14, Try.ntmps14
  go_upto_region 1 with fail
  rw [show ∀ V : World, V.alloc (.cells #[.int .i64 0, .int .i64 0, .int .i64 0, .int .i64 0, .int .i64 0, .int .u32 0, .int .i64 0, .string ⟨#[]⟩, .int .i64 0, .int .i64 0, .bool false] 34) = V.alloc (mbox zeroM) from fun _ => rfl, ← HW1.out]
  by_cases h1 : n < 0
  · have HR := HR1 (by omega)
    clear HR1 HR2 HR3
    go_wp2
    rw [HR.out]
    exact phello_end (W := w1) (q := zeroM) HZ.out HE1.out rfl rfl
  by_cases h2 : 8 < n
  · have HR := HR1 (by omega)
    clear HR1 HR2 HR3
    go_wp2
    rw [HR.out]
    exact phello_end (W := w1) (q := zeroM) HZ.out HE1.out rfl rfl
  by_cases h3 : c.said = 1073741824
  · have HR := HR2 (by omega) h3
    have e3 : (c.said == 1073741824) = true := by simp [h3]
    clear HR1 HR2 HR3 h3
    go_wp2
    rw [HR.out]
    exact phello_end (W := w1) (q := zeroM) HZ.out HE1.out rfl rfl
  have HR := HR3 (by omega) h3
  have e3 : (c.said == 1073741824) = false := by simpa using h3
  clear HR1 HR2 HR3
  obtain ⟨c', hc'⟩ : ∃ c', c' = ({ c with said := c.said + 1 } : ConV) := ⟨_, rfl⟩
  obtain ⟨q, hq⟩ : ∃ q, q = c.hm n := ⟨_, rfl⟩
  rw [← hc', ← hq] at HR
  obtain ⟨w2, hw2⟩ : ∃ w2, w2 = w1.setCell ⟨g, 4, none⟩ (.int .i64 (c.said + 1)) := ⟨_, rfl⟩
  have HP2 : Hid (PAt w2 g c') := Lib.hid (by rw [hw2, hc']; exact HP.out.store 4 _)
  have HZ2 : Hid (MBox w2 w.heap.size zeroM) := Lib.hid (by rw [hw2]; exact HZ.out.other (fun e => HGN.out e.symm) _)
  have HB2 : Hid (Way (One g) w (One g) w2) := Lib.hid (by rw [hw2]; exact HB.out.trans (way_set w1 g 4 _ rfl))
  have HM : Hid (Calls Try.prog 15 #[ptrV g, (MsgV.mk 1 0 0 (c.said + 1) n 0 0 ⟨#[]⟩ 0 0 false).v] w2 fun e w' => e = .returned q.v ∧ Below w2.heap.size w2 w') := Lib.hid (by
    have := pmark_any (MsgV.mk 1 0 0 (c.said + 1) n 0 0 ⟨#[]⟩ 0 0 false) HP2.out
    rw [hq]
    rw [hc'] at this
    exact this)
  have k4 : w2.cell? ⟨g, 4, none⟩ = some (.int .i64 (c.said + 1)) := by
    have := CAt.at_ HP2.out 4
    rw [hc'] at this
    exact this
  have HW2 := Lib.hid hw2
  have f4 := HP.out.free 4
  have hlt : c.said < 1073741824 := by omega
  clear hw2 hc' hq h3
  go_upto_region 6 with fail
  rw [← HW2.out]
  clear c0 c1 c2 c3 c4 c5 c6 z0 z1 z2 z3 z4 z5 z6 z7 z8 z9 z10 g0 g1 g2 g3 g4 g5 g6 g7 g8 g9 g10 hf f4
  go_wp2_with fail
  refine HM.out.mono ?_
  rintro e w3 ⟨rfl, hb3⟩
  have HZ3 := Lib.hid (HZ2.out.later hb3)
  have HE3 : Hid (PAt (storeM w3 w.heap.size q) g c' ∧ Way (One g) w (One g) (storeM w3 w.heap.size q)) := Lib.hid ⟨(CAt.later HP2.out hb3).kpM HGN.out _, (HB2.out.trans (Way.of_below hb3)).kpM (Nat.le_refl _) _⟩
  clear hb3 k4
  obtain ⟨z0, z1, z2, z3, z4, z5, z6, z7, z8, z9, z10⟩ := HZ3.out.all
  have hf : ∀ i, w3.frozen? ⟨w.heap.size, i, none⟩ = false := fun i => HZ3.out.free i
  have g0 := hf 0
  have g1 := hf 1
  have g2 := hf 2
  have g3 := hf 3
  have g4 := hf 4
  have g5 := hf 5
  have g6 := hf 6
  have g7 := hf 7
  have g8 := hf 8
  have g9 := hf 9
  have g10 := hf 10
  go_wp2
  rw [HR.out]
  exact phello_end (W := w3) (q := q) HZ3.out HE3.out rfl rfl

set_option maxRecDepth 100000 in
set_option maxHeartbeats 2000000 in
theorem ptick_any {w : World} {g : Nat} {c : ConV} (now : Int) (hok : c.Ok) (h : PAt w g c) : Calls Try.prog 17 #[ptrV g, .int .i64 now] w fun e w' => e = .returned (.tuple #[.bool (c.tick now).2.1, .int .i64 (c.tick now).2.2]) ∧ PAt w' g (c.tick now).1 ∧ Way (One g) w (One g) w' := by
  have HM := Lib.hid (moment_any now w)
  have ha0 := hok.a0
  have ha1 := hok.a1
  have HP := Lib.hid h
  obtain ⟨T, hT⟩ : ∃ T, T = c.tick now := ⟨_, rfl⟩
  rw [← hT]
  have hT' := hT
  unfold ConV.tick at hT'
  obtain ⟨c0, c1, c2, c3, c4, c5, c6⟩ := PAt.all HP.out
  have f6 := HP.out.free 6
  clear hT hok h
  go_enter Try.func17, Try.ntmps17
  cases ht : inTime now
  · rw [ht, if_neg (by decide)] at hT'
    rw [ht] at HM
    have HT := Lib.hid hT'
    clear hT' ht
    go_wp2_with fail
    refine HM.out.mono ?_
    rintro e w' ⟨rfl, rfl⟩
    go_wp2
    go_ret2
    rw [HT.out]
    exact ⟨rfl, HP.out, Way.refl _ _⟩
  · obtain ⟨t1, t2⟩ := (inTime_iff now).1 ht
    rw [ht, if_pos rfl] at hT'
    rw [ht] at HM
    cases hu : c.up
    · rw [hu] at hT' c6
      have HT : Hid (T = (c, false, 0)) := Lib.hid hT'
      clear hT' ht hu
      go_wp2_with fail
      refine HM.out.mono ?_
      rintro e w' ⟨rfl, rfl⟩
      go_wp2
      go_ret2
      rw [HT.out]
      exact ⟨rfl, HP.out, Way.refl _ _⟩
    · rw [hu, Bool.true_and] at hT'
      rw [hu] at c6
      by_cases h6 : now - c.at_ < 6
      · rw [decide_eq_false (by omega), if_neg (by decide)] at hT'
        have HT : Hid (T = (c, false, 0)) := Lib.hid hT'
        clear hT' ht hu
        go_wp2_with fail
        refine HM.out.mono ?_
        rintro e w' ⟨rfl, rfl⟩
        go_wp2
        go_ret2
        rw [HT.out]
        exact ⟨rfl, HP.out, Way.refl _ _⟩
      · rw [decide_eq_true (by omega), if_pos rfl] at hT'
        have HT : Hid (T = ({ c with up := false }, true, 0)) := Lib.hid hT'
        clear hT' ht hu
        go_wp2_with fail
        refine HM.out.mono ?_
        rintro e w' ⟨rfl, rfl⟩
        go_wp2
        go_ret2
        rw [HT.out]
        exact ⟨rfl, HP.out.store 6 _, way_set w g 6 _ rfl⟩
end Go.Proofs.Ytfikdocpcepmmaa
