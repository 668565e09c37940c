/- lease.times, lease.Right. -/
import Derived.Test.YtlbgkpkfjaggkaaLeaB
namespace Go.Proofs.Ytlbgkpkfjaggkaa
open Go.RowKit Go.Sort
attribute [local go_sem ↓] run_eqlL run_neqL run_guardL

abbrev tptr (g i : Nat) : Value := .pointer (some ⟨g, i, none⟩)
/-- Where a lease's four times and its Ver lie. -/
abbrev timesV (g : Nat) : Value := .agg #[tptr g 3, tptr g 4, tptr g 5, tptr g 6, tptr g 7]

set_option maxRecDepth 100000 in
set_option maxHeartbeats 1000000 in
theorem times_any (g : Nat) (w : World) : Calls Try.prog 32 #[.pointer (some ⟨g, 0, none⟩)] w fun e w' => e = .returned (timesV g) ∧ Below w.heap.size w w' := by
  go_enter Try.func32, Try.ntmps32
  go_upto_region 1 with fail
  go_region
  go_wp2
  refine bodyPost_ret (v := timesV g) ?_ ?_ ?_
  · simp [results, Try.f32, go_sem]
  · rfl
  · exact ⟨rfl, ((Below.refl _ w).alloc (Nat.le_refl _) _).drew⟩

theorem run_idx (cs : Array Value) (i : Nat) (u : Value) (h : i < 5) (hu : cs[i]? = some u) (W : World) : (Instr.index 48 (.agg cs) (.int .i64 (i : Int))).run Try.prog W = .ok u W := by
  obtain ⟨x, hx, hz⟩ := Option.map_eq_some_iff.1 (show (Try.prog.info? 47).map (fun i => i.size) = some 1 by kernel_rfl)
  have h6' : 0 ≤ (i : Int) ∧ (i : Int) < ((5 : Nat) : Int) := ⟨by omega, by omega⟩
  simp only [Instr.index, asIntOf, Sem.run_bind, Sem.run_pure, Result.andThen_ok, run_underlying Try.underlying48, if_pos h6', sizeOf, typeInfo, run_program, hx, hz]
  simp [Go.part, isAgg, run_underlying Try.underlying47, hu]

/-- The four times and Ver. -/
def T5 (m : LV) : List Int := [m.unt, m.acked, m.told, m.at_, m.ver]
theorem T5_at (m : LV) (j : Nat) (hj : j < 5) : ∃ t, (T5 m)[j]? = some t ∧ (∀ W g, LBox W g m → W.cell? ⟨g, 3 + j, none⟩ = some (.int .i64 t)) ∧ ∀ g W, (Instr.index 48 (timesV g) (.int .i64 (j : Int))).run Try.prog W = .ok (tptr g (3 + j)) W := by
  match j, hj with
  | 0, _ => exact ⟨m.unt, rfl, fun W g h => h.c3, fun g W => run_idx _ 0 _ (by omega) rfl W⟩
  | 1, _ => exact ⟨m.acked, rfl, fun W g h => h.c4, fun g W => run_idx _ 1 _ (by omega) rfl W⟩
  | 2, _ => exact ⟨m.told, rfl, fun W g h => h.c5, fun g W => run_idx _ 2 _ (by omega) rfl W⟩
  | 3, _ => exact ⟨m.at_, rfl, fun W g h => h.c6, fun g W => run_idx _ 3 _ (by omega) rfl W⟩
  | 4, _ => exact ⟨m.ver, rfl, fun W g h => h.c7, fun g W => run_idx _ 4 _ (by omega) rfl W⟩
theorem right_T5 {m : LV} (h : RightL m) : ∀ t ∈ T5 m, TimeL t := by
  intro t ht
  simp only [T5, List.mem_cons, List.not_mem_nil, or_false] at ht
  rcases ht with rfl | rfl | rfl | rfl | rfl
  · exact h.unt
  · exact h.acked
  · exact h.told
  · exact h.at_
  · exact h.ver
theorem right_bare {m : LV} (ht : ∀ t ∈ T5 m, TimeL t) (hb : m.bind = 0 ∨ m.bind = 1 ∨ m.bind = 5) : decide (m = bareL m.addr m.bind m.ver) = decide (RightL m) := by
  rw [decide_eq_decide]
  constructor
  · intro h
    rw [h]
    exact (bare_right _ _ _).2 ⟨hb, ht m.ver (by simp [T5])⟩
  · intro h
    have hn : ¬ HeldL m.bind := by unfold HeldL; omega
    obtain ⟨h1, h2, h3, h4, h5⟩ := h.bare hn
    obtain ⟨a, b, cl, u, ac, to_, at_, ve⟩ := m
    simp only at h1 h2 h3 h4 h5
    subst h1 h2 h3 h4 h5
    rfl
theorem right_held {m : LV} (ht : ∀ t ∈ T5 m, TimeL t) (hb : m.bind = 2 ∨ m.bind = 3 ∨ m.bind = 4) : decide (RightL m) = decide (1 ≤ m.client.length ∧ m.client.length ≤ 32) := by
  rw [decide_eq_decide]
  have hh : HeldL m.bind := hb
  constructor
  · intro h; exact h.held hh
  · intro h
    exact ⟨by omega, by omega, ht _ (by simp [T5]), ht _ (by simp [T5]), ht _ (by simp [T5]), ht _ (by simp [T5]), ht _ (by simp [T5]), fun _ => h, fun hn => absurd hh hn⟩
theorem right_other {m : LV} (hb : ¬ (m.bind = 0 ∨ m.bind = 1 ∨ m.bind = 2 ∨ m.bind = 3 ∨ m.bind = 4 ∨ m.bind = 5)) : decide (RightL m) = false := by
  rw [decide_eq_false_iff_not]
  intro h
  have := h.b0
  have := h.b1
  omega

set_option maxRecDepth 100000 in
set_option maxHeartbeats 4000000 in
theorem right_any (m : LV) (w : World) :
    Calls Try.prog 25 #[m.v] w fun e w' => e = .returned (.bool (decide (RightL m))) ∧ Below w.heap.size w w' := by
  obtain ⟨w0, hw0⟩ : ∃ w0, w0 = w.alloc (lbox m) := ⟨_, rfl⟩
  have HX : Hid (LBox w0 w.heap.size m) := Lib.hid (by rw [hw0]; exact LBox.new w m)
  have HB0 : Hid (Below w.heap.size w w0) := Lib.hid (by rw [hw0]; exact (Below.refl _ _).alloc (Nat.le_refl _) _)
  have HW0 := Lib.hid hw0
  clear hw0
  go_enter Try.func25, Try.ntmps25
  go_wp2_with fail
  rw [← HW0.out]
  refine (times_any _ _).mono ?_
  rintro e w1 ⟨rfl, hB1⟩
  have HX1 := Lib.hid (HX.out.later hB1)
  have HB1 := Lib.hid (HB0.out.trans (hB1.mono HB0.out.size))
  clear hB1
  go_wp2
  go_loop [4, 6] (fun _ i => ∃ j : Nat, j ≤ 5 ∧ i = .int .i64 j ∧ Hid (∀ t ∈ (T5 m).take j, TimeL t)) (fun _ i => 5 - (intOf i).toNat)
  case atStart => exact ⟨0, Nat.zero_le _, rfl, Lib.hid (by simp)⟩
  case round =>
    obtain ⟨j, hj, rfl, HT⟩ := hrel
    by_cases hlt : j < 5
    · obtain ⟨t, htj, hcell, hidx⟩ := T5_at m j hlt
      have ct := hcell w1 w.heap.size HX1.out
      have hix := hidx w.heap.size
      have HTJ := Lib.hid htj
      clear htj hcell hidx
      by_cases h0 : t < 0
      · have hd : decide (t < 0) = true := decide_eq_true h0
        have HR : Hid (decide (RightL m) = false) := Lib.hid (decide_eq_false fun h => by have := (right_T5 h t (List.mem_of_getElem? HTJ.out)).1; omega)
        go_wp2
        go_ret
        rw [HR.out]
        exact ⟨rfl, HB1.out⟩
      · have hd : decide (t < 0) = false := decide_eq_false h0
        by_cases h1 : 1099511627776 < t
        · have hd1 : decide (1099511627776 < t) = true := decide_eq_true h1
          have HR : Hid (decide (RightL m) = false) := Lib.hid (decide_eq_false fun h => by have := (right_T5 h t (List.mem_of_getElem? HTJ.out)).2; omega)
          clear h0 h1
          go_wp2
          go_ret
          rw [HR.out]
          exact ⟨rfl, HB1.out⟩
        · have hd1 : decide (1099511627776 < t) = false := decide_eq_false h1
          have HN : Hid (∀ t ∈ (T5 m).take (j + 1), TimeL t) := Lib.hid (by
            intro t' ht'
            rw [take_snoc_of _ _ _ HTJ.out, List.mem_append, List.mem_singleton] at ht'
            rcases ht' with h | rfl
            · exact HT.out _ h
            · exact ⟨by omega, by omega⟩)
          clear h0 h1
          go_wp2
          go_round
          case rel => exact ⟨j + 1, by omega, by go_num, HN⟩
          case measure => simp [intOf]; omega
    · obtain rfl : j = 5 := by omega
      have HT5 : Hid (∀ t ∈ T5 m, TimeL t) := HT
      have hcs : (m.cb.size : Int) = (m.client.length : Int) := by rw [m.cb_size]
      by_cases hb : m.bind = 0 ∨ m.bind = 1 ∨ m.bind = 5
      · have HR := Lib.hid (right_bare HT5.out hb)
        obtain ⟨q, hq⟩ : ∃ q, q = bareL m.addr m.bind m.ver := ⟨_, rfl⟩
        have CB : Hid (∀ d os, _) := Lib.hid (fun d os => Calls.regrown_of (show Calls Try.prog 19 #[.int .u32 (m.addr : Int), .int .i64 m.bind, .int .i64 m.ver] (grow (redrawn w1 d) os) fun e w' => e = .returned q.v ∧ Below (grow (redrawn w1 d) os).heap.size (grow (redrawn w1 d) os) w' by rw [hq]; exact bare_any m.addr m.bind m.ver (grow (redrawn w1 d) os)))
        rw [← hq] at HR
        have HQ := Lib.hid ((eqL_of m q).trans HR.out)
        have c1 := HX1.out.c1
        obtain ⟨k0, k1, k2, k3, k4, k5, k6, k7⟩ := HX1.out.allR
        clear hq
        rcases hb with hb | hb | hb
        rotate_left
        · have t0 : (m.bind == 0) = false := by rw [hb]; rfl
          have t1 : (m.bind == 1) = true := by rw [hb]; rfl
          clear hb
          go_wp2_with fail
          refine wp_region_quiet_below (by kernel_rfl) (by kernel_rfl) ?_
          repeat (quiet_step ((go_at_call 19; exact CB.out _ _)))
          refine wpQuiet_nil ?_
          intro _ hw'
          obtain ⟨⟨dq, osq⟩, hw''⟩ := hw'
          subst hw''
          go_wp2
          go_ret
          rw [HQ.out]
          exact ⟨rfl, HB1.out.trans ((below_regrown w1 dq osq).mono HB1.out.size)⟩
        · have t0 : (m.bind == 0) = false := by rw [hb]; rfl
          have t1 : (m.bind == 1) = false := by rw [hb]; rfl
          have t5 : (m.bind == 5) = true := by rw [hb]; rfl
          clear hb
          go_wp2_with fail
          refine wp_region_quiet_below (by kernel_rfl) (by kernel_rfl) ?_
          repeat (quiet_step ((go_at_call 19; exact CB.out _ _)))
          refine wpQuiet_nil ?_
          intro _ hw'
          obtain ⟨⟨dq, osq⟩, hw''⟩ := hw'
          subst hw''
          go_wp2
          go_ret
          rw [HQ.out]
          exact ⟨rfl, HB1.out.trans ((below_regrown w1 dq osq).mono HB1.out.size)⟩
        · have t0 : (m.bind == 0) = true := by rw [hb]; rfl
          clear hb
          go_wp2_with fail
          refine wp_region_quiet_below (by kernel_rfl) (by kernel_rfl) ?_
          repeat (quiet_step ((go_at_call 19; exact CB.out _ _)))
          refine wpQuiet_nil ?_
          intro _ hw'
          obtain ⟨⟨dq, osq⟩, hw''⟩ := hw'
          subst hw''
          go_wp2
          go_ret
          rw [HQ.out]
          exact ⟨rfl, HB1.out.trans ((below_regrown w1 dq osq).mono HB1.out.size)⟩
      · have t0 : (m.bind == 0) = false := by simp; omega
        have t1 : (m.bind == 1) = false := by simp; omega
        have t5 : (m.bind == 5) = false := by simp; omega
        by_cases hb2 : m.bind = 2 ∨ m.bind = 3 ∨ m.bind = 4
        · have HR := Lib.hid (right_held HT5.out hb2)
          have c1 := HX1.out.c1
          have c2 := HX1.out.c2
          by_cases hl1 : 1 ≤ m.client.length
          · have hd : decide ((1 : Int) ≤ (m.cb.size : Int)) = true := by simp; omega
            have HF : Hid (decide (1 ≤ m.client.length ∧ m.client.length ≤ 32) = decide ((m.cb.size : Int) ≤ 32)) := Lib.hid (by rw [decide_eq_decide]; omega)
            rcases hb2 with hb2 | hb2 | hb2
            · have t2 : (m.bind == 2) = true := by rw [hb2]; rfl
              clear hb hb2 hl1 hcs
              go_wp2
              go_ret
              rw [HR.out, HF.out]
              exact ⟨rfl, HB1.out⟩
            · have t2 : (m.bind == 2) = false := by rw [hb2]; rfl
              have t3 : (m.bind == 3) = true := by rw [hb2]; rfl
              clear hb hb2 hl1 hcs
              go_wp2
              go_ret
              rw [HR.out, HF.out]
              exact ⟨rfl, HB1.out⟩
            · have t2 : (m.bind == 2) = false := by rw [hb2]; rfl
              have t3 : (m.bind == 3) = false := by rw [hb2]; rfl
              have t4 : (m.bind == 4) = true := by rw [hb2]; rfl
              clear hb hb2 hl1 hcs
              go_wp2
              go_ret
              rw [HR.out, HF.out]
              exact ⟨rfl, HB1.out⟩
          · have hd : decide ((1 : Int) ≤ (m.cb.size : Int)) = false := by simp; omega
            have HF : Hid (decide (1 ≤ m.client.length ∧ m.client.length ≤ 32) = false) := Lib.hid (decide_eq_false (fun h => hl1 h.1))
            rcases hb2 with hb2 | hb2 | hb2
            · have t2 : (m.bind == 2) = true := by rw [hb2]; rfl
              clear hb hb2 hl1 hcs
              go_wp2
              go_ret
              rw [HR.out, HF.out]
              exact ⟨rfl, HB1.out⟩
            · have t2 : (m.bind == 2) = false := by rw [hb2]; rfl
              have t3 : (m.bind == 3) = true := by rw [hb2]; rfl
              clear hb hb2 hl1 hcs
              go_wp2
              go_ret
              rw [HR.out, HF.out]
              exact ⟨rfl, HB1.out⟩
            · have t2 : (m.bind == 2) = false := by rw [hb2]; rfl
              have t3 : (m.bind == 3) = false := by rw [hb2]; rfl
              have t4 : (m.bind == 4) = true := by rw [hb2]; rfl
              clear hb hb2 hl1 hcs
              go_wp2
              go_ret
              rw [HR.out, HF.out]
              exact ⟨rfl, HB1.out⟩
        · have HR := Lib.hid (right_other (m := m) (by omega))
          have t2 : (m.bind == 2) = false := by simp; omega
          have t3 : (m.bind == 3) = false := by simp; omega
          have t4 : (m.bind == 4) = false := by simp; omega
          have c1 := HX1.out.c1
          clear hb hb2
          go_wp2
          go_ret
          rw [HR.out]
          exact ⟨rfl, HB1.out⟩
end Go.Proofs.Ytlbgkpkfjaggkaa
