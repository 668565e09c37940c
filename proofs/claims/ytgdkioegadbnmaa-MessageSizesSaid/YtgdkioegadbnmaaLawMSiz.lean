/- The law MessageSizes. -/
import Derived.Test.YtgdkioegadbnmaaMsgE
import Derived.BigQuiet
import Derived.Deep.QuietTactic
namespace Go.Proofs.Ytgdkioegadbnmaa
open Go.RowKit Go.Sort

theorem enc_first (m : MsgV) : (encM m)[0]? = some (UInt8.ofNat m.kind.toNat) := by simp [encM, be_one]
theorem run_tab (cs : Array Value) (i : Int) (u : Value) (h0 : 0 ≤ i) (h6 : i < 6) (hu : cs[i.toNat]? = some u) (W : World) : (Instr.index 38 (.agg cs) (.int .i64 i)).run Try.prog W = .ok u W := by
  obtain ⟨x, hx, hz⟩ := Option.map_eq_some_iff.1 (show (Try.prog.info? 3).map (fun i => i.size) = some 1 by kernel_rfl)
  have hp := run_partP 3 cs (i.toNat * 1) u W Try.underlying3 (.inr (.inr ⟨_, rfl⟩)) (by rw [Nat.mul_one]; exact hu)
  have h6' : 0 ≤ i ∧ i < ((6 : Nat) : Int) := ⟨h0, h6⟩
  simp only [Instr.index, asIntOf, Sem.run_bind, Sem.run_pure, Result.andThen_ok, run_underlying Try.underlying38, if_pos h6', sizeOf, typeInfo, run_program, hx, hz]
  exact hp
theorem below_drewN (w : World) (n : Nat) : Below w.heap.size w (w.drewN n) := ⟨rfl, rfl, rfl, Nat.le_refl _, fun _ _ => rfl⟩

set_option maxRecDepth 100000 in
set_option maxHeartbeats 2000000 in
theorem law_msizes (m : MsgV) (w : World) (ha : m.addr < 4294967296) :
    Calls Try.prog 8 #[m.v] w fun e w' => e = .returned (.bool true) ∧ Below w.heap.size w w' := by
  obtain ⟨w0, hw0⟩ : ∃ w0, w0 = w.alloc (mbox m) := ⟨_, rfl⟩
  have HX : Hid (MBox w0 w.heap.size m) := Lib.hid (by rw [hw0]; exact MBox.new w m)
  have HB0 : Hid (Below w.heap.size w w0) := Lib.hid (by rw [hw0]; exact (Below.refl _ _).alloc (Nat.le_refl _) _)
  have HW0 := Lib.hid hw0
  have HE := Lib.hid (fun W => encode_any m ha W)
  clear hw0
  by_cases hbig : 1000 < m.client.size
  · have hd : decide ((1000 : Int) < (m.client.size : Int)) = true := by simp; omega
    go_enter Try.func8, Try.ntmps8
    go_wp2_with fail
    rw [← HW0.out]
    refine (awake_any _).mono ?_
    rintro e w1 ⟨rfl, hB1⟩
    have c7 := (HX.out.later hB1).c7
    go_wp2
    go_ret
    exact ⟨rfl, HB0.out.trans (hB1.mono HB0.out.size)⟩
  · have hd : decide ((1000 : Int) < (m.client.size : Int)) = false := by simp; omega
    go_enter Try.func8, Try.ntmps8
    go_wp2_with fail
    rw [← HW0.out]
    refine (awake_any _).mono ?_
    rintro e w1 ⟨rfl, hB1⟩
    have HX1 := Lib.hid (HX.out.later hB1)
    have HB1 := Lib.hid (HB0.out.trans (hB1.mono HB0.out.size))
    obtain ⟨c0, c1, c2, c3, c4, c5, c6, c7, c8, c9, c10⟩ := HX1.out.all
    clear hB1
    go_wp2_with fail
    cases hr : rightM m
    · have hR : encR m = ([], 1) := by simp [encR, hr]
      simp only [hR] at HE
      clear hr hR
      refine (HE.out _).mono ?_
      rintro e w2 ⟨A2, k2, rfl, _, _, hB2⟩
      clear c0 c1 c2 c3 c4 c5 c6 c7 c8 c9 c10
      go_wp2
      go_ret
      exact ⟨by simp, HB1.out.trans (hB2.mono HB1.out.size)⟩
    · have hR : encR m = (encM m, 0) := by simp [encR, hr]
      have hRM := (right_iff m).1 hr
      have HL := Lib.hid (enc_length m)
      simp only [hR] at HE
      clear hr hR
      refine (HE.out _).mono ?_
      rintro e w2 ⟨A2, k2, rfl, hby, _, hB2⟩
      clear c0 c1 c2 c3 c4 c5 c6 c7 c8 c9 c10
      have HX2 := Lib.hid (HX1.out.later hB2)
      have HB2 := Lib.hid (HB1.out.trans (hB2.mono HB1.out.size))
      obtain ⟨b, o, rfl, hb, hc⟩ := hby.at_ 0 _ (enc_first m)
      obtain ⟨n, hn⟩ : ∃ n, n = (encM m).length := ⟨_, rfl⟩
      have hnl := HL.out
      rw [← hn] at hnl ⊢
      have hk : m.kind = 1 ∨ m.kind = 2 ∨ m.kind = 3 ∨ m.kind = 4 ∨ m.kind = 5 := by have := hRM.1; omega
      have c0 := HX2.out.c0
      have c7 := HX2.out.c7
      clear hby hB2 hb hn HL hRM HE
      rcases hk with hk | hk | hk | hk | hk
      · rw [hk] at c0 hc
        simp only [sizeM, hk, if_true, Int.reduceEq, if_false] at hnl
        simp only [Int.reduceToNat, Nat.add_zero] at hc
        have hi0 : 0 < n := by omega
        have htab : ∀ W, (Instr.index 38 (.agg #[.int .i64 0, .int .i64 14, .int .i64 (31 + (m.client.size : Int)), .int .i64 14, .int .i64 9, .int .i64 9]) (.int .i64 1)).run Try.prog W = .ok (.int .i64 14) W := fun W => run_tab _ _ _ (by decide) (by decide) rfl W
        have hs1 : m.client.size ≤ 1000 := by omega
        have hq : ((n : Int) == 14) = true := by rw [hnl]; simp
        clear hnl
        go_wp2
        go_quiet (fail)
        go_wp2
        go_ret
        exact ⟨by simp, HB2.out.trans ((below_drewN w2 nq).mono HB2.out.size)⟩
      · rw [hk] at c0 hc
        simp only [sizeM, hk, if_true, Int.reduceEq, if_false] at hnl
        simp only [Int.reduceToNat, Nat.add_zero] at hc
        have hi0 : 0 < n := by omega
        have htab : ∀ W, (Instr.index 38 (.agg #[.int .i64 0, .int .i64 14, .int .i64 (31 + (m.client.size : Int)), .int .i64 14, .int .i64 9, .int .i64 9]) (.int .i64 2)).run Try.prog W = .ok (.int .i64 (31 + (m.client.size : Int))) W := fun W => run_tab _ _ _ (by decide) (by decide) rfl W
        have hs1 : m.client.size ≤ 1000 := by omega
        have hq : ((n : Int) == (31 + (m.client.size : Int))) = true := by rw [hnl]; simp
        clear hnl
        go_wp2
        go_quiet (fail)
        go_wp2
        go_ret
        exact ⟨by simp, HB2.out.trans ((below_drewN w2 nq).mono HB2.out.size)⟩
      · rw [hk] at c0 hc
        simp only [sizeM, hk, if_true, Int.reduceEq, if_false] at hnl
        simp only [Int.reduceToNat, Nat.add_zero] at hc
        have hi0 : 0 < n := by omega
        have htab : ∀ W, (Instr.index 38 (.agg #[.int .i64 0, .int .i64 14, .int .i64 (31 + (m.client.size : Int)), .int .i64 14, .int .i64 9, .int .i64 9]) (.int .i64 3)).run Try.prog W = .ok (.int .i64 14) W := fun W => run_tab _ _ _ (by decide) (by decide) rfl W
        have hs1 : m.client.size ≤ 1000 := by omega
        have hq : ((n : Int) == 14) = true := by rw [hnl]; simp
        clear hnl
        go_wp2
        go_quiet (fail)
        go_wp2
        go_ret
        exact ⟨by simp, HB2.out.trans ((below_drewN w2 nq).mono HB2.out.size)⟩
      · rw [hk] at c0 hc
        simp only [sizeM, hk, Int.reduceEq, if_false] at hnl
        simp only [Int.reduceToNat, Nat.add_zero] at hc
        have hi0 : 0 < n := by omega
        have htab : ∀ W, (Instr.index 38 (.agg #[.int .i64 0, .int .i64 14, .int .i64 (31 + (m.client.size : Int)), .int .i64 14, .int .i64 9, .int .i64 9]) (.int .i64 4)).run Try.prog W = .ok (.int .i64 9) W := fun W => run_tab _ _ _ (by decide) (by decide) rfl W
        have hs1 : m.client.size ≤ 1000 := by omega
        have hq : ((n : Int) == 9) = true := by rw [hnl]; simp
        clear hnl
        go_wp2
        go_quiet (fail)
        go_wp2
        go_ret
        exact ⟨by simp, HB2.out.trans ((below_drewN w2 nq).mono HB2.out.size)⟩
      · rw [hk] at c0 hc
        simp only [sizeM, hk, Int.reduceEq, if_false] at hnl
        simp only [Int.reduceToNat, Nat.add_zero] at hc
        have hi0 : 0 < n := by omega
        have htab : ∀ W, (Instr.index 38 (.agg #[.int .i64 0, .int .i64 14, .int .i64 (31 + (m.client.size : Int)), .int .i64 14, .int .i64 9, .int .i64 9]) (.int .i64 5)).run Try.prog W = .ok (.int .i64 9) W := fun W => run_tab _ _ _ (by decide) (by decide) rfl W
        have hs1 : m.client.size ≤ 1000 := by omega
        have hq : ((n : Int) == 9) = true := by rw [hnl]; simp
        clear hnl
        go_wp2
        go_quiet (fail)
        go_wp2
        go_ret
        exact ⟨by simp, HB2.out.trans ((below_drewN w2 nq).mono HB2.out.size)⟩
end Go.Proofs.Ytgdkioegadbnmaa
