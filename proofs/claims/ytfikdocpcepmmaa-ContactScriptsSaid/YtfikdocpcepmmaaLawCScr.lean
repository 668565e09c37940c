/- The law ContactScripts. -/
import Derived.Test.YtfikdocpcepmmaaConS
namespace Go.Proofs.Ytfikdocpcepmmaa
open Go.RowKit Go.Sort

set_option maxRecDepth 100000 in
set_option maxHeartbeats 4000000 in
theorem law_cscripts (life : Int) (A : Option Addr) (c : Nat) (L : List StpV) (w : World)
    (hE : El ElemS w w.heap.size A L) (ha : ∀ x ∈ L, x.m.addr < 4294967296) :
    Calls Try.prog 3 #[.int .i64 life, .slice A L.length c] w fun e w' => e = .returned (.bool true) ∧ Below w.heap.size w w' := by
  have HA := Lib.hid (fun V => cawake_any V)
  have HE := Lib.hid hE
  have H32 := Lib.hid ha
  clear hE ha
  go_enter Try.func3, Try.ntmps3
  go_wp2_with fail
  refine (HA.out _).mono ?_
  rintro e w1 ⟨rfl, hb1⟩
  have HB1 := Lib.hid hb1
  clear hb1
  by_cases hl : 1 ≤ life ∧ life ≤ 536870912
  rotate_left
  · go_wp2_with fail
    refine (pnew_no life hl _).mono ?_
    rintro e w2 ⟨rfl, hb2⟩
    have HB2 := Lib.hid (HB1.out.trans (hb2.mono HB1.out.size))
    clear hb2
    go_wp2_with fail
    refine (rnew_no life hl _).mono ?_
    rintro e w3 ⟨rfl, hb3⟩
    have HB3 := Lib.hid (HB2.out.trans (hb3.mono HB2.out.size))
    clear hb3 hl
    go_wp2
    go_loopw [10] (fun i wr => i = .int .i64 0 ∧ wr = w3) (fun _ _ => 0)
    case atStart => exact ⟨rfl, rfl⟩
    case round =>
      obtain ⟨rfl, rfl⟩ := hrel
      by_cases h0 : 0 < L.length
      · have hg : decide ((0 : Int) < (L.length : Int)) = true := by simp; omega
        go_wp2
        go_ret
        exact ⟨rfl, HB3.out⟩
      · have hg : decide ((0 : Int) < (L.length : Int)) = false := decide_eq_false (by omega)
        go_wp2
        go_ret
        exact ⟨rfl, HB3.out⟩
  go_wp2_with fail
  refine (pnew_ok life hl.1 hl.2 _).mono ?_
  rintro e w2 ⟨g, rfl, hp2, hb2, hg2⟩
  have HP2 := Lib.hid hp2
  have HB2 := Lib.hid (HB1.out.trans (hb2.mono HB1.out.size))
  have HG2 := Lib.hid (Nat.le_trans HB1.out.size hg2)
  clear hp2 hb2 hg2
  go_wp2_with fail
  refine (rnew_ok life hl.1 hl.2 _).mono ?_
  rintro e w3 ⟨r, rfl, hp3, hb3, hg3⟩
  have HC3 : Hid (CarP w w3 g r (newC life) (newC life)) := Lib.hid ⟨CAt.later HP2.out hb3, hp3, HB2.out.trans (hb3.mono HB2.out.size), HG2.out, Nat.le_trans HB2.out.size hg3⟩
  clear hp3 hb3 hg3 hl
  go_wp2
  go_loopw [10] (fun i wr => ∃ (j : Nat) (a : ConV), i = .int .i64 j ∧ j ≤ L.length ∧ j ≤ 200 ∧ Hid (CarP w wr g r a a) ∧ Hid a.Ok) (fun i _ => 200 - (intOf i).toNat)
  case atStart => exact ⟨0, newC life, rfl, Nat.zero_le _, by omega, HC3, Lib.hid (new_okC life)⟩
  case round =>
    clear HC3
    obtain ⟨j, a, rfl, hj, hj2, HC, HOK⟩ := hrel
    by_cases hlt : j < L.length
    · have hg : decide ((j : Int) < (L.length : Int)) = true := by simp; omega
      by_cases h200 : j < 200
      · have hg2 : decide ((j : Int) < 200) = true := by simp; omega
        obtain ⟨x, hx⟩ : ∃ x, L[j]? = some x := ⟨_, List.getElem?_eq_getElem hlt⟩
        have HX := Lib.hid (H32.out x (List.mem_of_getElem? hx))
        obtain ⟨b, o, rfl, -, a0, a1, a2, a3, a4, a5, a6, a7, a8, a9, a10, a11, a12, a13⟩ := (HE.out.below HC.out.low).at14 j x hx
        have H1 := Lib.hid (cstep_any x HX.out HOK.out HC.out)
        clear hx
        by_cases hcl : x.m.client.size ≤ 200
        · go_wp2_with fail
          refine H1.out.mono ?_
          rintro e w4 ⟨rfl, hc4⟩
          have HC4 := Lib.hid hc4
          have HOK4 := Lib.hid (step_okC HOK.out x)
          clear hc4
          obtain ⟨d, hd⟩ : ∃ d, d = stepC a x := ⟨_, rfl⟩
          rw [← hd] at HC4 HOK4
          have HD : Hid (∀ n, CarP w (w4.drewN n) g r d d) := Lib.hid (fun n => HC4.out.later ⟨rfl, rfl, rfl, Nat.le_refl _, fun _ _ => rfl⟩)
          have HU := Lib.hid (fun n => same_flip (pup_any (HD.out n).p))
          have HO := Lib.hid (fun n => same_flip (pother_any (HD.out n).p))
          have HS := Lib.hid (fun n => same_flip (pstate_any (HD.out n).p))
          obtain ⟨r0, r1, r2, r3, r4, r5, r6⟩ := RAt.all HC4.out.d
          have e1 : (d.up != d.up) = false := by simp
          have e2 : (d.known != d.known) = false := by simp
          have e3 : (d.s != d.s) = false := by simp
          clear hd a0 a1 a2 a3 a4 a5 a6 a7 a8 a9 a10 a11 a12 a13
          go_upto_region 12 with fail
          go_quiet (first | (go_at_call 11; with_reducible exact Calls.quiet_of_same (HU.out _)) | (go_at_call 12; with_reducible exact Calls.quiet_of_same (HO.out _)) | (go_at_call 13; with_reducible exact Calls.quiet_of_same (HS.out _)))
          have HC5 := Lib.hid (HD.out nq)
          clear r0 r1 r2 r3 r4 r5 r6
          go_wp2
          go_roundw
          case rel => exact ⟨j + 1, d, by go_num, by omega, by omega, HC5, HOK4⟩
          case measure => simp [intOf]; omega
        · go_wp2
          go_ret
          exact ⟨rfl, HC.out.low⟩
      · have hg2 : decide ((j : Int) < 200) = false := by simp; omega
        go_wp2
        go_ret
        exact ⟨rfl, HC.out.low⟩
    · have hg : decide ((j : Int) < (L.length : Int)) = false := by simp; omega
      go_wp2
      go_ret
      exact ⟨rfl, HC.out.low⟩
end Go.Proofs.Ytfikdocpcepmmaa
