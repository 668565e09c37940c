/- The law OutboxScripts, over any box and record (BoxK, SeenK). -/
import Derived.Test.YtekladmddfibaaaBoxS
import Derived.Deep.DeepCutAuto
namespace Go.Proofs.Ytekladmddfibaaa
open Go.RowKit Go.Sort

set_option maxRecDepth 100000 in
set_option maxHeartbeats 4000000 in
theorem law_oscripts {T : World → (Nat → Prop) → Nat → BxV → Prop} {U : World → (Nat → Prop) → Nat → List NtV → Prop} (K : BoxK T) (KS : SeenK U) (A : Option Addr) (c : Nat) (L : List StpV) (w : World)
    (hE : El ElemS w w.heap.size A L) (ha : ∀ x ∈ L, x.m.addr < 4294967296) :
    Calls Try.prog 3 #[.slice A L.length c] w fun e w' => e = .returned (.bool true) ∧ Below w.heap.size w w' := by
  have HA := Lib.hid (fun V => oawake_any K KS V)
  have HK := Lib.hid K
  have HE := Lib.hid hE
  have H32 := Lib.hid ha
  clear K KS hE ha
  go_enter Try.func3, Try.ntmps3
  go_wp2_with fail
  refine (HA.out _).mono ?_
  rintro e w1 ⟨rfl, hb1⟩
  have HB1 := Lib.hid hb1
  clear hb1
  go_wp2_with fail
  refine (HK.out.new _).mono ?_
  rintro e w2 ⟨Q2, g, rfl, hu2, hb2, hq2⟩
  have HU2 := Lib.hid hu2
  have HB2 := Lib.hid hb2
  have HQ2 := Lib.hid hq2
  clear hu2 hb2 hq2
  go_wp2_with fail
  refine (rnew_any _).mono ?_
  rintro e w3 ⟨QD, r, rfl, ⟨vL, vW, hd3, -, rfl⟩, hb3, hs3⟩
  have HC3 : Hid (CarB T w w3 Q2 g r vL vW newB) := Lib.hid ⟨HK.out.later HU2.out hb3, hd3, (HB1.out.trans (HB2.out.mono HB1.out.size)).trans (hb3.mono (Nat.le_trans HB1.out.size HB2.out.size)), fun b hb => Nat.le_trans HB1.out.size (HQ2.out b hb), fun b hb => Nat.le_trans (Nat.le_trans HB1.out.size HB2.out.size) (hs3 b hb), fun b hb hs => by have := HK.out.lt HU2.out b hb; have := hs3 b hs; omega⟩
  clear hd3 hb3 hs3
  go_wp2
  go_loopw [6] (fun i wr => ∃ (j : Nat) (Q : Nat → Prop) (vL vW : Value) (B : BxV), i = .int .i64 j ∧ j ≤ L.length ∧ j ≤ 200 ∧ Hid (CarB T w wr Q g r vL vW B)) (fun i _ => 200 - (intOf i).toNat)
  case atStart => exact ⟨0, Q2, vL, vW, newB, rfl, Nat.zero_le _, by omega, HC3⟩
  case round =>
    clear HC3
    obtain ⟨j, Q, vL, vW, B, rfl, hj, hj2, HC⟩ := hrel
    by_cases hlt : j < L.length
    · have hg : decide ((j : Int) < (L.length : Int)) = true := by simp; omega
      by_cases h200 : j < 200
      · have hg2 : decide ((j : Int) < 200) = true := by simp; omega
        obtain ⟨x, hx⟩ : ∃ x, L[j]? = some x := ⟨_, List.getElem?_eq_getElem hlt⟩
        have HX := Lib.hid (H32.out x (List.mem_of_getElem? hx))
        have HXA : Hid (∀ W, Below w.heap.size w W → ∃ b o, A = some ⟨b, o, none⟩ ∧ SAt W b (o + j * 13) x) := Lib.hid (fun W hb => by
          obtain ⟨b, o, h1, _, h2⟩ := (HE.out.below hb).at13 j x hx
          exact ⟨b, o, h1, h2⟩)
        clear hx
        obtain ⟨b, o, rfl, a0, a1, a2, a3, a4, a5, a6, a7, a8, a9, a10, a11, a12⟩ := HXA.out wr HC.out.low
        have HXB : Hid (∀ W, Below w.heap.size w W → SAt W b (o + j * 13) x) := Lib.hid (fun W hb => by
          obtain ⟨b', o', h1, h2⟩ := HXA.out W hb
          injection h1 with h1
          injection h1 with h3 h4
          subst h3 h4
          exact h2)
        have H1 := Lib.hid (ostep_any HK.out x HX.out HC.out)
        by_cases hcl : x.m.client.size ≤ 200
        · go_wp2_with fail
          refine H1.out.mono ?_
          rintro e w4 ⟨rfl, Q4, vL4, vW4, hc4⟩
          have HC4 := Lib.hid hc4
          obtain ⟨B4, hB4⟩ : ∃ B4, B4 = stepB B x := ⟨_, rfl⟩
          rw [← hB4] at HC4
          have hok := HK.out.ok HC4.out.t
          obtain ⟨n1, hn1⟩ : ∃ n1 : Int, n1 = ((B4.len : Nat) : Int) := ⟨_, rfl⟩
          obtain ⟨n2, hn2⟩ : ∃ n2 : Int, n2 = B4.xid := ⟨_, rfl⟩
          obtain ⟨t3, ht3⟩ : ∃ t3, t3 = B4.busy x.m.addr := ⟨_, rfl⟩
          have CL := Lib.hid (fun d os => Calls.regrown_of (HK.out.len (HK.out.later HC4.out.t (below_regrown _ d os))))
          have CRL := Lib.hid (fun d os => Calls.regrown_of ((rlen_any (HC4.out.d.later (below_regrown _ d os)) hok).mono fun e w' ⟨he, hw⟩ => ⟨he, (by rw [hw]; exact Below.refl _ _)⟩))
          have CX := Lib.hid (fun d os => Calls.regrown_of (HK.out.last (HK.out.later HC4.out.t (below_regrown _ d os))))
          have CB := Lib.hid (fun d os => Calls.regrown_of (HK.out.busy x.m.addr HX.out (HK.out.later HC4.out.t (below_regrown _ d os))))
          have CRB := Lib.hid (fun d os => Calls.regrown_of ((rbusy_any x.m.addr (HC4.out.d.later (below_regrown _ d os)) hok).mono fun e w' ⟨he, hw⟩ => ⟨he, (by rw [hw]; exact Below.refl _ _)⟩))
          rw [← hn1] at CL CRL
          rw [← hn2] at CX
          rw [← ht3] at CB CRB
          have xr := cell_regrown HC4.out.d.xid
          rw [← hn2] at xr
          obtain ⟨-, -, -, -, -, -, -, y7, -⟩ := HXB.out w4 HC4.out.low
          have yr := cell_regrown y7
          have e1 : (n1 != n1) = false := by simp
          have e2 : (n2 != n2) = false := by simp
          have e3 : (t3 != t3) = false := by simp
          clear a0 a1 a2 a3 a4 a5 a6 a7 a8 a9 a10 a11 a12 hc4 hB4 hok hn1 hn2 ht3 y7
          go_upto_region 12 with fail
          refine wp_region_quiet_below (by kernel_rfl) (by kernel_rfl) ?_
          repeat (quiet_step (first | (go_at_call 12; exact CL.out _ _) | (go_at_call 13; exact CRL.out _ _) | (go_at_call 14; exact CX.out _ _) | (go_at_call 15; exact CB.out _ _) | (go_at_call 16; exact CRB.out _ _)))
          refine wpQuiet_nil ?_
          intro _ hw'
          obtain ⟨⟨dq, osq⟩, hw''⟩ := hw'
          subst hw''
          have HC5 := Lib.hid (HC4.out.later HK.out (below_regrown _ dq osq))
          go_wp2
          go_roundw
          case rel => exact ⟨j + 1, Q4, vL4, vW4, B4, by go_num, by omega, by omega, HC5⟩
          case measure => simp [intOf]; omega
        · have hcl2 : (200 : Int) < (x.m.client.size : Int) := by omega
          go_wp2
          go_ret
          exact ⟨rfl, HC.out.low⟩
      · have hg2 : decide ((j : Int) < 200) = false := by simp; omega
        go_wp2
        go_ret
        exact ⟨rfl, HC.out.low⟩
    · have hg : decide ((j : Int) < (L.length : Int)) = false := by simp; omega
      go_wp2
      go_ret
      exact ⟨rfl, HC.out.low⟩
end Go.Proofs.Ytekladmddfibaaa
