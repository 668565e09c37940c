/- The law PoolOne, walked. -/
import Derived.Test.YtiapmnedbjmmhaaPooK
import Derived.Test.YtiapmnedbjmmhaaTriM
namespace Go.Proofs.Ytiapmnedbjmmhaa
open Go.RowKit Go.Sort Flo
attribute [local go_sem] run_store_flt

set_option maxRecDepth 100000 in
set_option maxHeartbeats 4000000 in
theorem law_pone (K : PoolK) (p s : Nat) (y0 y1 : Int) (w : World) : Calls Try.prog 5 #[f2v p s, r2v y0 y1] w fun e w' => e = .returned (.bool true) ∧ Below w.heap.size w w' := by
  have HA := Lib.hid (fun V => pawake_any K V)
  have HP := Lib.hid (fun V => plans_any p s V)
  have HG := Lib.hid (fun id f b V => K.giv p s id f b V)
  have HO := Lib.hid (fun (h0 : 0 ≤ y0) (h1 : 0 ≤ y1) (h2 : y0 + y1 ≤ 1073741824) => giv_once p s h0 h1 h2)
  have H0 := Lib.hid (giv_range p s 0 y0 y1)
  have H1 := Lib.hid (giv_range p s 1 y0 y1)
  clear K
  obtain ⟨w0, hw0⟩ : ∃ w0, w0 = (w.alloc (f2box 23 p s)).alloc (r2box 24 y0 y1) := ⟨_, rfl⟩
  have HX : Hid (F2 23 w0 w.heap.size p s) := Lib.hid (by rw [hw0]; exact (F2.new w _ p s).alloc _)
  have HY : Hid (R2 24 w0 (w.heap.size + 1) y0 y1) := Lib.hid (by rw [hw0]; have h := R2.new (w.alloc (f2box 23 p s)) 24 y0 y1; rw [show (w.alloc (f2box 23 p s)).heap.size = w.heap.size + 1 by simp] at h; exact h)
  have HB : Hid (Below w.heap.size w w0) := Lib.hid (by rw [hw0]; exact ((Below.refl _ _).alloc (Nat.le_refl _) _).alloc (by simp) _)
  have HW0 := Lib.hid hw0
  clear hw0
  go_enter Try.func5, Try.ntmps5
  go_upto_region 1 with fail
  rw [← HW0.out]
  go_wp2_with fail
  refine (HA.out _).mono ?_
  rintro e w1 ⟨rfl, hb1⟩
  have HX1 := Lib.hid (HX.out.later hb1)
  have HY1 := Lib.hid (HY.out.later hb1)
  have HB1 := Lib.hid (HB.out.trans (hb1.mono HB.out.size))
  clear hb1 HX HY HB
  have x0 := HX1.out.c0
  have x1 := HX1.out.c1
  go_wp2_with fail
  refine (HP.out _).mono ?_
  rintro e w2 ⟨rfl, hb1⟩
  have HX2 := Lib.hid (HX1.out.later hb1)
  have HY2 := Lib.hid (HY1.out.later hb1)
  have HB2 := Lib.hid (HB1.out.trans (hb1.mono HB1.out.size))
  clear hb1 HX1 HY1 HB1
  clear x0 x1
  obtain ⟨w3, hw, hpa, hpd, hpb⟩ := layP_facts w2 p s
  have HX3 := Lib.hid (HX2.out.later hpb)
  have HY3 := Lib.hid (HY2.out.later hpb)
  have HB3 := Lib.hid (HB2.out.trans (hpb.mono HB2.out.size))
  have HPA3 := Lib.hid hpa
  have HPD3 := Lib.hid hpd
  have HWA := Lib.hid hw
  clear hw hpa hpd hpb HX2 HY2 HB2
  go_upto_region 3 with fail
  rw [← HWA.out]
  generalize w2.heap.size = gp at *
  clear HWA
  have cy0 := HY3.out.c0
  have cy1 := HY3.out.c1
  cases t1 : decide (y0 < 0)
  rotate_left
  · go_wp2
    go_ret
    exact ⟨rfl, HB3.out⟩
  cases t2 : decide (536870912 < y0)
  rotate_left
  · go_wp2
    go_ret
    exact ⟨rfl, HB3.out⟩
  cases t3 : decide (y1 < 0)
  rotate_left
  · go_wp2
    go_ret
    exact ⟨rfl, HB3.out⟩
  cases t4 : decide (536870912 < y1)
  rotate_left
  · go_wp2
    go_ret
    exact ⟨rfl, HB3.out⟩
  have hy0 : 0 ≤ y0 := by have := of_decide_eq_false t1; omega
  have hy1 : 0 ≤ y1 := by have := of_decide_eq_false t3; omega
  have hy2 : y0 + y1 ≤ 1073741824 := by have := of_decide_eq_false t2; have := of_decide_eq_false t4; omega
  have hq := HO.out hy0 hy1 hy2
  have h0 := H0.out
  have h1 := H1.out
  have G0 := Lib.hid (HG.out 0 y0 y1)
  have G1 := Lib.hid (HG.out 1 y0 y1)
  obtain ⟨f, hf⟩ : ∃ f, f = y0 - givV p s 0 y0 y1 + givV p s 1 y0 y1 := ⟨_, rfl⟩
  obtain ⟨b, hb⟩ : ∃ b, b = y1 + givV p s 0 y0 y1 - givV p s 1 y0 y1 := ⟨_, rfl⟩
  have G2 := Lib.hid (HG.out 0 f b)
  have G3 := Lib.hid (HG.out 1 f b)
  rw [← hf, ← hb] at hq
  obtain ⟨hq0, hq1, hq2⟩ := hq
  rw [hq1] at G2
  rw [hq2] at G3
  clear hq1 hq2 HO H0 H1
  generalize givV p s 0 y0 y1 = a at *
  generalize givV p s 1 y0 y1 = c at *
  obtain ⟨a0, _, a1, _⟩ := h0
  obtain ⟨c0, _, _, c1, _⟩ := h1
  have a1 := a1 (by first | trivial | rfl) hy0
  have c1 := c1 (by first | trivial | rfl) hy1
  have u1 : decide (a < 0) = false := decide_eq_false (by omega)
  have u2 : decide (y0 < a) = false := decide_eq_false (by omega)
  have u3 : decide (c < 0) = false := decide_eq_false (by omega)
  have u4 : decide (y1 < c) = false := decide_eq_false (by omega)
  have hway : decide (0 < a) = false ∨ (decide (0 < a) = true ∧ decide (0 < c) = false) := by
    by_cases h : 0 < a
    · exact .inr ⟨decide_eq_true h, decide_eq_false fun h2 => hq0 ⟨h, h2⟩⟩
    · exact .inl (decide_eq_false h)
  have e1 : y0 - a + c = f := hf.symm
  have e2 : y1 + a - c = b := hb.symm
  have HYS := Lib.hid (And.intro hy0 (And.intro hy1 (And.intro hy2 (And.intro a0 (And.intro a1 (And.intro c0 c1))))))
  clear hf hb hq0
  clear cy0 cy1
  have cy0 := HY3.out.c0
  have cy1 := HY3.out.c1
  have p0 := HPA3.out.c0
  have p1 := HPA3.out.c1
  go_wp2_with fail
  refine (G0.out _).mono ?_
  rintro e w4 ⟨rfl, hb1⟩
  have HX4 := Lib.hid (HX3.out.later hb1)
  have HY4 := Lib.hid (HY3.out.later hb1)
  have HPA4 := Lib.hid (HPA3.out.later hb1)
  have HPD4 := Lib.hid (HPD3.out.later hb1)
  have HB4 := Lib.hid (HB3.out.trans (hb1.mono HB3.out.size))
  clear hb1 HX3 HY3 HPA3 HPD3 HB3
  clear cy0 cy1 p0 p1
  have cy0 := HY4.out.c0
  have cy1 := HY4.out.c1
  have p0 := HPA4.out.c0
  have p1 := HPA4.out.c1
  go_wp2_with fail
  refine (G1.out _).mono ?_
  rintro e w5 ⟨rfl, hb1⟩
  have HX5 := Lib.hid (HX4.out.later hb1)
  have HY5 := Lib.hid (HY4.out.later hb1)
  have HPA5 := Lib.hid (HPA4.out.later hb1)
  have HPD5 := Lib.hid (HPD4.out.later hb1)
  have HB5 := Lib.hid (HB4.out.trans (hb1.mono HB4.out.size))
  clear hb1 HX4 HY4 HPA4 HPD4 HB4
  clear cy0 cy1 p0 p1
  have cy0 := HY5.out.c0
  have cy1 := HY5.out.c1
  have p0 := HPA5.out.c0
  have p1 := HPA5.out.c1
  rcases hway with u5 | ⟨u5, u6⟩
  · go_wp2_with fail
    refine (G2.out _).mono ?_
    rintro e w6 ⟨rfl, hb1⟩
    have HX6 := Lib.hid (HX5.out.later hb1)
    have HY6 := Lib.hid (HY5.out.later hb1)
    have HPA6 := Lib.hid (HPA5.out.later hb1)
    have HPD6 := Lib.hid (HPD5.out.later hb1)
    have HB6 := Lib.hid (HB5.out.trans (hb1.mono HB5.out.size))
    clear hb1 HX5 HY5 HPA5 HPD5 HB5
    clear p0 p1
    have p0 := HPA6.out.c0
    have p1 := HPA6.out.c1
    go_wp2_with fail
    refine (G3.out _).mono ?_
    rintro e w7 ⟨rfl, hb1⟩
    have HX7 := Lib.hid (HX6.out.later hb1)
    have HY7 := Lib.hid (HY6.out.later hb1)
    have HPA7 := Lib.hid (HPA6.out.later hb1)
    have HPD7 := Lib.hid (HPD6.out.later hb1)
    have HB7 := Lib.hid (HB6.out.trans (hb1.mono HB6.out.size))
    clear hb1 HX6 HY6 HPA6 HPD6 HB6
    go_wp2
    go_ret
    exact ⟨rfl, HB7.out⟩
  · go_wp2_with fail
    refine (G2.out _).mono ?_
    rintro e w6 ⟨rfl, hb1⟩
    have HX6 := Lib.hid (HX5.out.later hb1)
    have HY6 := Lib.hid (HY5.out.later hb1)
    have HPA6 := Lib.hid (HPA5.out.later hb1)
    have HPD6 := Lib.hid (HPD5.out.later hb1)
    have HB6 := Lib.hid (HB5.out.trans (hb1.mono HB5.out.size))
    clear hb1 HX5 HY5 HPA5 HPD5 HB5
    clear p0 p1
    have p0 := HPA6.out.c0
    have p1 := HPA6.out.c1
    go_wp2_with fail
    refine (G3.out _).mono ?_
    rintro e w7 ⟨rfl, hb1⟩
    have HX7 := Lib.hid (HX6.out.later hb1)
    have HY7 := Lib.hid (HY6.out.later hb1)
    have HPA7 := Lib.hid (HPA6.out.later hb1)
    have HPD7 := Lib.hid (HPD6.out.later hb1)
    have HB7 := Lib.hid (HB6.out.trans (hb1.mono HB6.out.size))
    clear hb1 HX6 HY6 HPA6 HPD6 HB6
    go_wp2
    go_ret
    exact ⟨rfl, HB7.out⟩
end Go.Proofs.Ytiapmnedbjmmhaa
