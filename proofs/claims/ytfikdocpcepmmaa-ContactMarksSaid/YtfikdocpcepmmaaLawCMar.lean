/- The law ContactMarks. -/
import Derived.Test.YtfikdocpcepmmaaConS
namespace Go.Proofs.Ytfikdocpcepmmaa
open Go.RowKit Go.Sort

theorem take_life (c : ConV) (m : MsgV) (now : Int) : (c.take m now).1.life = c.life ∧ (c.take m now).1.said = c.said := by
  unfold ConV.take
  split
  · split
    · split
      · exact ⟨rfl, rfl⟩
      · split
        · exact ⟨rfl, rfl⟩
        · exact ⟨rfl, rfl⟩
    · exact ⟨rfl, rfl⟩
  · exact ⟨rfl, rfl⟩
theorem tick_life (c : ConV) (now : Int) : (c.tick now).1.life = c.life ∧ (c.tick now).1.said = c.said ∧ (c.tick now).1.known = c.known ∧ (c.tick now).1.heard = c.heard := by
  unfold ConV.tick
  split
  · split
    · exact ⟨rfl, rfl, rfl, rfl⟩
    · exact ⟨rfl, rfl, rfl, rfl⟩
  · exact ⟨rfl, rfl, rfl, rfl⟩
theorem step_life {c : ConV} {s : StpV} (h : ¬ s.do_ = 2) : (stepC c s).life = c.life ∧ (stepC c s).said = c.said := by
  unfold stepC
  split
  · exact take_life _ _ _
  · split
    · exact ⟨(tick_life _ _).1, (tick_life _ _).2.1⟩
    · exact ⟨rfl, rfl⟩
theorem hello_no {c : ConV} {n : Int} (_ : c.said < 1073741824) (hn : ¬ (0 ≤ n ∧ n ≤ 8)) : c.hello n = (c, zeroM, 1) := by
  unfold ConV.hello
  rw [if_neg hn]
theorem hello_yes {c : ConV} {n : Int} (hc : c.said < 1073741824) (hn : 0 ≤ n ∧ n ≤ 8) : c.hello n = ({ c with said := c.said + 1 }, c.hm n, 0) := by
  unfold ConV.hello
  rw [if_pos hn, if_neg (by omega)]

set_option maxRecDepth 100000 in
set_option maxHeartbeats 4000000 in
theorem law_cmarks (life : Int) (A : Option Addr) (c : Nat) (L : List StpV) (w : World)
    (hE : El ElemS w w.heap.size A L) (ha : ∀ x ∈ L, x.m.addr < 4294967296) :
    Calls Try.prog 6 #[.int .i64 life, .slice A L.length c] w fun e w' => e = .returned (.bool true) ∧ Below w.heap.size w w' := by
  have HA := Lib.hid (fun V => cawake_any V)
  have HE := Lib.hid hE
  have H32 := Lib.hid ha
  clear hE ha
  go_enter Try.func6, Try.ntmps6
  go_wp2_with fail
  refine (HA.out _).mono ?_
  rintro e w1 ⟨rfl, hb1⟩
  have HB1 := Lib.hid hb1
  clear hb1
  by_cases hl : 1 ≤ life ∧ life ≤ 536870912
  rotate_left
  · go_wp2_with fail
    refine (pnew_no life hl _).mono ?_
    rintro e w2 ⟨rfl, hb2⟩
    have HB2 := Lib.hid (HB1.out.trans (hb2.mono HB1.out.size))
    clear hb2 hl
    go_wp2
    go_ret
    exact ⟨rfl, HB2.out⟩
  go_wp2_with fail
  refine (pnew_ok life hl.1 hl.2 _).mono ?_
  rintro e w2 ⟨g, rfl, hp2, hb2, hg2⟩
  have HP2 := Lib.hid hp2
  have HB2 := Lib.hid (HB1.out.trans (hb2.mono HB1.out.size))
  have HG2 := Lib.hid (Nat.le_trans HB1.out.size hg2)
  clear hp2 hb2 hg2
  go_wp2_with fail
  refine (rnew_ok life hl.1 hl.2 _).mono ?_
  rintro e w3 ⟨r, rfl, hp3, hb3, hg3⟩
  have HC3 : Hid (CarP w w3 g r (newC life) (newC life)) := Lib.hid ⟨CAt.later HP2.out hb3, hp3, HB2.out.trans (hb3.mono HB2.out.size), HG2.out, Nat.le_trans HB2.out.size hg3⟩
  clear hp3 hb3 hg3 hl
  go_wp2
  go_loopw [10, 11] (fun n i wr => ∃ (j : Nat) (k : Nat) (a : ConV), i = .int .i64 j ∧ n = .int .i64 k ∧ j ≤ L.length ∧ j ≤ 100 ∧ k ≤ j ∧ Hid (CarP w wr g r a a) ∧ Hid (a.Ok ∧ a.life = life ∧ a.said = (k : Int))) (fun _ i _ => 100 - (intOf i).toNat)
  case atStart => exact ⟨0, 0, newC life, rfl, rfl, Nat.zero_le _, by omega, Nat.le_refl _, HC3, Lib.hid ⟨new_okC life, rfl, rfl⟩⟩
  case round =>
    clear HC3
    obtain ⟨j, k, a, rfl, rfl, hj, hj2, hk, HC, HI⟩ := hrel
    by_cases hgo : j < L.length ∧ j < 100
    · obtain ⟨hlt, h100⟩ := hgo
      have hg : decide ((j : Int) < (L.length : Int)) = true := by simp; omega
      have hg2 : decide ((j : Int) < 100) = true := by simp; omega
      obtain ⟨x, hx⟩ : ∃ x, L[j]? = some x := ⟨_, List.getElem?_eq_getElem hlt⟩
      have HX := Lib.hid (H32.out x (List.mem_of_getElem? hx))
      have HXA : Hid (∀ W, Below w.heap.size w W → ∃ b o, A = some ⟨b, o, none⟩ ∧ SAt W b (o + j * 14) x) := Lib.hid (fun W hb => by
        obtain ⟨b, o, h1, _, h2⟩ := (HE.out.below hb).at14 j x hx
        exact ⟨b, o, h1, h2⟩)
      clear hx
      obtain ⟨b, o, rfl, a0, a1, a2, a3, a4, a5, a6, a7, a8, a9, a10, a11, a12, a13⟩ := HXA.out wr HC.out.low
      have HXB : Hid (∀ W, Below w.heap.size w W → SAt W b (o + j * 14) x) := Lib.hid (fun W hb => by
        obtain ⟨b', o', h1, h2⟩ := HXA.out W hb
        injection h1 with h1
        injection h1 with h3 h4
        subst h3 h4
        exact h2)
      by_cases hcl : x.m.client.size ≤ 200
      rotate_left
      · go_wp2
        go_ret
        exact ⟨rfl, HC.out.low⟩
      by_cases h2 : x.do_ = 2
      rotate_left
      · have t2 : (x.do_ != 2) = true := by simpa using h2
        have H1 := Lib.hid (cstep_any x HX.out HI.out.1 HC.out)
        obtain ⟨d, hd⟩ : ∃ d, d = stepC a x := ⟨_, rfl⟩
        have HD : Hid (d.Ok ∧ d.life = life ∧ d.said = (k : Int)) := Lib.hid (by
          rw [hd]
          obtain ⟨q1, q2⟩ := step_life (c := a) h2
          exact ⟨step_okC HI.out.1 x, q1.trans HI.out.2.1, q2.trans HI.out.2.2⟩)
        rw [← hd] at H1
        clear hd h2
        go_wp2_with fail
        refine H1.out.mono ?_
        rintro e w4 ⟨rfl, hc4⟩
        have HC4 := Lib.hid hc4
        clear hc4 a0 a1 a2 a3 a4 a5 a6 a7 a8 a9 a10 a11 a12 a13
        go_wp2
        go_roundw
        case rel => exact ⟨j + 1, k, d, by go_num, rfl, by omega, by omega, by omega, HC4, HD⟩
        case measure => simp [intOf]; omega
      have t2 : (x.do_ != 2) = false := by simp [h2]
      have hsd : a.said < 1073741824 := by have := HI.out.2.2; omega
      have H1 := Lib.hid (phello_any x.n HI.out.1 HC.out.p)
      have H2 := Lib.hid (fun V (h : RAt V r a) => rhello_any x.n HI.out.1 h)
      by_cases hn : 0 ≤ x.n ∧ x.n ≤ 8
      rotate_left
      · rw [hello_no hsd hn] at H1 H2
        obtain ⟨zm, hzm⟩ : ∃ zm, zm = zeroM := ⟨_, rfl⟩
        rw [← hzm] at H1 H2
        clear hzm hsd h2 hn
        go_wp2_with fail
        refine H1.out.mono ?_
        rintro e w4 ⟨rfl, hp4, hw4⟩
        have HC4 := Lib.hid (HC.out.fst hp4 hw4)
        clear hp4 hw4 a0 a1 a2 a3 a4 a5 a6 a7 a8 a9 a10 a11 a12 a13
        obtain ⟨w5, hw5⟩ : ∃ w5, w5 = w4.alloc (mbox zm) := ⟨_, rfl⟩
        have hb5 : Below w4.heap.size w4 w5 := by rw [hw5]; exact (Below.refl _ _).alloc (Nat.le_refl _) _
        have HC5 := Lib.hid (HC4.out.later hb5)
        have HW5 := Lib.hid hw5
        clear hw5 hb5
        go_upto_region 15 with fail
        rw [alloc_m _ zm, ← HW5.out]
        obtain ⟨a0, a1, a2, a3, a4, a5, a6, a7, a8, a9, a10, a11, a12, a13⟩ := HXB.out w5 HC5.out.low
        go_wp2_with fail
        refine (H2.out _ HC5.out.d).mono ?_
        rintro e w6 ⟨rfl, hp6, hw6⟩
        have HC6 := Lib.hid (HC5.out.snd hp6 hw6)
        clear hp6 hw6 a0 a1 a2 a3 a4 a5 a6 a7 a8 a9 a10 a11 a12 a13
        go_wp2
        go_roundw
        case rel => exact ⟨j + 1, k, a, by go_num, rfl, by omega, by omega, by omega, HC6, HI⟩
        case measure => simp [intOf]; omega
      rw [hello_yes hsd hn] at H1 H2
      obtain ⟨d, hd⟩ : ∃ d, d = ({ a with said := a.said + 1 } : ConV) := ⟨_, rfl⟩
      obtain ⟨m, hm⟩ : ∃ m, m = a.hm x.n := ⟨_, rfl⟩
      rw [← hd, ← hm] at H1 H2
      have HD : Hid (d.Ok ∧ d.life = life ∧ d.said = ((k + 1 : Nat) : Int)) := Lib.hid (by
        have h1 := hello_okC HI.out.1 x.n
        rw [hello_yes hsd hn] at h1
        rw [hd]
        exact ⟨h1, HI.out.2.1, by show a.said + 1 = _; rw [HI.out.2.2]; omega⟩)
      have q1 : (m.xid != (k : Int) + 1) = false := by
        rw [hm]
        show (a.said + 1 != (k : Int) + 1) = false
        rw [HI.out.2.2]; simp
      have q2 : (m.life != life) = false := by
        rw [hm]
        show (a.life != life) = false
        rw [HI.out.2.1]; simp
      have q3 : (m.seen != d.known) = false := by
        rw [hm, hd]
        show (a.known != a.known) = false
        simp
      have q4 : (m.state != x.n) = false := by
        rw [hm]
        show (x.n != x.n) = false
        simp
      have q5 : (m.kind != 1) = false := by rw [hm]; rfl
      clear hd hm hsd h2 hn
      go_wp2_with fail
      refine H1.out.mono ?_
      rintro e w4 ⟨rfl, hp4, hw4⟩
      have HC4 := Lib.hid (HC.out.fst hp4 hw4)
      clear hp4 hw4 a0 a1 a2 a3 a4 a5 a6 a7 a8 a9 a10 a11 a12 a13
      obtain ⟨w5, hw5⟩ : ∃ w5, w5 = w4.alloc (mbox m) := ⟨_, rfl⟩
      have hb5 : Below w4.heap.size w4 w5 := by rw [hw5]; exact (Below.refl _ _).alloc (Nat.le_refl _) _
      have HM5 := Lib.hid (show MBox w5 w4.heap.size m by rw [hw5]; exact MBox.new w4 m)
      have HC5 := Lib.hid (HC4.out.later hb5)
      have HW5 := Lib.hid hw5
      clear hw5 hb5
      go_upto_region 15 with fail
      rw [alloc_m _ m, ← HW5.out]
      obtain ⟨a0, a1, a2, a3, a4, a5, a6, a7, a8, a9, a10, a11, a12, a13⟩ := HXB.out w5 HC5.out.low
      go_wp2_with fail
      refine (H2.out _ HC5.out.d).mono ?_
      rintro e w6 ⟨rfl, hp6, hw6⟩
      have HC6 := Lib.hid (HC5.out.snd hp6 hw6)
      have HM6 := Lib.hid (HM5.out.way' hw6 (MBox.ne_r HM5.out HC5.out.d))
      clear hp6 hw6 a0 a1 a2 a3 a4 a5 a6 a7 a8 a9 a10 a11 a12 a13
      obtain ⟨a0, a1, a2, a3, a4, a5, a6, a7, a8, a9, a10, a11, a12, a13⟩ := HXB.out w6 HC6.out.low
      have HDR : Hid (∀ n, CarP w (w6.drewN n) g r d d) := Lib.hid (fun n => HC6.out.later ⟨rfl, rfl, rfl, Nat.le_refl _, fun _ _ => rfl⟩)
      have HO := Lib.hid (fun n => same_flip (pother_any (HDR.out n).p))
      obtain ⟨b0, b1, b2, b3, b4, b5, b6, b7, b8, b9, b10⟩ := HM6.out.all
      go_upto_region 18 with fail
      go_quiet ((go_at_call 12; with_reducible exact Calls.quiet_of_same (HO.out _)))
      have HC7 := Lib.hid (HDR.out nq)
      clear a0 a1 a2 a3 a4 a5 a6 a7 a8 a9 a10 a11 a12 a13 b0 b1 b2 b3 b4 b5 b6 b7 b8 b9 b10
      go_wp2
      go_roundw
      case rel => exact ⟨j + 1, k + 1, d, by go_num, by go_num, by omega, by omega, by omega, HC7, HD⟩
      case measure => simp [intOf]; omega
    · obtain ⟨m, hm⟩ : ∃ m, m = a.mark (MsgV.mk 4 77 0 0 0 0 0 ⟨#[]⟩ 0 0 false) := ⟨_, rfl⟩
      have H1 := Lib.hid (pmark_any (MsgV.mk 4 77 0 0 0 0 0 ⟨#[]⟩ 0 0 false) HC.out.p)
      rw [← hm] at H1
      have q1 : (m.life == life) = true := by
        rw [hm]
        show (a.life == life) = true
        rw [HI.out.2.1]; simp
      have q2 : (m.seen == a.known) = true := by
        rw [hm]
        show (a.known == a.known) = true
        simp
      have q3 : (m.kind == 4) = true := by rw [hm]; rfl
      clear hm
      by_cases hlt : j < L.length
      · have hg : decide ((j : Int) < (L.length : Int)) = true := by simp; omega
        have hg2 : decide ((j : Int) < 100) = false := by simp; omega
        go_wp2_with fail
        refine H1.out.mono ?_
        rintro e w4 ⟨rfl, hb4⟩
        have HC4 := Lib.hid (HC.out.later hb4)
        clear hb4
        obtain ⟨w5, hw5⟩ : ∃ w5, w5 = w4.alloc (mbox m) := ⟨_, rfl⟩
        have hb5 : Below w4.heap.size w4 w5 := by rw [hw5]; exact (Below.refl _ _).alloc (Nat.le_refl _) _
        have HM5 := Lib.hid (show MBox w5 w4.heap.size m by rw [hw5]; exact MBox.new w4 m)
        have HC5 := Lib.hid (HC4.out.later hb5)
        have HW5 := Lib.hid hw5
        clear hw5 hb5
        have HDR : Hid (∀ n, CarP w (w5.drewN n) g r a a) := Lib.hid (fun n => HC5.out.later ⟨rfl, rfl, rfl, Nat.le_refl _, fun _ _ => rfl⟩)
        have HO := Lib.hid (fun n => same_flip (pother_any (HDR.out n).p))
        obtain ⟨b0, b1, b2, b3, b4, b5, b6, b7, b8, b9, b10⟩ := HM5.out.all
        go_upto_region 21 with fail
        rw [alloc_m _ m, ← HW5.out]
        go_quiet ((go_at_call 12; with_reducible exact Calls.quiet_of_same (HO.out _)))
        go_wp2
        go_ret
        exact ⟨rfl, (HDR.out nq).low⟩
      · have hg : decide ((j : Int) < (L.length : Int)) = false := decide_eq_false (by omega)
        go_wp2_with fail
        refine H1.out.mono ?_
        rintro e w4 ⟨rfl, hb4⟩
        have HC4 := Lib.hid (HC.out.later hb4)
        clear hb4
        obtain ⟨w5, hw5⟩ : ∃ w5, w5 = w4.alloc (mbox m) := ⟨_, rfl⟩
        have hb5 : Below w4.heap.size w4 w5 := by rw [hw5]; exact (Below.refl _ _).alloc (Nat.le_refl _) _
        have HM5 := Lib.hid (show MBox w5 w4.heap.size m by rw [hw5]; exact MBox.new w4 m)
        have HC5 := Lib.hid (HC4.out.later hb5)
        have HW5 := Lib.hid hw5
        clear hw5 hb5
        have HDR : Hid (∀ n, CarP w (w5.drewN n) g r a a) := Lib.hid (fun n => HC5.out.later ⟨rfl, rfl, rfl, Nat.le_refl _, fun _ _ => rfl⟩)
        have HO := Lib.hid (fun n => same_flip (pother_any (HDR.out n).p))
        obtain ⟨b0, b1, b2, b3, b4, b5, b6, b7, b8, b9, b10⟩ := HM5.out.all
        go_upto_region 21 with fail
        rw [alloc_m _ m, ← HW5.out]
        go_quiet ((go_at_call 12; with_reducible exact Calls.quiet_of_same (HO.out _)))
        go_wp2
        go_ret
        exact ⟨rfl, (HDR.out nq).low⟩
end Go.Proofs.Ytfikdocpcepmmaa
