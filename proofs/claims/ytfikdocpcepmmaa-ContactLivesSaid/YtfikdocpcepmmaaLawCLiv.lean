/- The law ContactLives. (Written by wip/tools/genclb.py.) -/
import Derived.Test.YtfikdocpcepmmaaLivA0
import Derived.Test.YtfikdocpcepmmaaLivA1
import Derived.Test.YtfikdocpcepmmaaLivA2
import Derived.Deep.RegionWith
import Derived.BigRegion
import Derived.Deep.CutBlock
import Derived.Deep.DeepCutAuto
namespace Go.Proofs.Ytfikdocpcepmmaa
open Go.RowKit Go.Sort

set_option maxRecDepth 100000 in
set_option maxHeartbeats 16000000 in
theorem law_clives (A : Option Addr) (c : Nat) (L : List EvtV) (w : World) (hE : El ElemV w w.heap.size A L) :
    Calls Try.prog 4 #[.slice A L.length c] w fun e w' => e = .returned (.bool true) ∧ Below w.heap.size w w' := by
  have HA := Lib.hid (fun V => cawake_any V)
  have HNEW := Lib.hid (fun l h1 h2 W => pnew_ok l h1 h2 W)
  have HE := Lib.hid hE
  clear hE
  go_enter Try.func4, Try.ntmps4
  go_wp2_with fail
  refine (HA.out _).mono ?_
  rintro e w1 ⟨rfl, hb1⟩
  have HB1 := Lib.hid hb1
  clear hb1
  go_wp2_with fail
  refine (HNEW.out 1 (by decide) (by decide) _).mono ?_
  rintro e w2 ⟨g, rfl, hp2, hb2, hg2⟩
  have HP2 := Lib.hid hp2
  have HB2 := Lib.hid (HB1.out.trans (hb2.mono HB1.out.size))
  have HG2 := Lib.hid (Nat.le_trans HB1.out.size hg2)
  clear hp2 hb2 hg2
  go_wp2_with fail
  refine (HNEW.out 1 (by decide) (by decide) _).mono ?_
  rintro e w3 ⟨k, rfl, hp3, hb3, hg3⟩
  have HC3 : Hid (CarC w w3 g k (newC 1) (newC 1)) := Lib.hid ⟨CAt.later HP2.out hb3, hp3, by have := HP2.out.lt; omega, HB2.out.trans (hb3.mono HB2.out.size), HG2.out, Nat.le_trans HB2.out.size hg3⟩
  clear hp3 hb3 hg3
  obtain ⟨wxx, hwxx⟩ : ∃ wxx, wxx = w3.alloc (.cells #[ptrV g, ptrV k] tX) := ⟨_, rfl⟩
  have hbx : Below w3.heap.size w3 wxx := by rw [hwxx]; exact (Below.refl _ _).alloc (Nat.le_refl _) _
  have HBBx := Lib.hid hbx
  have HVx : Hid (CAt tX wxx w3.heap.size #[ptrV g, ptrV k]) := Lib.hid (by rw [hwxx]; exact CAt.new _ _ _)
  have HWx := Lib.hid hwxx
  clear hwxx hbx
  go_upto_region 7 with fail
  rw [← HWx.out]
  obtain ⟨wxl, hwxl⟩ : ∃ wxl, wxl = wxx.alloc (.cells #[i6 1, i6 1] tL) := ⟨_, rfl⟩
  have hbl : Below wxx.heap.size wxx wxl := by rw [hwxl]; exact (Below.refl _ _).alloc (Nat.le_refl _) _
  have HBBl := Lib.hid hbl
  have HVl : Hid (CAt tL wxl wxx.heap.size #[i6 1, i6 1]) := Lib.hid (by rw [hwxl]; exact CAt.new _ _ _)
  have HWl := Lib.hid hwxl
  clear hwxl hbl
  go_upto_region 8 with fail
  rw [← HWl.out]
  obtain ⟨wxs, hwxs⟩ : ∃ wxs, wxs = wxl.alloc (.cells #[.slice none 0 0, .slice none 0 0] tS) := ⟨_, rfl⟩
  have hbs : Below wxl.heap.size wxl wxs := by rw [hwxs]; exact (Below.refl _ _).alloc (Nat.le_refl _) _
  have HBBs := Lib.hid hbs
  have HVs : Hid (CAt tS wxs wxl.heap.size #[.slice none 0 0, .slice none 0 0]) := Lib.hid (by rw [hwxs]; exact CAt.new _ _ _)
  have HWs := Lib.hid hwxs
  clear hwxs hbs
  go_upto_region 9 with fail
  rw [← HWs.out]
  obtain ⟨wxh, hwxh⟩ : ∃ wxh, wxh = wxs.alloc (.cells #[i6 0, i6 0, i6 0, i6 0] tH) := ⟨_, rfl⟩
  have hbh : Below wxs.heap.size wxs wxh := by rw [hwxh]; exact (Below.refl _ _).alloc (Nat.le_refl _) _
  have HBBh := Lib.hid hbh
  have HVh : Hid (CAt tH wxh wxs.heap.size #[i6 0, i6 0, i6 0, i6 0]) := Lib.hid (by rw [hwxh]; exact CAt.new _ _ _)
  have HWh := Lib.hid hwxh
  clear hwxh hbh
  go_upto_region 10 with fail
  rw [← HWh.out]
  obtain ⟨bx, hbx⟩ : ∃ bx, bx = w3.heap.size := ⟨_, rfl⟩
  obtain ⟨bl, hbl⟩ : ∃ bl, bl = wxx.heap.size := ⟨_, rfl⟩
  obtain ⟨bs, hbs⟩ : ∃ bs, bs = wxl.heap.size := ⟨_, rfl⟩
  obtain ⟨bh, hbh⟩ : ∃ bh, bh = wxs.heap.size := ⟨_, rfl⟩
  have HL0 : Hid (LivF w wxh bx bl bs bh (fun n => if n = 0 then g else k) (fun _ => newC 1) (fun _ => 1) (hk fun _ => newC 1) (fun _ => .slice none 0 0) (fun _ => [])) := Lib.hid (by
    have b1 := HBBx.out
    have b2 := HBBl.out
    have b3 := HBBs.out
    have b4 := HBBh.out
    have d2 : Below w3.heap.size w3 wxl := b1.trans (b2.mono b1.size)
    have d3 : Below w3.heap.size w3 wxs := d2.trans (b3.mono d2.size)
    have d4 : Below w3.heap.size w3 wxh := d3.trans (b4.mono d3.size)
    have e3 : Below wxx.heap.size wxx wxs := b2.trans (b3.mono b2.size)
    have e4 : Below wxx.heap.size wxx wxh := e3.trans (b4.mono e3.size)
    have f4 : Below wxl.heap.size wxl wxh := b3.trans (b4.mono b3.size)
    have q0 := HC3.out.low.size
    have q1 := b1.size
    have q2 := b2.size
    have q3 := b3.size
    rw [hbx, hbl, hbs, hbh]
    show LivS w wxh g k _ _ _ _ (newC 1) (newC 1) 1 1 0 0 0 0 (.slice none 0 0) (.slice none 0 0) [] []
    exact ⟨CAt.later HC3.out.pa d4, CAt.later HC3.out.pb d4, HC3.out.ne, HVx.out.later e4, HVl.out.later f4, HVs.out.later b4, HVh.out, World.ownsRow_nil _ _ _ _, World.ownsRow_nil _ _ _ _, fun b hb => by simp [Value.ownBlock] at hb, HC3.out.low.trans (d4.mono q0), HC3.out.ga, HC3.out.gb, by omega, by omega, by omega, by omega⟩)
  rw [← hbx, ← hbl, ← hbs, ← hbh]
  have HI0 : Hid (LivG 0 (fun _ => newC 1) (fun _ => 1) (fun _ => [])) := Lib.hid (fun _ _ _ => (⟨new_okC 1, rfl, by decide, by decide, by decide, by decide, by simp, by simp⟩ : LivH (newC 1) 1 1 [] 0))
  clear hbx hbl hbs hbh
  clear HBBx HBBl HBBs HBBh HVx HVl HVs HVh HWx HWl HWs HWh HC3 HB1 HB2 HP2 HG2
  go_wp2
  go_loopw [12, 13] (fun nw i wr => ∃ (j t : Nat) (gf : Nat → Nat) (af : Nat → ConV) (lf : Nat → Int) (vf : Nat → Value) (Sf : Nat → List MsgV), i = .int .i64 j ∧ nw = .int .i64 t ∧ j ≤ L.length ∧ j ≤ 250 ∧ t ≤ 3 * j ∧ Hid (LivF w wr bx bl bs bh gf af lf (hk af) vf Sf) ∧ Hid (LivG j af lf Sf)) (fun _ i _ => 250 - (intOf i).toNat)
  case atStart => exact ⟨0, 0, _, _, _, _, _, rfl, rfl, Nat.zero_le _, by omega, by omega, HL0, HI0⟩
  case round =>
    clear HL0 HI0
    obtain ⟨j, t, gf, af, lf, vf, Sf, rfl, rfl, hj, hj2, ht, HL, HI⟩ := hrel
    by_cases hgo : j < L.length ∧ j < 250
    rotate_left
    · by_cases hlt : j < L.length
      · have hg : decide ((j : Int) < (L.length : Int)) = true := by simp; omega
        have hg2 : decide ((j : Int) < 250) = false := by simp; omega
        go_wp2
        go_ret
        exact ⟨rfl, HL.out.low⟩
      · have hg : decide ((j : Int) < (L.length : Int)) = false := decide_eq_false (by omega)
        go_wp2
        go_ret
        exact ⟨rfl, HL.out.low⟩
    obtain ⟨hlt, h250⟩ := hgo
    have hg : decide ((j : Int) < (L.length : Int)) = true := by simp; omega
    have hg2 : decide ((j : Int) < 250) = true := by simp; omega
    obtain ⟨x, hx⟩ : ∃ x, L[j]? = some x := ⟨_, List.getElem?_eq_getElem hlt⟩
    have HXA : Hid (∀ W, Below w.heap.size w W → ∃ b o, A = some ⟨b, o, none⟩ ∧ EAt W b (o + j * 3) x) := Lib.hid (fun W hb => by
      obtain ⟨b, o, h1, _, h2⟩ := (HE.out.below hb).atE j x hx
      exact ⟨b, o, h1, h2⟩)
    obtain ⟨ab, ao, rfl, hab, -⟩ := HE.out.atE j x hx
    have HAB := Lib.hid hab
    clear hx hab
    obtain ⟨ab', ao', e8, x0, x1, x2⟩ := HXA.out wr HL.out.low
    injection e8 with e8
    injection e8 with e81 e82
    subst e81 e82
    have HXB : Hid (∀ W, Below w.heap.size w W → EAt W ab (ao + j * 3) x) := Lib.hid (fun W hb => by
      obtain ⟨b', o', h1, h2⟩ := HXA.out W hb
      injection h1 with h1
      injection h1 with h3 h4
      subst h3 h4
      exact h2)
    clear HXA
    obtain ⟨i, o, hio, hw1, h1o, hi1, ho1⟩ : ∃ i o : Nat, K2 i o ∧ bits .and .i64 x.who 1 = (i : Int) ∧ (1 : Int) - (i : Int) = (o : Int) ∧ (i : Int) < 2 ∧ (o : Int) < 2 := by
      rcases (show x.who % 2 = 0 ∨ x.who % 2 = 1 by omega) with hw | hw
      · exact ⟨0, 1, .inl ⟨rfl, rfl⟩, by rw [i64_and1, hw]; rfl, rfl, by decide, by decide⟩
      · exact ⟨1, 0, .inr ⟨rfl, rfl⟩, by rw [i64_and1, hw]; rfl, rfl, by decide, by decide⟩
    have HK := Lib.hid hio
    have HKO : Hid (K2 o i) := Lib.hid (by rcases hio with ⟨rfl, rfl⟩ | ⟨rfl, rfl⟩; exact .inr ⟨rfl, rfl⟩; exact .inl ⟨rfl, rfl⟩)
    have H1O := Lib.hid h1o
    clear hio h1o
    go_upto_block 2 with fail
    go_cut [12] (fun s12 wx => ∃ (t' : Nat) (gf : Nat → Nat) (af : Nat → ConV) (lf : Nat → Int) (vf : Nat → Value) (Sf : Nat → List MsgV), s12 = .int .i64 t' ∧ t' ≤ 3 * (j + 1) ∧ Hid (LivF w wx bx bl bs bh gf af lf (hk af) vf Sf) ∧ Hid (LivG (j + 1) af lf Sf))
    case rest =>
      clear HL HI x0 x1 x2 hw1 gf af lf vf Sf
      obtain ⟨t', gf, af, lf, vf, Sf, rfl, ht', HL, HI⟩ := hcut
      rename_i wc
      have HKL : Hid ((af i).known ≤ lf o) := Lib.hid (HI.out i o HK.out).known
      have HOT := Lib.hid (fun n => same_flip (pother_any ((HL.out.drewN n).p HK.out)))
      have u0 := HL.out.cx HK.out
      have n1 := HL.out.cl HKO.out
      have h1o := H1O.out
      have qq : decide (lf o < (af i).known) = false := decide_eq_false (by have := HKL.out; omega)
      go_upto_region 44 with fail
      go_quiet ((go_at_call 12; with_reducible exact Calls.quiet_of_same (HOT.out _)))
      have HLE := Lib.hid (HL.out.drewN nq)
      clear qq u0 n1 HL h1o
      go_wp2
      go_roundw
      case rel => exact ⟨j + 1, t', _, _, _, _, _, by go_num, rfl, by omega, by omega, by omega, HLE, HI⟩
      case measure => simp [intOf]; omega
    case first =>
      by_cases h0 : x.do_ = 0
      · have t0 : (x.do_ == 0) = true := by simp [h0]
        clear h0
        refine wp_mono (clives_arm0 hj2 ht HL HI hlt h250 HAB x2 HXB hi1 HK t0 ?_ ?_) (noT_up fun _ _ _ h => h)
        · intros
          rename_i h1 h2 h3
          go_wp2
          go_meet
          exact ⟨_, _, _, _, _, _, rfl, h1, h2, h3⟩
        · intros
          rename_i h1 h2 h3
          clear HL HI x0 x1 x2 hw1
          go_wp2
          go_roundw
          case rel => exact ⟨j + 1, _, _, _, _, _, _, by go_num, rfl, by omega, by omega, h1, h2, h3⟩
          case measure => simp [intOf]; omega
      have t0 : (x.do_ == 0) = false := by simpa using h0
      by_cases h1 : x.do_ = 1
      · have t1 : (x.do_ == 1) = true := by simp [h1]
        clear h0 h1
        refine wp_mono (clives_arm1 hj2 ht HL HI hi1 HK t0 t1 ?_ ?_) (noT_up fun _ _ _ h => h)
        · intros
          rename_i h1 h2 h3
          go_wp2
          go_meet
          exact ⟨_, _, _, _, _, _, rfl, h1, h2, h3⟩
        · intros
          rename_i h1 h2 h3
          clear HL HI x0 x1 x2 hw1
          go_wp2
          go_roundw
          case rel => exact ⟨j + 1, _, _, _, _, _, _, by go_num, rfl, by omega, by omega, h1, h2, h3⟩
          case measure => simp [intOf]; omega
      have t1 : (x.do_ == 1) = false := by simpa using h1
      by_cases h2 : x.do_ = 2
      · have t2 : (x.do_ == 2) = true := by simp [h2]
        clear h0 h1 h2
        refine wp_mono (clives_arm2 hj2 ht HL HI hlt x2 HXB hi1 ho1 HK HKO H1O t0 t1 t2 ?_ ?_) (noT_up fun _ _ _ h => h)
        · intros
          rename_i h1 h2 h3
          go_wp2
          go_meet
          exact ⟨_, _, _, _, _, _, rfl, h1, h2, h3⟩
        · intros
          rename_i h1 h2 h3
          clear HL HI x0 x1 x2 hw1
          go_wp2
          go_roundw
          case rel => exact ⟨j + 1, _, _, _, _, _, _, by go_num, rfl, by omega, by omega, h1, h2, h3⟩
          case measure => simp [intOf]; omega
      have t2 : (x.do_ == 2) = false := by simpa using h2
      by_cases h3 : x.do_ = 3
      · have t3 : (x.do_ == 3) = true := by simp [h3]
        clear h0 h1 h2 h3
        obtain ⟨d, hd⟩ : ∃ d : Nat, (d : Int) = x.n % 4 := ⟨(x.n % 4).toNat, by omega⟩
        have hd3 : bits .and .i64 x.n 3 = (d : Int) := by rw [i64_and3, hd]
        have hd4 : d ≤ 3 := by omega
        have HH := Lib.hid (HI.out i o HK.out)
        have HT := Lib.hid (fun V (h : PAt V (gf i) (af i)) => ptick_any ((t : Int) + (d : Int)) HH.out.ok h)
        have u0 := HL.out.cx HK.out
        have HIN : Hid (LivG (j + 1) (upd af i ((af i).tick ((t : Int) + (d : Int))).1) lf Sf) := Lib.hid (HI.out.con HK.out (HH.out.ticks _))
        have HKN : Hid (hk (upd af i ((af i).tick ((t : Int) + (d : Int))).1) = hk af) := Lib.hid (hk_same (tick_same _ _).2.2.1 (tick_same _ _).2.2.2)
        obtain ⟨T, hT⟩ : ∃ T, T = (af i).tick ((t : Int) + (d : Int)) := ⟨_, rfl⟩
        rw [← hT] at HT HIN HKN
        clear hd hT HH
        go_wp2_with fail
        refine (HT.out _ (HL.out.p HK.out)).mono ?_
        rintro e w4 ⟨rfl, hp4, hw4⟩
        have HL4 : Hid (LivF w w4 bx bl bs bh gf (upd af i T.1) lf (hk (upd af i T.1)) vf Sf) := Lib.hid (by rw [HKN.out]; exact HL.out.con HK.out hp4 hw4)
        clear hp4 hw4 u0 x0 x1 x2
        go_wp2
        go_meet
        exact ⟨t + d, _, _, _, _, _, by go_num, by omega, HL4, HIN⟩
      have t3 : (x.do_ == 3) = false := by simpa using h3
      by_cases h4 : x.do_ = 4
      · have t4 : (x.do_ == 4) = true := by simp [h4]
        clear h0 h1 h2 h3 h4
        have HH := Lib.hid (HI.out i o HK.out)
        have n0 := HL.out.cl HK.out
        have fl := HL.out.fl i
        have b1 := HH.out.l1
        have b2 := HH.out.lj
        obtain ⟨l, hl⟩ : ∃ l, l = lf i := ⟨_, rfl⟩
        rw [← hl] at n0 b1 b2
        have hwl : IntKind.i64.wrap (l + 1) = l + 1 := IntWalk.i64_in _ (by omega)
        obtain ⟨w4, hw4⟩ : ∃ w4, w4 = wr.setCell ⟨bl, i, none⟩ (i6 (l + 1)) := ⟨_, rfl⟩
        have HL4 : Hid (LivF w w4 bx bl bs bh gf af (upd lf i (l + 1)) (hk af) vf Sf) := Lib.hid (by rw [hw4]; exact HL.out.setL HK.out (l + 1))
        have HIN : Hid (LivG (j + 1) (upd af i (newC (l + 1))) (upd lf i (l + 1)) Sf) := Lib.hid (by rw [hl]; exact HI.out.anew HK.out)
        have HNW := Lib.hid (fun W => pnew_ok (l + 1) (by omega) (by omega) W)
        have HW4 := Lib.hid hw4
        clear hw4 hl b1 b2 HH
        go_upto_region 39 with fail
        rw [← HW4.out]
        have n4 : w4.cell? ⟨bl, i, none⟩ = some (.int .i64 (l + 1)) := by
          have h := HL4.out.cl HK.out
          rw [upd_same] at h
          exact h
        clear n0 fl x0 x1 x2 hwl
        go_wp2_with fail
        refine (HNW.out w4).mono ?_
        rintro e w5 ⟨g', rfl, hp5, hb5, hg5⟩
        have HL5 := Lib.hid (HL4.out.later hb5)
        have HP5 := Lib.hid hp5
        have HG5 : Hid (g' ≠ gf o ∧ w.heap.size ≤ g') := Lib.hid ⟨fun e => by have h1 := CAt.lt (HL4.out.p HKO.out); omega, Nat.le_trans HL4.out.low.size hg5⟩
        clear hp5 hb5 hg5 n4
        obtain ⟨w6, hw6⟩ : ∃ w6, w6 = w5.setCell ⟨bx, i, none⟩ (ptrV g') := ⟨_, rfl⟩
        have HL6 : Hid (LivF w w6 bx bl bs bh (upd gf i g') (upd af i (newC (l + 1))) (upd lf i (l + 1)) (hk af) vf Sf) := Lib.hid (by rw [hw6]; exact HL5.out.setX HK.out HP5.out HG5.out.1 HG5.out.2)
        have u5 := HL5.out.cx HK.out
        have f5 := HL5.out.fx i
        have HW6 := Lib.hid hw6
        clear hw6
        go_upto_region 43 with fail
        rw [← HW6.out]
        clear u5 f5
        have y0 := HL6.out.ch0 HK.out
        have y1 := HL6.out.ch1 HK.out
        have g0 := HL6.out.fh (i * 2)
        have g1 := HL6.out.fh (i * 2 + 1)
        go_wp2
        go_meet
        exact ⟨t, _, _, _, _, _, rfl, by omega, Lib.hid (by rw [hk_upd]; exact HL6.out.setH HK.out 0 0), HIN⟩
      have t4 : (x.do_ == 4) = false := by simpa using h4
      clear h0 h1 h2 h3 h4
      go_wp2
      go_meet
      exact ⟨t, _, _, _, _, _, rfl, by omega, HL, Lib.hid HI.out.more⟩
end Go.Proofs.Ytfikdocpcepmmaa
