/- The law OutboxOnce, over any box and record (BoxK, SeenK). -/
import Derived.Test.YtekladmddfibaaaCarI
import Derived.Deep.CutBlock
import Derived.StillTailTactics
import Derived.BigQuiet
namespace Go.Proofs.Ytekladmddfibaaa
open Go.RowKit Go.Sort Go.Maps

attribute [local go_sem ↓] run_eqlC run_neqC run_guardC
set_option maxRecDepth 100000 in
set_option maxHeartbeats 40000000 in
theorem law_oonce {T : World → (Nat → Prop) → Nat → BxV → Prop} {U : World → (Nat → Prop) → Nat → List NtV → Prop} (K : BoxK T) (KS : SeenK U) (A : Option Addr) (c : Nat) (L : List (Int × Int)) (w : World) (hE : El ElemP w w.heap.size A L) :
    Calls Try.prog 6 #[.slice A L.length c] w fun e w' => e = .returned (.bool true) ∧ Below w.heap.size w w' := by
  have HA := Lib.hid (fun V => oawake_any K KS V)
  have HU := Lib.hid (fun a n V => update_any a n V)
  have HK := Lib.hid K
  have HE := Lib.hid hE
  have hmm := @run_makeMap Try.prog
  clear K KS hE
  go_enter Try.func6, Try.ntmps6
  go_wp2_with fail
  refine (HA.out _).mono ?_
  rintro e w1 ⟨rfl, hb1⟩
  have HB1 := Lib.hid hb1
  clear hb1
  go_wp2_with fail
  refine (HK.out.new _).mono ?_
  rintro e w2 ⟨Q2, g, rfl, hu2, hb2, hq2⟩
  have HC2 : Hid (CarT T w w2 Q2 g newB) := Lib.hid ⟨hu2, HB1.out.trans (hb2.mono HB1.out.size), fun b hb => Nat.le_trans HB1.out.size (hq2 b hb)⟩
  clear hu2 hb2 hq2
  go_upto_block 0 with fail
  obtain ⟨w3, hw3⟩ : ∃ w3, w3 = ((w2.alloc (.map #[] 0)).alloc (.map #[] 0)).alloc (.map #[] 0) := ⟨_, rfl⟩
  have HC3 : Hid (Car3 T KN KNA KNB w w3 Q2 g newB w2.heap.size (w2.heap.size + 1) (w2.heap.size + 1 + 1) (fun _ => none) (fun _ => none) (fun _ => none)) := Lib.hid (Car3.made HK.out HC2.out hw3)
  rw [← hw3]
  clear HC2 HB1 hmm hw3
  generalize w2.heap.size + 1 + 1 = bx at *
  generalize w2.heap.size + 1 = bt at *
  generalize w2.heap.size = bp at *
  go_wp2_with fail
  go_loopw [8, 9] (fun nv i wr => ∃ (j : Nat) (Q : Nat → Prop) (B : BxV) (s : Int → Option Int) (f : Int → Option Nat) (gn : Int → Option Bool) (now : Int), nv = .int .i64 now ∧ i = .int .i64 j ∧ j ≤ L.length ∧ j ≤ 150 ∧ Hid (Car3 T KN KNA KNB w wr Q g B bp bt bx s f gn) ∧ Hid (OnceI B s f gn now j)) (fun _ i _ => 150 - (intOf i).toNat)
  case atStart => exact ⟨0, Q2, newB, _, _, _, 0, rfl, rfl, Nat.zero_le _, by omega, HC3, Lib.hid once_new⟩
  case round =>
    clear HC3
    obtain ⟨j, Q, B, s, f, gn, now, rfl, rfl, hj, hj2, HC, HI⟩ := hrel
    by_cases hlt : j < L.length
    · have hg : decide ((j : Int) < (L.length : Int)) = true := by simp; omega
      by_cases h150 : j < 150
      · have hg2 : decide ((j : Int) < 150) = true := by simp; omega
        obtain ⟨y, hy⟩ : ∃ y, L[j]? = some y := ⟨_, List.getElem?_eq_getElem hlt⟩
        obtain ⟨b, o, rfl, hb, x0, x1⟩ := (HE.out.below HC.out.c.low).at2 j y hy
        obtain ⟨a, haa⟩ : ∃ a : Nat, a = (y.2 % 4).toNat := ⟨_, rfl⟩
        have ha3 : bits .and .i64 y.2 3 = (a : Int) := by rw [i64_and3]; omega
        have hwa : IntKind.u32.wrap (a : Int) = (a : Int) := by simp [IntKind.wrap, IntKind.bits, IntKind.signed]; omega
        have ha4 : a < 4 := by omega
        have ha32 : a < 4294967296 := by omega
        have hk3 : bits .and .i64 y.1 3 = y.1 % 4 := i64_and3 _
        obtain ⟨q, hq⟩ : ∃ q, q = y.1 % 4 := ⟨_, rfl⟩
        rw [← hq] at hk3
        clear hy haa hq
        by_cases h0 : q = 0
        · subst h0
          have HPW := Lib.hid (fun V (hb : Below wr.heap.size wr V) => HK.out.put (updM a j) ha32 (HK.out.later HC.out.c.t hb))
          have HI4 := Lib.hid (HI.out.put (by omega) a j ha32)
          go_wp2_with fail
          refine (HU.out a j _).mono ?_
          rintro e w4 ⟨rfl, hb4⟩
          have HC4 := Lib.hid (HC.out.later HK.out hb4)
          go_wp2_with fail
          refine (HPW.out _ hb4).mono ?_
          rintro e w5 ⟨Q5, rfl, ht5, hw5⟩
          have HC5 := Lib.hid (HC4.out.way ht5 hw5)
          clear hb4 ht5 hw5 x0 x1
          go_wp2
          go_roundw
          case rel => exact ⟨j + 1, Q5, _, s, f, gn, now, rfl, by go_num, by omega, by omega, HC5, HI4⟩
          case measure => simp [intOf]; omega
        · have hq0 : (q == 0) = false := by simp [h0]
          by_cases h1 : q = 1
          · subst h1
            obtain ⟨r, hr⟩ : ∃ r, r = y.2 % 16 := ⟨_, rfl⟩
            have hk15 : bits .and .i64 y.2 15 = r := by rw [i64_and15, hr]
            have hr0 : 0 ≤ r := by omega
            have hr1 : r < 16 := by omega
            have hwr : IntKind.i64.wrap (1 + r) = 1 + r := by simp [IntKind.wrap, IntKind.bits, IntKind.signed]; omega
            have HAK := Lib.hid (HK.out.ack (1 + r) HC.out.c.t)
            obtain ⟨hi1, hi2⟩ := HI.out.ack (1 + r)
            have HI4 := Lib.hid hi2
            obtain ⟨is, his⟩ : ∃ is, is = (B.acked (1 + r)).2.isSome := ⟨_, rfl⟩
            obtain ⟨v, hv⟩ : ∃ v, v = (gn (1 + r)).getD false := ⟨_, rfl⟩
            have his2 : (ackR (B.acked (1 + r)).2).2 = is := by rw [his]; cases (B.acked (1 + r)).2 <;> rfl
            have HV : Hid (is = true → v = false) := Lib.hid (fun e => by
              have h := hi1 (by rw [← his]; exact e)
              rw [hv]
              cases hgn : gn (1 + r) with
              | none => rfl
              | some b => cases b with
                | false => rfl
                | true => exact absurd hgn h)
            rw [his2] at HAK
            rw [← his, ← hv] at HI4
            have HVV := Lib.hid hv
            clear hi1 hi2 his his2 hr hq0 hv
            generalize (ackR (B.acked (1 + r)).2).1 = mm at *
            generalize (B.acked (1 + r)).1 = B5 at *
            go_wp2_with fail
            refine HAK.out.mono ?_
            rintro e w5 ⟨Q5, rfl, ht5, hw5⟩
            have HC5 := Lib.hid (HC.out.way ht5 hw5)
            clear ht5 hw5 x0 x1 HAK
            obtain ⟨w6, hw6⟩ : ∃ w6, w6 = w5.alloc (mbox mm) := ⟨_, rfl⟩
            have hb6 : Below w5.heap.size w5 w6 := by rw [hw6]; exact (Below.refl _ _).alloc (Nat.le_refl _) _
            have HC6 := Lib.hid (HC5.out.later HK.out hb6)
            have HW6 := Lib.hid hw6
            have hlk := HC6.out.lookG (1 + r) (by omega) (by omega)
            rw [← HVV.out] at hlk
            clear hw6 hb6
            go_upto_region 35 with fail
            rw [show ∀ V : World, V.alloc (.cells #[.int .i64 mm.kind, .int .i64 mm.life, .int .i64 mm.seen, .int .i64 mm.xid, .int .i64 mm.state, .int .u32 (mm.addr : Int), .int .i64 mm.bind, .string mm.client, .int .i64 mm.pot, .int .i64 mm.at_, .bool mm.ok] 31) = V.alloc (mbox mm) from fun _ => rfl, ← HW6.out]
            obtain ⟨w7, hst, hc7, -⟩ := HC6.out.putG HK.out (1 + r) (v || is) (by omega) (by omega)
            have HC7 := Lib.hid hc7
            clear hc7 HVV
            cases is
            · cases v
              · simp only [Bool.or_false] at hst HC7 HI4
                go_wp2
                go_roundw
                case rel => exact ⟨j + 1, Q5, B5, s, f, _, now, rfl, by go_num, by omega, by omega, HC7, HI4⟩
                case measure => simp [intOf]; omega
              · simp only [Bool.or_false] at hst HC7 HI4
                go_wp2
                go_roundw
                case rel => exact ⟨j + 1, Q5, B5, s, f, _, now, rfl, by go_num, by omega, by omega, HC7, HI4⟩
                case measure => simp [intOf]; omega
            · obtain rfl := HV.out rfl
              simp only [Bool.or_true] at hst HC7 HI4
              go_wp2
              go_roundw
              case rel => exact ⟨j + 1, Q5, B5, s, f, _, now, rfl, by go_num, by omega, by omega, HC7, HI4⟩
              case measure => simp [intOf]; omega
          · have hq1 : (q == 1) = false := by simp [h1]
            obtain ⟨n2, hn2⟩ : ∃ n2, n2 = now + (a : Int) := ⟨_, rfl⟩
            obtain ⟨ht1, ht2⟩ := HI.out.tick (now' := n2) (by omega) (by have := HI.out.now1; omega) (by have := HI.out.now1; omega)
            have HTW := Lib.hid (HK.out.tick n2 HC.out.c.t)
            have HTM : Hid (∀ m ∈ B.told n2, ToldM s f gn n2 B.xid m) := Lib.hid (fun m hm => HI.out.told hm)
            have HLL : Hid ((B.told n2).length ≤ 1073741824) := Lib.hid (by
              have h1 := HI.out.ok.len
              have h2 : (B.told n2).length ≤ B.l.length := by unfold BxV.told; rw [List.length_map]; exact List.length_filter_le _ _
              omega)
            have HTR := Lib.hid (told_rise HI.out.ok n2)
            have HTO := Lib.hid (told_once HI.out.ok n2)
            have HN2 : Hid (0 ≤ n2 ∧ n2 ≤ 1000) := Lib.hid (by have := HI.out.now0; have := HI.out.now1; omega)
            have HBX : Hid ((B.ticked n2).xid = B.xid) := Lib.hid rfl
            have HBX2 : Hid (B.xid ≤ 1073741824) := Lib.hid HI.out.ok.x1
            rw [ht1] at HTW
            have HI4 := Lib.hid ht2
            have HWN : Hid (wrap64 (now + (a : Int)) = n2) := Lib.hid (by have := HI.out.now0; have := HI.out.now1; unfold wrap64; omega)
            clear ht1 ht2 h0 h1 hn2
            generalize B.told n2 = l at *
            generalize B.ticked n2 = B5 at *
            generalize B.xid = bxid at *
            go_upto_region 15 with fail
            rw [HWN.out]
            go_wp2_with fail
            refine HTW.out.mono ?_
            rintro e w5 ⟨Q5, A5, k5, rfl, ho5, ht5, hw5⟩
            have HC5 := Lib.hid (HC.out.way ht5 hw5)
            have HO5 : Hid (RowO w5 Q5 wr.heap.size A5 k5 l) := Lib.hid ⟨ho5.own, ho5.apart⟩
            have HLT := Lib.hid (show bp < wr.heap.size ∧ bt < wr.heap.size from ⟨HC.out.m1.lt, HC.out.m2.lt⟩)
            clear ho5 ht5 hw5 x0 x1 HTW HWN
            generalize wr.heap.size = n5 at HO5 HLT
            go_wp2
            go_loopw [16] (fun i wr => ∃ k : Nat, k ≤ l.length ∧ i = .int .i64 k ∧ Hid (Car3 T KN KNA KNB w wr Q5 g B5 bp bt bx (tellS n2 s (l.take k)) (tellA f (l.take k)) gn) ∧ Hid (RowO wr Q5 n5 A5 k5 l)) (fun i _ => l.length - (intOf i).toNat)
            case atStart => exact ⟨0, Nat.zero_le _, rfl, HC5, HO5⟩
            case round =>
              clear HC5 HO5 HC hg hg2 hk3 ha3 hwa hq0 hq1
              obtain ⟨k, hk, rfl, HCX, HOX⟩ := hrel
              have hl30 := HLL.out
              by_cases hlt3 : k < l.length
              · have hgl : decide ((k : Int) < (l.length : Int)) = true := by simp; omega
                obtain ⟨m, hm⟩ : ∃ m, l[k]? = some m := ⟨_, List.getElem?_eq_getElem hlt3⟩
                have HTK := Lib.hid ((HTM.out m (List.mem_of_getElem? hm)).take hm HTR.out)
                obtain ⟨b', o', rfl, -, a0, a1, a2, a3, a4, a5, a6, a7, a8, a9, a10⟩ := HOX.out.el.at11 k m hm
                have HM := Lib.hid hm
                have hn0 : 0 ≤ m.xid := by have := HTK.out.lo; omega
                have hn1 : m.xid < 4294967296 := by have := HTK.out.hi; have := HBX2.out; omega
                obtain ⟨s2, hs2⟩ : ∃ s2, s2 = tellS n2 s (l.take k) := ⟨_, rfl⟩
                obtain ⟨f2, hf2⟩ : ∃ f2, f2 = tellA f (l.take k) := ⟨_, rfl⟩
                rw [← hs2, ← hf2] at HTK HCX
                have HS2 := Lib.hid hs2
                have HF2 := Lib.hid hf2
                clear hm hs2 hf2
                obtain ⟨at_, hat⟩ : ∃ at_, at_ = (s2 m.xid).getD 0 := ⟨_, rfl⟩
                obtain ⟨was, hwas⟩ : ∃ was, was = (s2 m.xid).isSome := ⟨_, rfl⟩
                have HWAS : Hid (was = true → 3 ≤ n2 - at_ ∧ 0 ≤ at_ ∧ f2 m.xid = some m.addr) := Lib.hid (fun e => by
                  obtain ⟨v, hv⟩ := Option.isSome_iff_exists.1 (hwas.symm.trans e)
                  obtain ⟨h1, h2⟩ := HTK.out.due v hv
                  have h3 := HTK.out.of_ v hv
                  rw [hv] at hat
                  have hat : at_ = v := hat
                  rw [hat]
                  exact ⟨h1, h2, h3⟩)
                have hlk := HCX.out.lookS m.xid hn0 hn1
                rw [← hat, ← hwas] at hlk
                clear hat hwas
                go_upto_region 21 with fail
                clear hlk
                go_cut [135] from 69 to 161 (fun s135 wx => s135 = .bool false ∧ Below wr.heap.size wr wx)
                case first =>
                  have hlg : ∀ d os, (Instr.lookup 65 (.map (some bx)) (.int .i64 m.xid) false).run Try.prog (grow (redrawn wr d) os) = .ok (.bool false) (grow (redrawn wr d) os) := fun d os => by
                    have h := (HCX.out.later HK.out (below_regrown wr d os)).lookG m.xid hn0 hn1
                    rwa [HTK.out.gone] at h
                  have CX := Lib.hid (fun d os => Calls.regrown_of (HK.out.last (HK.out.later HCX.out.c.t (below_regrown _ d os))))
                  rw [HBX.out] at CX
                  have r5 := cell_regrown a5
                  have d1 : decide (m.xid < 1) = false := by have := HTK.out.lo; simp; omega
                  have d2 : decide (bxid < m.xid) = false := by have := HTK.out.hi; simp; omega
                  clear a0 a1 a2 a3 a4 a5 a6 a7 a8 a9 a10
                  by_cases hk0 : k = 0
                  · have dk : decide (0 < k) = false := by simp; omega
                    clear hk0
                    cases was
                    · refine wp_region_quiet_below (by kernel_rfl) (by kernel_rfl) ?_
                      repeat (first | go_big_quiet_step (first | (go_at_call 14; exact CX.out _ _)) | quiet_step (first | (go_at_call 14; exact CX.out _ _)))
                      refine wpQuiet_nil ?_
                      intro _ hw'
                      obtain ⟨⟨dq, osq⟩, hw''⟩ := hw'
                      subst hw''
                      go_wp2_with fail
                      go_meet
                      exact ⟨rfl, below_regrown _ dq osq⟩
                    · obtain ⟨e1, e2, e3⟩ := HWAS.out rfl
                      have hla : ∀ d os, (Instr.lookup 64 (.map (some bt)) (.int .i64 m.xid) false).run Try.prog (grow (redrawn wr d) os) = .ok (.int .u32 (m.addr : Int)) (grow (redrawn wr d) os) := fun d os => by
                        have h := (HCX.out.later HK.out (below_regrown wr d os)).lookA m.xid hn0 hn1
                        rwa [e3] at h
                      have hw2 : IntKind.i64.wrap (n2 - at_) = n2 - at_ := by have := HN2.out; simp [IntKind.wrap, IntKind.bits, IntKind.signed]; omega
                      have d3 : decide (n2 - at_ < 3) = false := by simp; omega
                      clear e1 e2 e3
                      refine wp_region_quiet_below (by kernel_rfl) (by kernel_rfl) ?_
                      repeat (first | go_big_quiet_step (first | (go_at_call 14; exact CX.out _ _)) | quiet_step (first | (go_at_call 14; exact CX.out _ _)))
                      refine wpQuiet_nil ?_
                      intro _ hw'
                      obtain ⟨⟨dq, osq⟩, hw''⟩ := hw'
                      subst hw''
                      go_wp2_with fail
                      go_meet
                      exact ⟨rfl, below_regrown _ dq osq⟩
                  · have dk : decide (0 < k) = true := by simp; omega
                    obtain ⟨y, hy⟩ : ∃ y, l[k - 1]? = some y := ⟨_, List.getElem?_eq_getElem (by omega)⟩
                    obtain ⟨b'', o'', e7, -, -, -, -, y3, -⟩ := HOX.out.el.at11 (k - 1) y hy
                    injection e7 with e7
                    injection e7 with e71 e72
                    subst e71 e72
                    have ry := cell_regrown y3
                    have hw1 : IntKind.i64.wrap ((k : Int) - 1) = ((k - 1 : Nat) : Int) := by simp [IntKind.wrap, IntKind.bits, IntKind.signed]; omega
                    have hkl : k - 1 < l.length := by omega
                    have hlt4 : y.xid < m.xid := by
                      have h := List.pairwise_iff_getElem.1 HTR.out
                      obtain ⟨q1, q2⟩ := List.getElem?_eq_some_iff.1 hy
                      obtain ⟨r1, r2⟩ := List.getElem?_eq_some_iff.1 HM.out
                      have := h (k - 1) k q1 r1 (by omega)
                      rw [q2, r2] at this
                      exact this
                    have d4 : decide (m.xid ≤ y.xid) = false := by simp; omega
                    clear hy y3 hk0
                    cases was
                    · refine wp_region_quiet_below (by kernel_rfl) (by kernel_rfl) ?_
                      repeat (first | go_big_quiet_step (first | (go_at_call 14; exact CX.out _ _)) | quiet_step (first | (go_at_call 14; exact CX.out _ _)))
                      refine wpQuiet_nil ?_
                      intro _ hw'
                      obtain ⟨⟨dq, osq⟩, hw''⟩ := hw'
                      subst hw''
                      go_wp2_with fail
                      go_meet
                      exact ⟨rfl, below_regrown _ dq osq⟩
                    · obtain ⟨e1, e2, e3⟩ := HWAS.out rfl
                      have hla : ∀ d os, (Instr.lookup 64 (.map (some bt)) (.int .i64 m.xid) false).run Try.prog (grow (redrawn wr d) os) = .ok (.int .u32 (m.addr : Int)) (grow (redrawn wr d) os) := fun d os => by
                        have h := (HCX.out.later HK.out (below_regrown wr d os)).lookA m.xid hn0 hn1
                        rwa [e3] at h
                      have hw2 : IntKind.i64.wrap (n2 - at_) = n2 - at_ := by have := HN2.out; simp [IntKind.wrap, IntKind.bits, IntKind.signed]; omega
                      have d3 : decide (n2 - at_ < 3) = false := by simp; omega
                      clear e1 e2 e3
                      refine wp_region_quiet_below (by kernel_rfl) (by kernel_rfl) ?_
                      repeat (first | go_big_quiet_step (first | (go_at_call 14; exact CX.out _ _)) | quiet_step (first | (go_at_call 14; exact CX.out _ _)))
                      refine wpQuiet_nil ?_
                      intro _ hw'
                      obtain ⟨⟨dq, osq⟩, hw''⟩ := hw'
                      subst hw''
                      go_wp2_with fail
                      go_meet
                      exact ⟨rfl, below_regrown _ dq osq⟩
                case rest =>
                  obtain ⟨rfl, hbc⟩ := hcut
                  have HCY := Lib.hid (HCX.out.later HK.out hbc)
                  have HOY := Lib.hid (HOX.out.later hbc)
                  clear hbc a0 a1 a2 a3 a4 a5 a6 a7 a8 a9 a10 HCX HOX HWAS
                  obtain ⟨b'', o'', e7, -, a0, a1, a2, a3, a4, a5, a6, a7, a8, a9, a10⟩ := HOY.out.el.at11 k m HM.out
                  injection e7 with e7
                  injection e7 with e71 e72
                  subst e71 e72
                  go_wp2
                  go_loopw [20] (fun i wr => ∃ j2 n : Nat, j2 ≤ k ∧ i = .int .i64 j2 ∧ wr = wc.drewN n) (fun i _ => k - (intOf i).toNat)
                  case atStart => exact ⟨0, 0, Nat.zero_le _, rfl, rfl⟩
                  case round =>
                    obtain ⟨j2, n, hj2k, rfl, rfl⟩ := hrel
                    by_cases hlt5 : j2 < k
                    · have hgj : decide ((j2 : Int) < (k : Int)) = true := by simp; omega
                      obtain ⟨y, hy⟩ : ∃ y, l[j2]? = some y := ⟨_, List.getElem?_eq_getElem (by omega)⟩
                      obtain ⟨b'', o'', e7, -, -, -, -, -, -, y5, -⟩ := HOY.out.el.at11 j2 y hy
                      injection e7 with e7
                      injection e7 with e71 e72
                      subst e71 e72
                      have hne : y.addr ≠ m.addr := by
                        have h := List.pairwise_iff_getElem.1 HTO.out
                        obtain ⟨q1, q2⟩ := List.getElem?_eq_some_iff.1 hy
                        obtain ⟨r1, r2⟩ := List.getElem?_eq_some_iff.1 HM.out
                        have := h j2 k q1 r1 hlt5
                        rw [q2, r2] at this
                        exact this
                      have hq6 : ((y.addr : Int) == (m.addr : Int)) = false := by simp; omega
                      have hjl : j2 < l.length := by omega
                      clear hy hne
                      go_wp2_with fail
                      go_quiet (fail)
                      go_wp2
                      go_roundw
                      case rel => exact ⟨j2 + 1, n + nq, by omega, by go_num, rfl⟩
                      case measure => simp [intOf]; omega
                    · have hgj : decide ((j2 : Int) < (k : Int)) = false := by simp; omega
                      obtain ⟨w8, hw8⟩ : ∃ w8, w8 = wc.drewN n := ⟨_, rfl⟩
                      have hb8 : Below wc.heap.size wc w8 := by rw [hw8]; exact ⟨rfl, rfl, rfl, Nat.le_refl _, fun _ _ => rfl⟩
                      have HC8 := Lib.hid (HCY.out.later HK.out hb8)
                      have HO8 := Lib.hid (HOY.out.later hb8)
                      obtain ⟨w9, hst, hc9, hg9⟩ := HC8.out.putS HK.out m.xid n2 hn0 hn1
                      have HC9 := Lib.hid hc9
                      have HO9 := Lib.hid (HO8.out.grown hg9 HLT.out.1)
                      rw [← hw8]
                      clear hw8 hb8 hc9 hg9 a0 a1 a2 a3 a4 a5 a6 a7 a8 a9 a10
                      go_upto_region 29 with fail
                      clear hst
                      obtain ⟨b'', o'', e7, -, a0, a1, a2, a3, a4, a5, a6, a7, a8, a9, a10⟩ := HO9.out.el.at11 k m HM.out
                      injection e7 with e7
                      injection e7 with e71 e72
                      subst e71 e72
                      obtain ⟨w10, hst, hc10, hg10⟩ := HC9.out.putA HK.out m.xid m.addr hn0 hn1
                      have HC10 : Hid (Car3 T KN KNA KNB w w10 Q5 g B5 bp bt bx (tellS n2 s (l.take (k + 1))) (tellA f (l.take (k + 1))) gn) := Lib.hid (by
                        rw [take_snoc_of l k m HM.out, tellS_snoc, tellA_snoc, ← HS2.out, ← HF2.out]
                        exact hc10)
                      have HO10 := Lib.hid (HO9.out.grown hg10 HLT.out.2)
                      clear hc10 hg10
                      go_wp2
                      go_roundw
                      case rel => exact ⟨k + 1, by omega, by go_num, HC10, HO10⟩
                      case measure => simp [intOf]; omega
              · have hgl : decide ((k : Int) < (l.length : Int)) = false := by simp; omega
                have HC9 : Hid (Car3 T KN KNA KNB w wr Q5 g B5 bp bt bx (tellS n2 s l) (tellA f l) gn) := Lib.hid (by
                  have h := HCX.out
                  rw [List.take_of_length_le (by omega)] at h
                  exact h)
                go_wp2
                go_roundw
                case rel => exact ⟨j + 1, Q5, B5, _, _, gn, n2, rfl, by go_num, by omega, by omega, HC9, HI4⟩
                case measure => simp [intOf]; omega
      · have hg2 : decide ((j : Int) < 150) = false := by simp; omega
        go_wp2
        go_ret
        exact ⟨rfl, HC.out.c.low⟩
    · have hg : decide ((j : Int) < (L.length : Int)) = false := by simp; omega
      go_wp2
      go_ret
      exact ⟨rfl, HC.out.c.low⟩
end Go.Proofs.Ytekladmddfibaaa
