/- The law OutboxLast, over any box and record (BoxK, SeenK). -/
import Derived.Test.YtekladmddfibaaaCarM
import Derived.Deep.CutBlock
import Derived.StillTailTactics
namespace Go.Proofs.Ytekladmddfibaaa
open Go.RowKit Go.Sort Go.Maps

attribute [local go_sem ↓] run_eqlC run_neqC run_guardC
set_option maxRecDepth 100000 in
set_option maxHeartbeats 4000000 in
theorem law_olast {T : World → (Nat → Prop) → Nat → BxV → Prop} {U : World → (Nat → Prop) → Nat → List NtV → Prop} (K : BoxK T) (KS : SeenK U) (A : Option Addr) (c : Nat) (L : List (Int × Int)) (w : World) (hE : El ElemP w w.heap.size A L) :
    Calls Try.prog 5 #[.slice A L.length c] w fun e w' => e = .returned (.bool true) ∧ Below w.heap.size w w' := by
  have HA := Lib.hid (fun V => oawake_any K KS V)
  have HU := Lib.hid (fun a n V => update_any a n V)
  have HK := Lib.hid K
  have HE := Lib.hid hE
  have hmm := @run_makeMap Try.prog
  clear K KS hE
  go_enter Try.func5, Try.ntmps5
  go_wp2_with fail
  refine (HA.out _).mono ?_
  rintro e w1 ⟨rfl, hb1⟩
  have HB1 := Lib.hid hb1
  clear hb1
  go_wp2_with fail
  refine (HK.out.new _).mono ?_
  rintro e w2 ⟨Q2, g, rfl, hu2, hb2, hq2⟩
  have HC2 : Hid (CarT T w w2 Q2 g newB) := Lib.hid ⟨hu2, HB1.out.trans (hb2.mono HB1.out.size), fun b hb => Nat.le_trans HB1.out.size (hq2 b hb)⟩
  clear hu2 hb2 hq2
  go_upto_block 0 with fail
  obtain ⟨w3, hw3⟩ : ∃ w3, w3 = ((w2.alloc (.map #[] 0)).alloc (.map #[] 0)).alloc (.map #[] 0) := ⟨_, rfl⟩
  have HC3 : Hid (Car3 T KI KI KI w w3 Q2 g newB w2.heap.size (w2.heap.size + 1) (w2.heap.size + 1 + 1) (fun _ => none) (fun _ => none) (fun _ => none)) := Lib.hid (Car3.made HK.out HC2.out hw3)
  rw [← hw3]
  clear HC2 HB1 hmm hw3
  generalize w2.heap.size + 1 + 1 = bx at *
  generalize w2.heap.size + 1 = bt at *
  generalize w2.heap.size = bp at *
  go_cut [8] from 9 to 115 (fun s8 wx => ∃ (Q : Nat → Prop) (B : BxV) (p t x : Nat → Option Int) (now : Int), s8 = .int .i64 now ∧ Hid (Car3 T KI KI KI w wx Q g B bp bt bx p t x) ∧ Hid (DrainI B p t now 0))
  case first =>
    go_wp2_with fail
    go_loopw [8, 9] (fun nv i wr => ∃ (j : Nat) (Q : Nat → Prop) (B : BxV) (p t x : Nat → Option Int) (now : Int), nv = .int .i64 now ∧ i = .int .i64 j ∧ j ≤ L.length ∧ j ≤ 150 ∧ Hid (Car3 T KI KI KI w wr Q g B bp bt bx p t x) ∧ Hid (LastI B p t x now j)) (fun _ i _ => 150 - (intOf i).toNat)
    case atStart => exact ⟨0, Q2, newB, _, _, _, 0, rfl, rfl, Nat.zero_le _, by omega, HC3, Lib.hid lastI_new⟩
    case round =>
      clear HC3
      obtain ⟨j, Q, B, p, t, x, now, rfl, rfl, hj, hj2, HC, HI⟩ := hrel
      by_cases hlt : j < L.length
      · have hg : decide ((j : Int) < (L.length : Int)) = true := by simp; omega
        by_cases h150 : j < 150
        · have hg2 : decide ((j : Int) < 150) = true := by simp; omega
          obtain ⟨y, hy⟩ : ∃ y, L[j]? = some y := ⟨_, List.getElem?_eq_getElem hlt⟩
          obtain ⟨b, o, rfl, hb, x0, x1⟩ := (HE.out.below HC.out.c.low).at2 j y hy
          obtain ⟨a, haa⟩ : ∃ a : Nat, a = (y.2 % 4).toNat := ⟨_, rfl⟩
          have ha3 : bits .and .i64 y.2 3 = (a : Int) := by rw [i64_and3]; omega
          have hwa : IntKind.u32.wrap (a : Int) = (a : Int) := by simp [IntKind.wrap, IntKind.bits, IntKind.signed]; omega
          have ha32 : a < 4294967296 := by omega
          have hk3 : bits .and .i64 y.1 3 = y.1 % 4 := i64_and3 _
          obtain ⟨q, hq⟩ : ∃ q, q = y.1 % 4 := ⟨_, rfl⟩
          have HQ4 : Hid (q = 0 ∨ q = 1 ∨ q = 2 ∨ q = 3) := Lib.hid (by omega)
          rw [← hq] at hk3
          clear hy haa hq
          by_cases hput : q = 0 ∨ q = 1
          · have HPW := Lib.hid (fun V (hb : Below wr.heap.size wr V) => HK.out.put (updM a j) ha32 (HK.out.later HC.out.c.t hb))
            obtain ⟨hp1, hp2⟩ := HI.out.put (by omega) a ha32
            have HI4 := Lib.hid hp2
            rw [hp1] at HPW
            clear hp1 hp2
            clear HQ4
            rcases hput with rfl | rfl
            all_goals
              go_wp2_with fail
              refine (HU.out a j _).mono ?_
              rintro e w4 ⟨rfl, hb4⟩
              have HC4 := Lib.hid (HC.out.later HK.out hb4)
              go_wp2_with fail
              refine (HPW.out _ hb4).mono ?_
              rintro e w5 ⟨Q5, rfl, ht5, hw5⟩
              have HC5 := Lib.hid (HC4.out.way ht5 hw5)
              obtain ⟨w6, hst, hc6, -⟩ := HC5.out.putI1 HK.out a j ha32
              have HC6 := Lib.hid hc6
              clear hb4 ht5 hw5 hc6 x0 x1
              go_wp2
              go_roundw
              case rel => exact ⟨j + 1, Q5, _, _, t, x, now, rfl, by go_num, by omega, by omega, HC6, HI4⟩
              case measure => simp [intOf]; omega
          · by_cases h2 : q = 2
            · subst h2
              clear hput HQ4
              have hwn : IntKind.i64.wrap (now + 1) = now + 1 := by
                have := HI.out.now0
                have := HI.out.now1
                simp [IntKind.wrap, IntKind.bits, IntKind.signed]; omega
              obtain ⟨ht1, ht2⟩ := HI.out.wait.tick (now' := now + 1) (by omega) (by have := HI.out.now1; omega) (by have := HI.out.now1; omega)
              have HTW := Lib.hid (HK.out.tick (now + 1) HC.out.c.t)
              have HLN : Hid (∀ m ∈ B.told (now + 1), m.addr < 4294967296) := Lib.hid (fun m hm => by
                obtain ⟨o, ho, _, rfl⟩ := told_mem.1 hm
                exact (HI.out.ok.keptL o ho).low)
              have HLL : Hid ((B.told (now + 1)).length ≤ 150) := Lib.hid (by
                have h1 := HI.out.cnt
                have h2 : (B.told (now + 1)).length ≤ B.l.length := by unfold BxV.told; rw [List.length_map]; exact List.length_filter_le _ _
                omega)
              rw [ht1] at HTW
              have HI4 := Lib.hid ht2
              clear ht1 ht2
              generalize B.told (now + 1) = l at *
              generalize B.ticked (now + 1) = B5 at *
              go_wp2_with fail
              refine HTW.out.mono ?_
              rintro e w5 ⟨Q5, A5, k5, rfl, ho5, ht5, hw5⟩
              have HC5 := Lib.hid (HC.out.way ht5 hw5)
              have HO5 : Hid (RowO w5 Q5 wr.heap.size A5 k5 l) := Lib.hid ⟨ho5.own, ho5.apart⟩
              have HLT := Lib.hid (show bt < wr.heap.size ∧ bx < wr.heap.size from ⟨HC.out.m2.lt, HC.out.m3.lt⟩)
              clear ho5 ht5 hw5 x0 x1 HTW
              go_wp2
              generalize wr.heap.size = n5 at HO5 HLT
              go_loopw [14] (fun i wr => ∃ k : Nat, k ≤ l.length ∧ i = .int .i64 k ∧ Hid (Car3 T KI KI KI w wr Q5 g B5 bp bt bx p (tellP t (l.take k)) (tellX x (l.take k))) ∧ Hid (RowO wr Q5 n5 A5 k5 l)) (fun i _ => l.length - (intOf i).toNat)
              case atStart => exact ⟨0, Nat.zero_le _, rfl, HC5, HO5⟩
              case round =>
                clear HC5 HO5 HC hg hg2 hk3
                obtain ⟨k, hk, rfl, HCX, HOX⟩ := hrel
                have hl150 := HLL.out
                by_cases hlt3 : k < l.length
                · have hgl : decide ((k : Int) < (l.length : Int)) = true := by simp; omega
                  obtain ⟨m, hm⟩ : ∃ m, l[k]? = some m := ⟨_, List.getElem?_eq_getElem hlt3⟩
                  have hm32 := HLN.out m (List.mem_of_getElem? hm)
                  obtain ⟨b', o', rfl, -, a0, a1, a2, a3, a4, a5, a6, a7, a8, a9, a10⟩ := HOX.out.el.at11 k m hm
                  have HM := Lib.hid hm
                  clear hm
                  go_upto_region 27 with fail
                  go_still_tail 11, (by kernel_rfl)
                  obtain ⟨w6, hw6⟩ : ∃ w6, w6 = wr.drew := ⟨_, rfl⟩
                  have hb6 : Below wr.heap.size wr w6 := by rw [hw6]; exact (Below.refl _ _).drew
                  have HC6 := Lib.hid (HCX.out.later HK.out hb6)
                  have HO6 := Lib.hid (HOX.out.later hb6)
                  obtain ⟨w7, hst, hc7, hg7⟩ := HC6.out.putI2 HK.out m.addr m.pot hm32
                  have HC7 := Lib.hid hc7
                  have HO7 := Lib.hid (HO6.out.grown hg7 HLT.out.1)
                  change wpList _ _ _ _ _ wr.drew
                  rw [← hw6]
                  clear hw6 hb6 hc7 hg7 a0 a1 a2 a3 a4 a5 a6 a7 a8 a9 a10 ha3 hwa hwn
                  obtain ⟨b'', o'', e7, -, a0, a1, a2, a3, a4, a5, a6, a7, a8, a9, a10⟩ := HO7.out.el.at11 k m HM.out
                  injection e7 with e7
                  injection e7 with e71 e72
                  subst e71 e72
                  go_upto_region 28 with fail
                  clear hst
                  go_still_tail 11, (by kernel_rfl)
                  obtain ⟨w8, hw8⟩ : ∃ w8, w8 = w7.drew := ⟨_, rfl⟩
                  have hb8 : Below w7.heap.size w7 w8 := by rw [hw8]; exact (Below.refl _ _).drew
                  have HC8 := Lib.hid (HC7.out.later HK.out hb8)
                  have HO8 := Lib.hid (HO7.out.later hb8)
                  obtain ⟨w9, hst, hc9, hg9⟩ := HC8.out.putI3 HK.out m.addr m.xid hm32
                  have HC9 : Hid (Car3 T KI KI KI w w9 Q5 g B5 bp bt bx p (tellP t (l.take (k + 1))) (tellX x (l.take (k + 1)))) := Lib.hid (by
                    rw [take_snoc_of l k m HM.out, tellP_snoc, tellX_snoc]
                    exact hc9)
                  have HO9 := Lib.hid (HO8.out.grown hg9 HLT.out.2)
                  change wpList _ _ _ _ _ w7.drew
                  rw [← hw8]
                  clear hw8 hb8 hc9 hg9 a0 a1 a2 a3 a4 a5 a6 a7 a8 a9 a10
                  go_wp2
                  go_roundw
                  case rel => exact ⟨k + 1, by omega, by go_num, HC9, HO9⟩
                  case measure => simp [intOf]; omega
                · have hgl : decide ((k : Int) < (l.length : Int)) = false := by simp; omega
                  have HC9 : Hid (Car3 T KI KI KI w wr Q5 g B5 bp bt bx p (tellP t l) (tellX x l)) := Lib.hid (by
                    have h := HCX.out
                    rw [List.take_of_length_le (by omega)] at h
                    exact h)
                  go_wp2
                  go_roundw
                  case rel => exact ⟨j + 1, Q5, B5, p, _, _, now + 1, rfl, by go_num, by omega, by omega, HC9, HI4⟩
                  case measure => simp [intOf]; omega
            · obtain rfl : q = 3 := by have := HQ4.out; omega
              clear hput HQ4 h2
              have hlk := ki_look HC.out.m3 a ha32
              have HAK := Lib.hid (HK.out.ack ((x a).getD 0) HC.out.c.t)
              have HI4 := Lib.hid (HI.out.wait.ack a)
              unfold xidF at HI4
              go_wp2_with fail
              refine HAK.out.mono ?_
              rintro e w5 ⟨Q5, rfl, ht5, hw5⟩
              have HC5 := Lib.hid (HC.out.way ht5 hw5)
              clear ht5 hw5 x0 x1 hlk
              go_wp2
              go_roundw
              case rel => exact ⟨j + 1, Q5, _, p, t, x, now, rfl, by go_num, by omega, by omega, HC5, HI4⟩
              case measure => simp [intOf]; omega
        · have hg2 : decide ((j : Int) < 150) = false := by simp; omega
          go_wp2_with fail
          go_meet
          case rel => exact ⟨Q, B, p, t, x, now, rfl, HC, Lib.hid (HI.out.drain hj2)⟩
      · have hg : decide ((j : Int) < (L.length : Int)) = false := by simp; omega
        go_wp2_with fail
        go_meet
        case rel => exact ⟨Q, B, p, t, x, now, rfl, HC, Lib.hid (HI.out.drain hj2)⟩
  case rest =>
    obtain ⟨Q, B, p, t, x, now, rfl, HC, HD⟩ := hcut
    clear HC3 HE HU HA
    go_wp2
    go_loopw [8, 15] (fun nv i wr => ∃ (turn : Nat) (Q : Nat → Prop) (B : BxV) (t : Nat → Option Int) (now : Int), nv = .int .i64 now ∧ i = .int .i64 turn ∧ turn ≤ 150 ∧ Hid (Car3 T KI KI KI w wr Q g B bp bt bx p t x) ∧ Hid (DrainI B p t now turn)) (fun _ i _ => 400 - (intOf i).toNat)
    case atStart => exact ⟨0, Q, B, t, now, rfl, rfl, by omega, HC, HD⟩
    case round =>
      clear HC HD
      obtain ⟨turn, Q, B, t, now, rfl, rfl, hturn, HC, HD⟩ := hrel
      have hg : decide ((turn : Int) < 400) = true := by simp; omega
      have HL1 := Lib.hid (HK.out.len HC.out.c.t)
      rw [HD.out.len] at HL1
      by_cases hz : B.l.length = 0
      · have HN := Lib.hid (HD.out.none hz)
        rw [hz] at HL1
        go_wp2_with fail
        refine HL1.out.mono ?_
        rintro e w5 ⟨rfl, hb5⟩
        have HC5 := Lib.hid (HC.out.later HK.out hb5)
        have HL5 := Lib.hid (HK.out.len HC5.out.c.t)
        rw [HD.out.len, hz] at HL5
        clear hb5 HL1 hz
        go_wp2
        have HN5 : Hid (Car3 T KI KI KI w w5 Q g B bp bt bx p p x) := Lib.hid (by rw [HN.out] at HC5; exact HC5.out)
        clear HC HD HC5 hg HN
        go_loopw [21] (fun i wr => ∃ k : Nat, k ≤ 4 ∧ i = .int .u32 k ∧ wr = w5) (fun i _ => 4 - (intOf i).toNat)
        case atStart => exact ⟨0, Nat.zero_le _, rfl, rfl⟩
        case round =>
          obtain ⟨k, hk, rfl, rfl⟩ := hrel
          by_cases hk4 : k < 4
          · have hgk : decide ((k : Int) < 4) = true := by simp; omega
            have hlk1 := ki_look_ok HN5.out.m1 k (by omega)
            have hlk2 := ki_look_ok HN5.out.m2 k (by omega)
            obtain ⟨v, hv⟩ : ∃ v, v = (p k).getD 0 := ⟨_, rfl⟩
            obtain ⟨s, hs⟩ : ∃ s, s = (p k).isSome := ⟨_, rfl⟩
            rw [← hv, ← hs] at hlk1 hlk2
            have q1 : (s != s) = false := by simp
            have q2 : (v != v) = false := by simp
            clear hv hs
            go_wp2
            go_roundw
            case rel => exact ⟨k + 1, by omega, by go_num, by first | rfl | trivial⟩
            case measure => simp [intOf]; omega
          · have hgk : decide ((k : Int) < 4) = false := by simp; omega
            go_wp2_with fail
            refine HL5.out.mono ?_
            rintro e w6 ⟨rfl, hb6⟩
            have HB6 := Lib.hid (HN5.out.c.low.trans (hb6.mono HN5.out.c.low.size))
            clear hb6
            go_wp2
            go_ret
            exact ⟨rfl, HB6.out⟩
      · have hz1 : 1 ≤ B.l.length := by omega
        obtain ⟨n1, hn1⟩ : ∃ n1, n1 = B.l.length := ⟨_, rfl⟩
        rw [← hn1] at HL1 hz1
        have hz2 : decide ((0 : Int) < (n1 : Int)) = true := by simp; omega
        have hwn : IntKind.i64.wrap (now + 3) = now + 3 := by
          have := HD.out.now0
          have := HD.out.now1
          simp [IntKind.wrap, IntKind.bits, IntKind.signed]; omega
        obtain ⟨ht1, ht2⟩ := HD.out.tick
        have HTW := Lib.hid (fun V (hb : Below wr.heap.size wr V) => HK.out.tick (now + 3) (HK.out.later HC.out.c.t hb))
        have HLN : Hid (∀ m ∈ B.l.map (·.m), m.addr < 4294967296) := Lib.hid (fun m hm => by
          obtain ⟨o, ho, rfl⟩ := List.mem_map.1 hm
          exact (HD.out.ok.keptL o ho).low)
        have HLL : Hid ((B.l.map (·.m)).length = n1) := Lib.hid (by rw [List.length_map, hn1])
        have hn150 : n1 ≤ 150 := by have := HD.out.cnt; omega
        rw [ht1] at HTW
        have HS0 := Lib.hid ht2
        clear ht1 ht2 hn1 hz
        generalize B.l.map (·.m) = l at *
        generalize B.ticked (now + 3) = B5 at *
        go_wp2_with fail
        refine HL1.out.mono ?_
        rintro e w4 ⟨rfl, hb4⟩
        have HC4 := Lib.hid (HC.out.later HK.out hb4)
        go_wp2_with fail
        refine (HTW.out _ hb4).mono ?_
        rintro e w5 ⟨Q5, A5, k5, rfl, ho5, ht5, hw5⟩
        have HC5 := Lib.hid (HC4.out.way ht5 hw5)
        have HO5 : Hid (RowO w5 Q5 w4.heap.size A5 k5 l) := Lib.hid ⟨ho5.own, ho5.apart⟩
        have HLT := Lib.hid HC4.out.m2.lt
        clear ho5 ht5 hw5 HTW HC hb4 HC4 HL1 HD hz2 hg
        go_wp2
        generalize w4.heap.size = n5 at HO5 HLT
        go_loopw [18] (fun i wr => ∃ (k : Nat) (Q : Nat → Prop) (B : BxV) (t : Nat → Option Int), k ≤ l.length ∧ i = .int .i64 k ∧ Hid (Car3 T KI KI KI w wr Q g B bp bt bx p t x) ∧ Hid (RowO wr Q n5 A5 k5 l) ∧ Hid (StrikeI B p t (now + 3) turn l k)) (fun i _ => l.length - (intOf i).toNat)
        case atStart => exact ⟨0, Q5, B5, t, Nat.zero_le _, rfl, HC5, HO5, HS0⟩
        case round =>
          clear HC5 HO5 HS0
          obtain ⟨k, Q, B, t, hk, rfl, HCX, HOX, HSX⟩ := hrel
          have hl150 : l.length ≤ 150 := by have := HLL.out; omega
          by_cases hlt3 : k < l.length
          · have hgl : decide ((k : Int) < (l.length : Int)) = true := by simp; omega
            obtain ⟨m, hm⟩ : ∃ m, l[k]? = some m := ⟨_, List.getElem?_eq_getElem hlt3⟩
            have hm32 := HLN.out m (List.mem_of_getElem? hm)
            obtain ⟨b', o', rfl, -, a0, a1, a2, a3, a4, a5, a6, a7, a8, a9, a10⟩ := HOX.out.el.at11 k m hm
            have HM := Lib.hid hm
            obtain ⟨q1, q2⟩ := HSX.out.step hm
            have HS7 := Lib.hid q2
            have HAK := Lib.hid (fun V (h : T V Q g B) => HK.out.ack m.xid h)
            rw [q1, show ackR (some m) = (m, true) from rfl] at HAK
            clear hm q1 q2
            generalize (B.acked m.xid).1 = B7 at *
            go_upto_region 37 with fail
            go_still_tail 11, (by kernel_rfl)
            obtain ⟨w6, hw6⟩ : ∃ w6, w6 = wr.drew := ⟨_, rfl⟩
            have hb6 : Below wr.heap.size wr w6 := by rw [hw6]; exact (Below.refl _ _).drew
            have HC6 := Lib.hid (HCX.out.later HK.out hb6)
            have HO6 := Lib.hid (HOX.out.later hb6)
            obtain ⟨w7, hst, hc7, hg7⟩ := HC6.out.putI2 HK.out m.addr m.pot hm32
            have HC7 := Lib.hid hc7
            have HO7 := Lib.hid (HO6.out.grown hg7 HLT.out)
            change wpList _ _ _ _ _ wr.drew
            rw [← hw6]
            clear hw6 hb6 hc7 hg7 a0 a1 a2 a3 a4 a5 a6 a7 a8 a9 a10
            obtain ⟨b'', o'', e7, -, a0, a1, a2, a3, a4, a5, a6, a7, a8, a9, a10⟩ := HO7.out.el.at11 k m HM.out
            injection e7 with e7
            injection e7 with e71 e72
            subst e71 e72
            go_wp2_with fail
            refine (HAK.out _ HC7.out.c.t).mono ?_
            rintro e w8 ⟨Q8, rfl, ht8, hw8⟩
            have HC8 := Lib.hid (HC7.out.way ht8 hw8)
            have HO8 := Lib.hid (HO7.out.way hw8)
            clear ht8 hw8 a0 a1 a2 a3 a4 a5 a6 a7 a8 a9 a10 hst
            obtain ⟨w9, hw9⟩ : ∃ w9, w9 = w8.alloc (mbox m) := ⟨_, rfl⟩
            have hb9 : Below w8.heap.size w8 w9 := by rw [hw9]; exact (Below.refl _ _).alloc (Nat.le_refl _) _
            have HC9 := Lib.hid (HC8.out.later HK.out hb9)
            have HO9 := Lib.hid (HO8.out.later hb9)
            have HW9 := Lib.hid hw9
            clear hw9 hb9
            go_upto_region 39 with fail
            rw [show ∀ V : World, V.alloc (.cells #[.int .i64 m.kind, .int .i64 m.life, .int .i64 m.seen, .int .i64 m.xid, .int .i64 m.state, .int .u32 (m.addr : Int), .int .i64 m.bind, .string m.client, .int .i64 m.pot, .int .i64 m.at_, .bool m.ok] 31) = V.alloc (mbox m) from fun _ => rfl, ← HW9.out]
            go_wp2
            go_roundw
            case rel => exact ⟨k + 1, Q8, B7, _, by omega, by go_num, HC9, HO9, HS7⟩
            case measure => simp [intOf]; omega
          · have hgl : decide ((k : Int) < (l.length : Int)) = false := by simp; omega
            have HD9 := Lib.hid (HSX.out.done (by have := HLL.out; omega))
            have hc9 := HD9.out.cnt
            go_wp2
            go_roundw
            case rel => exact ⟨turn + 1, Q, B, t, now + 3, rfl, by go_num, by omega, HCX, HD9⟩
            case measure => simp [intOf]; omega
end Go.Proofs.Ytekladmddfibaaa
