/- The law OutboxAnswers, over any box and record (BoxK, SeenK). -/
import Derived.Test.YtekladmddfibaaaBoxQ
import Derived.Test.YtekladmddfibaaaBoxS
import Derived.Deep.RegionWith
import Derived.Deep.DeepCutAuto
namespace Go.Proofs.Ytekladmddfibaaa
open Go.RowKit Go.Sort

/-- Two numbers each, as elements of slices. -/
def ElemP : Elem Try.prog (Int × Int) where
  e := 53
  ty := 51
  m := 2
  bytes := 16
  zero := .agg #[.int .i64 0, .int .i64 0]
  cells := fun x => [.int .i64 x.1, .int .i64 x.2]
  hm := by decide
  hb0 := by decide
  hb := by decide
  len := fun _ => rfl
  one := fun v u hu => by
    simp at hu
    rcases hu with rfl | rfl <;> rfl
  und := Try.underlying51
  info := by kernel_rfl
  hz := rfl
theorem El.at2 {w : World} {B : Nat} {A : Option Addr} {l : List (Int × Int)} (h : El ElemP w B A l) (i : Nat) (x : Int × Int) (hx : l[i]? = some x) : ∃ b o, A = some ⟨b, o, none⟩ ∧ b < B ∧ w.cell? ⟨b, o + i * 2, none⟩ = some (.int .i64 x.1) ∧ w.cell? ⟨b, o + i * 2 + 1, none⟩ = some (.int .i64 x.2) := by
  obtain ⟨b, o, h1, h2, h3⟩ := h.at_ i x hx
  exact ⟨b, o, h1, h2, h3 0 _ rfl, h3 1 _ rfl⟩

/-- The program's box, made since w0. -/
structure CarT (T : World → (Nat → Prop) → Nat → BxV → Prop) (w0 w : World) (Q : Nat → Prop) (g : Nat) (B : BxV) : Prop where
  t : T w Q g B
  low : Below w0.heap.size w0 w
  q : ∀ b, Q b → w0.heap.size ≤ b
/-- A list that Tick answered, beside it. -/
structure RowO (w : World) (Q : Nat → Prop) (n : Nat) (A : Option Addr) (c : Nat) (l : List MsgV) : Prop where
  own : w.ownsRow n ElemM.e ElemM.m (.slice A l.length c) l.length (ecells ElemM l)
  apart : ∀ b, (Value.slice A l.length c).ownBlock = some b → ¬ Q b
section
variable {T : World → (Nat → Prop) → Nat → BxV → Prop} {w0 w w' : World} {Q Q' : Nat → Prop} {g n c : Nat} {B B' : BxV} {A : Option Addr} {l : List MsgV}
theorem CarT.later (K : BoxK T) (h : CarT T w0 w Q g B) (hb : Below w.heap.size w w') : CarT T w0 w' Q g B := ⟨K.later h.t hb, h.low.trans (hb.mono h.low.size), h.q⟩
theorem CarT.way (h : CarT T w0 w Q g B) (h1 : T w' Q' g B') (hw : Way Q w Q' w') : CarT T w0 w' Q' g B' := ⟨h1, h.low.trans (hw.below h.low.size h.q), hw.low h.low.size h.q⟩
theorem RowO.later (h : RowO w Q n A c l) (hb : Below w.heap.size w w') : RowO w' Q n A c l := ⟨own_keep h.own fun b hk => hb.block b (h.own.lt b hk).2, h.apart⟩
theorem RowO.way (h : RowO w Q n A c l) (hw : Way Q w Q' w') : RowO w' Q' n A c l :=
  ⟨own_keep h.own fun b hk => hw.oth.block b (h.own.lt b hk).2 (h.apart b hk), fun b hk hq => by
    rcases hw.new b hq with h1 | h1
    · exact h.apart b hk h1
    · have := (h.own.lt b hk).2; omega⟩
theorem RowO.el (h : RowO w Q n A c l) : El ElemM w w.heap.size A l := El.of_own h.own
end

/-- In the loop of answers: what is not answered yet is out. -/
structure AnsI (B : BxV) (l : List MsgV) (j : Nat) : Prop where
  ok : B.Ok
  few : B.xid ≤ 100 + j
  len : B.l.length ≤ l.length
  there : ∀ k, j ≤ k → k < l.length → ∃ o ∈ B.l, l[k]? = some o.m
  rise : l.Pairwise fun x y => x.xid < y.xid
attribute [local go_sem ↓] run_eqlC run_neqC run_guardC
set_option maxRecDepth 100000 in
set_option maxHeartbeats 4000000 in
theorem law_oanswers {T : World → (Nat → Prop) → Nat → BxV → Prop} {U : World → (Nat → Prop) → Nat → List NtV → Prop} (K : BoxK T) (KS : SeenK U) (A : Option Addr) (c : Nat) (L : List (Int × Int)) (w : World) (hE : El ElemP w w.heap.size A L) :
    Calls Try.prog 7 #[.slice A L.length c] w fun e w' => e = .returned (.bool true) ∧ Below w.heap.size w w' := by
  have HA := Lib.hid (fun V => oawake_any K KS V)
  have HU := Lib.hid (fun a n V => update_any a n V)
  have HK := Lib.hid K
  have HE := Lib.hid hE
  clear K KS hE
  go_enter Try.func7, Try.ntmps7
  go_wp2_with fail
  refine (HA.out _).mono ?_
  rintro e w1 ⟨rfl, hb1⟩
  have HB1 := Lib.hid hb1
  clear hb1
  go_wp2_with fail
  refine (HK.out.new _).mono ?_
  rintro e w2 ⟨Q2, g, rfl, hu2, hb2, hq2⟩
  have HC2 : Hid (CarT T w w2 Q2 g newB) := Lib.hid ⟨hu2, HB1.out.trans (hb2.mono HB1.out.size), fun b hb => Nat.le_trans HB1.out.size (hq2 b hb)⟩
  clear hu2 hb2 hq2
  go_wp2
  go_loopw [5] (fun i wr => ∃ (j : Nat) (Q : Nat → Prop) (B : BxV), i = .int .i64 j ∧ j ≤ L.length ∧ j ≤ 100 ∧ Hid (CarT T w wr Q g B) ∧ Hid (PutsI B j)) (fun i _ => 100 - (intOf i).toNat)
  case atStart => exact ⟨0, Q2, newB, rfl, Nat.zero_le _, by omega, HC2, Lib.hid puts_new⟩
  case round =>
    clear HC2
    obtain ⟨j, Q, B, rfl, hj, hj2, HC, HP⟩ := hrel
    by_cases hgo : j < L.length ∧ j < 100
    · obtain ⟨hlt, h100⟩ := hgo
      have hg : decide ((j : Int) < (L.length : Int)) = true := by simp; omega
      have hg2 : decide ((j : Int) < 100) = true := by simp; omega
      obtain ⟨x, hx⟩ : ∃ x, L[j]? = some x := ⟨_, List.getElem?_eq_getElem hlt⟩
      obtain ⟨b, o, rfl, hb, x0, x1⟩ := (HE.out.below HC.out.low).at2 j x hx
      obtain ⟨a, haa⟩ : ∃ a : Nat, a = (x.1 % 8).toNat := ⟨_, rfl⟩
      have hb7 : bits .and .i64 x.1 7 = (a : Int) := by rw [i64_and7]; omega
      have hwa : IntKind.u32.wrap (a : Int) = (a : Int) := by simp [IntKind.wrap, IntKind.bits, IntKind.signed]; omega
      have ha32 : a < 4294967296 := by omega
      have HX := Lib.hid hx
      have HAA := Lib.hid haa
      clear hx haa
      go_upto_region 8 with fail
      go_region_with (first
        | (go_at_call 24; refine (HU.out _ _ _).mono ?_; rintro e w3 ⟨rfl, hb3'⟩; have hb3 : Below wr.heap.size wr w3 := (by first | exact hb3' | exact ((Below.refl _ wr).drew).trans hb3'))
        | (go_at_call 23; refine (HK.out.put (updM a x.2) ha32 (HK.out.later HC.out.t hb3)).mono ?_; rintro e w4 ⟨Q4, rfl, ht4, hw4⟩))
      all_goals
        have HC4 := Lib.hid ((HC.out.later HK.out hb3).way ht4 hw4)
        have HP4 := Lib.hid (puts_step HP.out (by omega) a x.2 ha32)
        clear ht4 hw4 hb3
        go_wp2
        go_roundw
        case rel => exact ⟨j + 1, Q4, _, by go_num, by omega, by omega, HC4, HP4⟩
        case measure => simp [intOf]; omega
    · have hx := HP.out.few
      obtain ⟨l, hl⟩ : ∃ l, l = B.l.map (·.m) := ⟨_, rfl⟩
      have hln : l.length = B.l.length := by rw [hl, List.length_map]
      have hlen : B.len = l.length := by rw [hln]; exact len_out HP.out.ok (by omega)
      have hlast : B.xid = (l.length : Int) := by rw [hln]; exact HP.out.cnt
      have htick : B.tick 5 = (B.ticked 5, l, 0) := by rw [hl]; exact tick_all HP.out.fresh
      have H1 := Lib.hid (HK.out.len HC.out.t)
      have H2 := Lib.hid (fun V (hb : Below wr.heap.size wr V) => HK.out.tick 5 (HK.out.later HC.out.t hb))
      have H3 := Lib.hid (fun V Q' (ht : T V Q' g (B.ticked 5)) => HK.out.last ht)
      rw [hlen] at H1
      rw [htick] at H2
      rw [show (B.ticked 5).xid = (l.length : Int) from hlast] at H3
      have HINV : Hid (AnsI (B.ticked 5) l 0) := Lib.hid (by
        refine ⟨ticked_ok HP.out.ok (by decide) (by decide), by show B.xid ≤ _; omega, by show (B.l.map _).length ≤ _; rw [List.length_map]; omega, fun k _ hk => ?_, ?_⟩
        · obtain ⟨o, ho⟩ : ∃ o, B.l[k]? = some o := ⟨_, List.getElem?_eq_getElem (by omega)⟩
          exact ⟨sentO 5 o, List.mem_map.2 ⟨o, List.mem_of_getElem? ho, rfl⟩, by rw [hl, List.getElem?_map, ho, sent_m]; rfl⟩
        · rw [hl]
          exact List.pairwise_map.2 HP.out.ok.rise)
      obtain ⟨B5, hB5⟩ : ∃ B5, B5 = B.ticked 5 := ⟨_, rfl⟩
      rw [← hB5] at H2 H3 HINV
      have hl100 : l.length ≤ 100 := by omega
      have s0 : ((l.length : Int) != (l.length : Int)) = false := by simp
      clear hlen hlast hl htick hln hB5 hx HP
      by_cases hlt : j < L.length
      · have hg : decide ((j : Int) < (L.length : Int)) = true := by simp; omega
        have hg2 : decide ((j : Int) < 100) = false := by simp; omega
        go_wp2_with fail
        refine H1.out.mono ?_
        rintro e w4 ⟨rfl, hb4⟩
        have HC4 := Lib.hid (HC.out.later HK.out hb4)
        go_wp2_with fail
        refine (H2.out _ hb4).mono ?_
        rintro e w5 ⟨Q5, A5, k5, rfl, ho5, ht5, hw5⟩
        have HC5 := Lib.hid (HC4.out.way ht5 hw5)
        have HO5 : Hid (RowO w5 Q5 w4.heap.size A5 k5 l) := Lib.hid ⟨ho5.own, ho5.apart⟩
        clear hb4 ho5 ht5 hw5
        go_wp2_with fail
        refine (H3.out _ _ HC5.out.t).mono ?_
        rintro e w6 ⟨rfl, hb6⟩
        have HC6 := Lib.hid (HC5.out.later HK.out hb6)
        have HO6 := Lib.hid (HO5.out.later hb6)
        clear hb6
        go_wp2
        go_loopw [9] (fun i wr => ∃ (j : Nat) (Q : Nat → Prop) (B : BxV), i = .int .i64 j ∧ j ≤ l.length ∧ Hid (CarT T w wr Q g B) ∧ Hid (RowO wr Q w4.heap.size A5 k5 l) ∧ Hid (AnsI B l j)) (fun i _ => l.length - (intOf i).toNat)
        case atStart => exact ⟨0, Q5, B5, rfl, Nat.zero_le _, HC6, HO6, HINV⟩
        case round =>
          clear HC6 HO6 HINV HC5 HO5 HC4 HC
          obtain ⟨j, Q, B, rfl, hj, HC, HO, HI⟩ := hrel
          by_cases hlt : j < l.length
          · have hgl : decide ((j : Int) < (l.length : Int)) = true := by simp; omega
            obtain ⟨o9, ho9, hx9⟩ := HI.out.there j (Nat.le_refl _) hlt
            obtain ⟨x, hxx⟩ : ∃ x, x = o9.m := ⟨_, rfl⟩
            rw [← hxx] at hx9
            obtain ⟨q1, q2, q3, q4, q5, q6⟩ := acked_out HI.out.ok ho9
            rw [← hxx] at q1 q2 q3 q4 q5 q6
            obtain ⟨B7, hB7⟩ : ∃ B7, B7 = (B.acked x.xid).1 := ⟨_, rfl⟩
            have HA7 := Lib.hid (HK.out.ack x.xid HC.out.t)
            have HA9 := Lib.hid (fun V Q' (h : T V Q' g B7) => HK.out.ack x.xid h)
            rw [q1, show ackR (some x) = (x, true) from rfl] at HA7
            rw [← hB7] at HA7 q2 q3 q4 q5 q6
            rw [q6, show ackR (none : Option MsgV) = (zeroM, false) from rfl] at HA9
            have HI7 : Hid (AnsI B7 l (j + 1)) := Lib.hid (by
              refine ⟨by rw [hB7]; exact acked_ok HI.out.ok _, by have := HI.out.few; omega, by have := HI.out.len; omega, fun k hk hkl => ?_, HI.out.rise⟩
              obtain ⟨p, hp, hpk⟩ := HI.out.there k (by omega) hkl
              refine ⟨p, q5 p hp ?_, hpk⟩
              have hr := List.pairwise_iff_getElem.1 HI.out.rise j k hlt hkl (by omega)
              obtain ⟨_, e1⟩ := List.getElem?_eq_some_iff.1 hx9
              obtain ⟨_, e2⟩ := List.getElem?_eq_some_iff.1 hpk
              rw [e1, e2] at hr
              omega)
            have hself : eqB x.kind x.life x.seen x.xid x.state (x.addr : Int) x.bind x.client x.pot x.at_ x.ok x.kind x.life x.seen x.xid x.state (x.addr : Int) x.bind x.client x.pot x.at_ x.ok = true := by rw [eqB_of]; simp
            obtain ⟨b, o, rfl, -, a0, a1, a2, a3, a4, a5, a6, a7, a8, a9, a10⟩ := HO.out.el.at11 j x hx9
            have HX := Lib.hid hx9
            clear hx9 hxx q1 q2 q3 q4 q5 q6 hB7 ho9
            go_wp2_with fail
            refine HA7.out.mono ?_
            rintro e w7 ⟨Q7, rfl, ht7, hw7⟩
            have HC7 := Lib.hid (HC.out.way ht7 hw7)
            have HO7 := Lib.hid (HO.out.way hw7)
            clear ht7 hw7 a0 a1 a2 a3 a4 a5 a6 a7 a8 a9 a10
            obtain ⟨w8, hw8⟩ : ∃ w8, w8 = w7.alloc (mbox x) := ⟨_, rfl⟩
            have hb8 : Below w7.heap.size w7 w8 := by rw [hw8]; exact (Below.refl _ _).alloc (Nat.le_refl _) _
            have HM8 := Lib.hid (show MBox w8 w7.heap.size x by rw [hw8]; exact MBox.new w7 x)
            have HC8 := Lib.hid (HC7.out.later HK.out hb8)
            have HO8 := Lib.hid (HO7.out.later hb8)
            have HNQ : Hid (¬ Q7 w7.heap.size) := Lib.hid (fun hq => Nat.lt_irrefl _ (HK.out.lt HC7.out.t _ hq))
            have HW8 := Lib.hid hw8
            clear hw8 hb8
            obtain ⟨b', o', e8, -, a0, a1, a2, a3, a4, a5, a6, a7, a8, a9, a10⟩ := HO8.out.el.at11 j x HX.out
            injection e8 with e8
            injection e8 with e81 e82
            subst e81 e82
            go_upto_region 17 with fail
            rw [show ∀ V : World, V.alloc (.cells #[.int .i64 x.kind, .int .i64 x.life, .int .i64 x.seen, .int .i64 x.xid, .int .i64 x.state, .int .u32 (x.addr : Int), .int .i64 x.bind, .string x.client, .int .i64 x.pot, .int .i64 x.at_, .bool x.ok] 31) = V.alloc (mbox x) from fun _ => rfl, ← HW8.out]
            go_wp2_with fail
            refine (HA9.out _ _ HC8.out.t).mono ?_
            rintro e w9 ⟨Q9, rfl, ht9, hw9⟩
            have HC9 := Lib.hid (HC8.out.way ht9 hw9)
            have HO9 := Lib.hid (HO8.out.way hw9)
            have HM9 := Lib.hid (HM8.out.way hw9 HNQ.out)
            clear ht9 hw9 a0 a1 a2 a3 a4 a5 a6 a7 a8 a9 a10
            obtain ⟨zm, hzm⟩ : ∃ zm, zm = zeroM := ⟨_, rfl⟩
            rw [← hzm]
            clear hzm
            obtain ⟨w10, hw10⟩ : ∃ w10, w10 = w9.alloc (mbox zm) := ⟨_, rfl⟩
            have hb10 : Below w9.heap.size w9 w10 := by rw [hw10]; exact (Below.refl _ _).alloc (Nat.le_refl _) _
            have HC10 := Lib.hid (HC9.out.later HK.out hb10)
            have HO10 := Lib.hid (HO9.out.later hb10)
            have HM10 := Lib.hid (HM9.out.later hb10)
            have HW10 := Lib.hid hw10
            clear hw10 hb10
            obtain ⟨b', o', e8, -, a0, a1, a2, a3, a4, a5, a6, a7, a8, a9, a10⟩ := HO10.out.el.at11 j x HX.out
            injection e8 with e8
            injection e8 with e81 e82
            subst e81 e82
            obtain ⟨d0, d1, d2, d3, d4, d5, d6, d7, d8, d9, d10⟩ := HM10.out.all
            go_upto_region 18 with fail
            rw [show ∀ V : World, V.alloc (.cells #[.int .i64 zm.kind, .int .i64 zm.life, .int .i64 zm.seen, .int .i64 zm.xid, .int .i64 zm.state, .int .u32 (zm.addr : Int), .int .i64 zm.bind, .string zm.client, .int .i64 zm.pot, .int .i64 zm.at_, .bool zm.ok] 31) = V.alloc (mbox zm) from fun _ => rfl, ← HW10.out]
            go_quiet (fail)
            obtain ⟨w11, hw11⟩ : ∃ w11, w11 = w10.drewN nq := ⟨_, rfl⟩
            have hb11 : Below w10.heap.size w10 w11 := by rw [hw11]; exact ⟨rfl, rfl, rfl, Nat.le_refl _, fun _ _ => rfl⟩
            rw [← hw11]
            have HC11 := Lib.hid (HC10.out.later HK.out hb11)
            have HO11 := Lib.hid (HO10.out.later hb11)
            clear hw11 hb11 a0 a1 a2 a3 a4 a5 a6 a7 a8 a9 a10 d0 d1 d2 d3 d4 d5 d6 d7 d8 d9 d10
            go_wp2
            go_roundw
            case rel => exact ⟨j + 1, Q9, B7, by go_num, by omega, HC11, HO11, HI7⟩
            case measure => simp [intOf]; omega
          · have hgl : decide ((j : Int) < (l.length : Int)) = false := by simp; omega
            have hag := again_ok HI.out.ok
            have hlag : B.again.l.length = B.l.length := by show (B.l.map _).length = _; rw [List.length_map]
            obtain ⟨p, hp⟩ : ∃ p, p = B.again.l.map (·.m) := ⟨_, rfl⟩
            have hpl : p.length = B.l.length := by rw [hp, List.length_map, hlag]
            have HA1 := Lib.hid (HK.out.again HC.out.t)
            have HT1 := Lib.hid (fun V Q' (h : T V Q' g B.again) => HK.out.tick 5 h)
            rw [tick_all again_all, ← hp] at HT1
            have HL1 := Lib.hid (fun V Q' (h : T V Q' g (B.again.ticked 5)) => HK.out.len h)
            have hlen9 : (B.again.ticked 5).len = p.length := by
              rw [len_out (ticked_ok hag (by decide) (by decide)) (by show B.xid < _; have := HI.out.few; omega)]
              show (B.again.l.map _).length = _
              rw [List.length_map, hpl, hlag]
            rw [hlen9] at HL1
            have hle : p.length ≤ l.length := by have := HI.out.len; omega
            have s1 : ((p.length : Int) == (p.length : Int)) = true := by simp
            have s2 : decide ((p.length : Int) ≤ (l.length : Int)) = true := by simp; omega
            clear hag hlag hp hpl hlen9
            go_wp2_with fail
            refine HA1.out.mono ?_
            rintro e w7 ⟨Q7, rfl, ht7, hw7⟩
            have HC7 := Lib.hid (HC.out.way ht7 hw7)
            clear ht7 hw7
            go_wp2_with fail
            refine (HT1.out _ _ HC7.out.t).mono ?_
            rintro e w8 ⟨Q8, A8, k8, rfl, -, ht8, hw8⟩
            have HC8 := Lib.hid (HC7.out.way ht8 hw8)
            clear ht8 hw8
            go_wp2_with fail
            refine (HL1.out _ _ HC8.out.t).mono ?_
            rintro e w9 ⟨rfl, hb9⟩
            have HC9 := Lib.hid (HC8.out.later HK.out hb9)
            clear hb9
            go_wp2_with fail
            refine (HL1.out _ _ HC9.out.t).mono ?_
            rintro e w10 ⟨rfl, hb10⟩
            have HC10 := Lib.hid (HC9.out.later HK.out hb10)
            clear hb10
            go_wp2
            go_ret
            exact ⟨rfl, HC10.out.low⟩
      · have hg : decide ((j : Int) < (L.length : Int)) = false := by simp; omega
        go_wp2_with fail
        refine H1.out.mono ?_
        rintro e w4 ⟨rfl, hb4⟩
        have HC4 := Lib.hid (HC.out.later HK.out hb4)
        go_wp2_with fail
        refine (H2.out _ hb4).mono ?_
        rintro e w5 ⟨Q5, A5, k5, rfl, ho5, ht5, hw5⟩
        have HC5 := Lib.hid (HC4.out.way ht5 hw5)
        have HO5 : Hid (RowO w5 Q5 w4.heap.size A5 k5 l) := Lib.hid ⟨ho5.own, ho5.apart⟩
        clear hb4 ho5 ht5 hw5
        go_wp2_with fail
        refine (H3.out _ _ HC5.out.t).mono ?_
        rintro e w6 ⟨rfl, hb6⟩
        have HC6 := Lib.hid (HC5.out.later HK.out hb6)
        have HO6 := Lib.hid (HO5.out.later hb6)
        clear hb6
        go_wp2
        go_loopw [9] (fun i wr => ∃ (j : Nat) (Q : Nat → Prop) (B : BxV), i = .int .i64 j ∧ j ≤ l.length ∧ Hid (CarT T w wr Q g B) ∧ Hid (RowO wr Q w4.heap.size A5 k5 l) ∧ Hid (AnsI B l j)) (fun i _ => l.length - (intOf i).toNat)
        case atStart => exact ⟨0, Q5, B5, rfl, Nat.zero_le _, HC6, HO6, HINV⟩
        case round =>
          clear HC6 HO6 HINV HC5 HO5 HC4 HC
          obtain ⟨j, Q, B, rfl, hj, HC, HO, HI⟩ := hrel
          by_cases hlt : j < l.length
          · have hgl : decide ((j : Int) < (l.length : Int)) = true := by simp; omega
            obtain ⟨o9, ho9, hx9⟩ := HI.out.there j (Nat.le_refl _) hlt
            obtain ⟨x, hxx⟩ : ∃ x, x = o9.m := ⟨_, rfl⟩
            rw [← hxx] at hx9
            obtain ⟨q1, q2, q3, q4, q5, q6⟩ := acked_out HI.out.ok ho9
            rw [← hxx] at q1 q2 q3 q4 q5 q6
            obtain ⟨B7, hB7⟩ : ∃ B7, B7 = (B.acked x.xid).1 := ⟨_, rfl⟩
            have HA7 := Lib.hid (HK.out.ack x.xid HC.out.t)
            have HA9 := Lib.hid (fun V Q' (h : T V Q' g B7) => HK.out.ack x.xid h)
            rw [q1, show ackR (some x) = (x, true) from rfl] at HA7
            rw [← hB7] at HA7 q2 q3 q4 q5 q6
            rw [q6, show ackR (none : Option MsgV) = (zeroM, false) from rfl] at HA9
            have HI7 : Hid (AnsI B7 l (j + 1)) := Lib.hid (by
              refine ⟨by rw [hB7]; exact acked_ok HI.out.ok _, by have := HI.out.few; omega, by have := HI.out.len; omega, fun k hk hkl => ?_, HI.out.rise⟩
              obtain ⟨p, hp, hpk⟩ := HI.out.there k (by omega) hkl
              refine ⟨p, q5 p hp ?_, hpk⟩
              have hr := List.pairwise_iff_getElem.1 HI.out.rise j k hlt hkl (by omega)
              obtain ⟨_, e1⟩ := List.getElem?_eq_some_iff.1 hx9
              obtain ⟨_, e2⟩ := List.getElem?_eq_some_iff.1 hpk
              rw [e1, e2] at hr
              omega)
            have hself : eqB x.kind x.life x.seen x.xid x.state (x.addr : Int) x.bind x.client x.pot x.at_ x.ok x.kind x.life x.seen x.xid x.state (x.addr : Int) x.bind x.client x.pot x.at_ x.ok = true := by rw [eqB_of]; simp
            obtain ⟨b, o, rfl, -, a0, a1, a2, a3, a4, a5, a6, a7, a8, a9, a10⟩ := HO.out.el.at11 j x hx9
            have HX := Lib.hid hx9
            clear hx9 hxx q1 q2 q3 q4 q5 q6 hB7 ho9
            go_wp2_with fail
            refine HA7.out.mono ?_
            rintro e w7 ⟨Q7, rfl, ht7, hw7⟩
            have HC7 := Lib.hid (HC.out.way ht7 hw7)
            have HO7 := Lib.hid (HO.out.way hw7)
            clear ht7 hw7 a0 a1 a2 a3 a4 a5 a6 a7 a8 a9 a10
            obtain ⟨w8, hw8⟩ : ∃ w8, w8 = w7.alloc (mbox x) := ⟨_, rfl⟩
            have hb8 : Below w7.heap.size w7 w8 := by rw [hw8]; exact (Below.refl _ _).alloc (Nat.le_refl _) _
            have HM8 := Lib.hid (show MBox w8 w7.heap.size x by rw [hw8]; exact MBox.new w7 x)
            have HC8 := Lib.hid (HC7.out.later HK.out hb8)
            have HO8 := Lib.hid (HO7.out.later hb8)
            have HNQ : Hid (¬ Q7 w7.heap.size) := Lib.hid (fun hq => Nat.lt_irrefl _ (HK.out.lt HC7.out.t _ hq))
            have HW8 := Lib.hid hw8
            clear hw8 hb8
            obtain ⟨b', o', e8, -, a0, a1, a2, a3, a4, a5, a6, a7, a8, a9, a10⟩ := HO8.out.el.at11 j x HX.out
            injection e8 with e8
            injection e8 with e81 e82
            subst e81 e82
            go_upto_region 17 with fail
            rw [show ∀ V : World, V.alloc (.cells #[.int .i64 x.kind, .int .i64 x.life, .int .i64 x.seen, .int .i64 x.xid, .int .i64 x.state, .int .u32 (x.addr : Int), .int .i64 x.bind, .string x.client, .int .i64 x.pot, .int .i64 x.at_, .bool x.ok] 31) = V.alloc (mbox x) from fun _ => rfl, ← HW8.out]
            go_wp2_with fail
            refine (HA9.out _ _ HC8.out.t).mono ?_
            rintro e w9 ⟨Q9, rfl, ht9, hw9⟩
            have HC9 := Lib.hid (HC8.out.way ht9 hw9)
            have HO9 := Lib.hid (HO8.out.way hw9)
            have HM9 := Lib.hid (HM8.out.way hw9 HNQ.out)
            clear ht9 hw9 a0 a1 a2 a3 a4 a5 a6 a7 a8 a9 a10
            obtain ⟨zm, hzm⟩ : ∃ zm, zm = zeroM := ⟨_, rfl⟩
            rw [← hzm]
            clear hzm
            obtain ⟨w10, hw10⟩ : ∃ w10, w10 = w9.alloc (mbox zm) := ⟨_, rfl⟩
            have hb10 : Below w9.heap.size w9 w10 := by rw [hw10]; exact (Below.refl _ _).alloc (Nat.le_refl _) _
            have HC10 := Lib.hid (HC9.out.later HK.out hb10)
            have HO10 := Lib.hid (HO9.out.later hb10)
            have HM10 := Lib.hid (HM9.out.later hb10)
            have HW10 := Lib.hid hw10
            clear hw10 hb10
            obtain ⟨b', o', e8, -, a0, a1, a2, a3, a4, a5, a6, a7, a8, a9, a10⟩ := HO10.out.el.at11 j x HX.out
            injection e8 with e8
            injection e8 with e81 e82
            subst e81 e82
            obtain ⟨d0, d1, d2, d3, d4, d5, d6, d7, d8, d9, d10⟩ := HM10.out.all
            go_upto_region 18 with fail
            rw [show ∀ V : World, V.alloc (.cells #[.int .i64 zm.kind, .int .i64 zm.life, .int .i64 zm.seen, .int .i64 zm.xid, .int .i64 zm.state, .int .u32 (zm.addr : Int), .int .i64 zm.bind, .string zm.client, .int .i64 zm.pot, .int .i64 zm.at_, .bool zm.ok] 31) = V.alloc (mbox zm) from fun _ => rfl, ← HW10.out]
            go_quiet (fail)
            obtain ⟨w11, hw11⟩ : ∃ w11, w11 = w10.drewN nq := ⟨_, rfl⟩
            have hb11 : Below w10.heap.size w10 w11 := by rw [hw11]; exact ⟨rfl, rfl, rfl, Nat.le_refl _, fun _ _ => rfl⟩
            rw [← hw11]
            have HC11 := Lib.hid (HC10.out.later HK.out hb11)
            have HO11 := Lib.hid (HO10.out.later hb11)
            clear hw11 hb11 a0 a1 a2 a3 a4 a5 a6 a7 a8 a9 a10 d0 d1 d2 d3 d4 d5 d6 d7 d8 d9 d10
            go_wp2
            go_roundw
            case rel => exact ⟨j + 1, Q9, B7, by go_num, by omega, HC11, HO11, HI7⟩
            case measure => simp [intOf]; omega
          · have hgl : decide ((j : Int) < (l.length : Int)) = false := by simp; omega
            have hag := again_ok HI.out.ok
            have hlag : B.again.l.length = B.l.length := by show (B.l.map _).length = _; rw [List.length_map]
            obtain ⟨p, hp⟩ : ∃ p, p = B.again.l.map (·.m) := ⟨_, rfl⟩
            have hpl : p.length = B.l.length := by rw [hp, List.length_map, hlag]
            have HA1 := Lib.hid (HK.out.again HC.out.t)
            have HT1 := Lib.hid (fun V Q' (h : T V Q' g B.again) => HK.out.tick 5 h)
            rw [tick_all again_all, ← hp] at HT1
            have HL1 := Lib.hid (fun V Q' (h : T V Q' g (B.again.ticked 5)) => HK.out.len h)
            have hlen9 : (B.again.ticked 5).len = p.length := by
              rw [len_out (ticked_ok hag (by decide) (by decide)) (by show B.xid < _; have := HI.out.few; omega)]
              show (B.again.l.map _).length = _
              rw [List.length_map, hpl, hlag]
            rw [hlen9] at HL1
            have hle : p.length ≤ l.length := by have := HI.out.len; omega
            have s1 : ((p.length : Int) == (p.length : Int)) = true := by simp
            have s2 : decide ((p.length : Int) ≤ (l.length : Int)) = true := by simp; omega
            clear hag hlag hp hpl hlen9
            go_wp2_with fail
            refine HA1.out.mono ?_
            rintro e w7 ⟨Q7, rfl, ht7, hw7⟩
            have HC7 := Lib.hid (HC.out.way ht7 hw7)
            clear ht7 hw7
            go_wp2_with fail
            refine (HT1.out _ _ HC7.out.t).mono ?_
            rintro e w8 ⟨Q8, A8, k8, rfl, -, ht8, hw8⟩
            have HC8 := Lib.hid (HC7.out.way ht8 hw8)
            clear ht8 hw8
            go_wp2_with fail
            refine (HL1.out _ _ HC8.out.t).mono ?_
            rintro e w9 ⟨rfl, hb9⟩
            have HC9 := Lib.hid (HC8.out.later HK.out hb9)
            clear hb9
            go_wp2_with fail
            refine (HL1.out _ _ HC9.out.t).mono ?_
            rintro e w10 ⟨rfl, hb10⟩
            have HC10 := Lib.hid (HC9.out.later HK.out hb10)
            clear hb10
            go_wp2
            go_ret
            exact ⟨rfl, HC10.out.low⟩
end Go.Proofs.Ytekladmddfibaaa
