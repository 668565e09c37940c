/- lessorlaw18.awake over any box and record (BoxK, SeenK). -/
import Derived.Test.YtekladmddfibaaaBoxK
namespace Go.Proofs.Ytekladmddfibaaa
open Go.RowKit Go.Sort

def wB1 : BxV := ⟨[outO (updM 1 5) 1], [], 1⟩
def wB2 : BxV := ⟨[outO (updM 1 5) 1], [updM 1 6], 1⟩
def wB3 : BxV := ⟨[⟨(outO (updM 1 5) 1).m, 0⟩], [updM 1 6], 1⟩
def wB4 : BxV := ⟨[outO (updM 1 6) 2], [], 2⟩
theorem w_one : (newB.put (updM 1 5)).1 = wB1 := by rfl
theorem w_two : (wB1.put (updM 1 6)).1 = wB2 := by rfl
theorem w_three : wB2.tick 0 = (wB3, [(outO (updM 1 5) 1).m], 0) := by rfl
theorem w_four : wB3.acked 1 = (wB4, some (outO (updM 1 5) 1).m) := by rfl
theorem w_five : (wB4.tick 0).2 = ([(outO (updM 1 6) 2).m], 0) := by rfl
theorem w_six : takeS [] 0 1 = (true, false, false) := by rfl

/-- The program's box and record, made since w0. -/
structure CarS (T : World → (Nat → Prop) → Nat → BxV → Prop) (U : World → (Nat → Prop) → Nat → List NtV → Prop) (w0 w : World) (Q Qs : Nat → Prop) (g gs : Nat) (B : BxV) (S : List NtV) : Prop where
  t : T w Q g B
  u : U w Qs gs S
  low : Below w0.heap.size w0 w
  q : ∀ b, Q b → w0.heap.size ≤ b
  qs : ∀ b, Qs b → w0.heap.size ≤ b
  apart : ∀ b, Qs b → ¬ Q b
section
variable {T : World → (Nat → Prop) → Nat → BxV → Prop} {U : World → (Nat → Prop) → Nat → List NtV → Prop} {w0 w w' : World} {Q Q' Qs : Nat → Prop} {g gs : Nat} {B B' : BxV} {S : List NtV}
theorem CarS.later (K : BoxK T) (KS : SeenK U) (h : CarS T U w0 w Q Qs g gs B S) (hb : Below w.heap.size w w') : CarS T U w0 w' Q Qs g gs B S :=
  ⟨K.later h.t hb, KS.later h.u hb, h.low.trans (hb.mono h.low.size), h.q, h.qs, h.apart⟩
theorem CarS.way (KS : SeenK U) (h : CarS T U w0 w Q Qs g gs B S) (ht : T w' Q' g B') (hw : Way Q w Q' w') : CarS T U w0 w' Q' Qs g gs B' S :=
  ⟨ht, KS.keep h.u (hw.kp (KS.lt h.u) h.apart), h.low.trans (hw.below h.low.size h.q), hw.low h.low.size h.q, h.qs, hw.apart (KS.lt h.u) h.apart⟩
end

set_option maxRecDepth 100000 in
set_option maxHeartbeats 4000000 in
theorem oawake_any {T : World → (Nat → Prop) → Nat → BxV → Prop} {U : World → (Nat → Prop) → Nat → List NtV → Prop} (K : BoxK T) (KS : SeenK U) (w : World) : Calls Try.prog 8 #[] w fun e w' => e = .returned (.bool true) ∧ Below w.heap.size w w' := by
  have HK := Lib.hid K
  have HKS := Lib.hid KS
  have HU := Lib.hid (fun n V => update_any 1 n V)
  clear K KS
  go_enter Try.func8, Try.ntmps8
  go_wp2_with fail
  refine (HK.out.new _).mono ?_
  rintro e w1 ⟨Q, g, rfl, ht1, hb1, hq1⟩
  have HT1 := Lib.hid ht1
  have HB1 := Lib.hid hb1
  have HQ1 := Lib.hid hq1
  clear ht1 hb1 hq1
  go_wp2_with fail
  refine (HKS.out.new _).mono ?_
  rintro e w2 ⟨Qs, gs, rfl, hu2, hb2, hq2⟩
  have HC2 : Hid (CarS T U w w2 Q Qs g gs newB []) := Lib.hid ⟨HK.out.later HT1.out hb2, hu2, HB1.out.trans (hb2.mono HB1.out.size), HQ1.out, fun b hb => Nat.le_trans HB1.out.size (hq2 b hb), fun b hb hQ => by have := hq2 b hb; have := HK.out.lt HT1.out b hQ; omega⟩
  clear hu2 hb2 hq2
  go_wp2_with fail
  refine (HU.out 5 _).mono ?_
  rintro e w3 ⟨rfl, hb3⟩
  have HC3 := Lib.hid (HC2.out.later HK.out HKS.out hb3)
  clear hb3
  go_wp2_with fail
  refine (HK.out.put (updM 1 5) (by decide) HC3.out.t).mono ?_
  rintro e w4 ⟨Q4, rfl, ht4, hw4⟩
  rw [w_one] at ht4
  have HC4 := Lib.hid (HC3.out.way HKS.out ht4 hw4)
  clear ht4 hw4
  go_wp2_with fail
  refine (HU.out 6 _).mono ?_
  rintro e w5 ⟨rfl, hb5⟩
  have HC5 := Lib.hid (HC4.out.later HK.out HKS.out hb5)
  clear hb5
  go_wp2_with fail
  refine (HK.out.put (updM 1 6) (by decide) HC5.out.t).mono ?_
  rintro e w6 ⟨Q6, rfl, ht6, hw6⟩
  rw [w_two] at ht6
  have HC6 := Lib.hid (HC5.out.way HKS.out ht6 hw6)
  clear ht6 hw6
  go_wp2_with fail
  refine (HK.out.tick 0 HC6.out.t).mono ?_
  rintro e w7 ⟨Q7, A7, k7, rfl, -, ht7, hw7⟩
  rw [w_three] at ht7 ⊢
  have HC7 := Lib.hid (HC6.out.way HKS.out ht7 hw7)
  clear ht7 hw7
  go_wp2_with fail
  refine (HK.out.ack 1 HC7.out.t).mono ?_
  rintro e w8 ⟨Q8, rfl, ht8, hw8⟩
  rw [w_four] at ht8 ⊢
  have HC8 := Lib.hid (HC7.out.way HKS.out ht8 hw8)
  clear ht8 hw8
  obtain ⟨m5, hm5⟩ : ∃ m5, m5 = (outO (updM 1 5) 1).m := ⟨_, rfl⟩
  have HP5 : Hid (m5.pot = 5) := Lib.hid (by rw [hm5]; rfl)
  rw [show (ackR (wB4, some (outO (updM 1 5) 1).m).2) = (m5, true) by rw [hm5]; rfl]
  obtain ⟨w9, hw9⟩ : ∃ w9, w9 = w8.alloc (mbox m5) := ⟨_, rfl⟩
  have HM9 := Lib.hid (show MBox w9 w8.heap.size m5 by rw [hw9]; exact MBox.new w8 m5)
  have HC9 := Lib.hid (HC8.out.later HK.out HKS.out (w' := w9) (by rw [hw9]; exact (Below.refl _ _).alloc (Nat.le_refl _) _))
  have HA9 := Lib.hid (fun b hb => Nat.ne_of_lt (HK.out.lt HC8.out.t b hb))
  have HW9 := Lib.hid hw9
  clear hw9 hm5
  go_wp2_with fail
  rw [show ∀ V : World, V.alloc (.cells #[.int .i64 m5.kind, .int .i64 m5.life, .int .i64 m5.seen, .int .i64 m5.xid, .int .i64 m5.state, .int .u32 (m5.addr : Int), .int .i64 m5.bind, .string m5.client, .int .i64 m5.pot, .int .i64 m5.at_, .bool m5.ok] 31) = V.alloc (mbox m5) from fun _ => rfl, ← HW9.out]
  refine (HK.out.tick 0 HC9.out.t).mono ?_
  rintro e w10 ⟨Q10, A10, k10, rfl, ho10, ht10, hw10⟩
  have h5 := w_five
  obtain ⟨B10, l10, c10, h10⟩ : ∃ B10 l10 c10, wB4.tick 0 = (B10, l10, c10) := ⟨_, _, _, rfl⟩
  rw [h10] at h5 ht10 ho10 ⊢
  simp only [Prod.mk.injEq] at h5
  obtain ⟨rfl, rfl⟩ := h5
  have HC10 := Lib.hid (HC9.out.way HKS.out ht10 hw10)
  have HM10 : Hid (MBox w10 w8.heap.size m5) := Lib.hid ((hw10.kp (P := fun b => b = w8.heap.size) (fun b hb => by rw [hb]; exact HM9.out.lt) (fun b hb hq => HA9.out b hq hb)).block _ rfl |>.trans HM9.out)
  have HE10 := Lib.hid ho10.el
  clear ht10 hw10 ho10 h10
  go_wp2_with fail
  refine (HKS.out.take ⟨0, 0, 0, 1, 0, 0, 0, ⟨#[]⟩, 0, 0, false⟩ (by decide) HC10.out.u).mono ?_
  rintro e w11 ⟨rfl, hb11⟩
  rw [w_six]
  have HC11 := Lib.hid (HC10.out.later HK.out HKS.out hb11)
  have HM11 := Lib.hid (HM10.out.later hb11)
  have HE11 := Lib.hid (HE10.out.later hb11)
  clear hb11
  have c8 := HM11.out.at_ 8
  obtain ⟨m6, hm6⟩ : ∃ m6, m6 = (outO (updM 1 6) 2).m := ⟨_, rfl⟩
  rw [← hm6] at HE11
  obtain ⟨b, o, rfl, -, -, -, -, y3, -, -, -, -, y8, -, -⟩ := HE11.out.at11 0 m6 rfl
  rw [show ((#[.int .i64 m5.kind, .int .i64 m5.life, .int .i64 m5.seen, .int .i64 m5.xid, .int .i64 m5.state, .int .u32 (m5.addr : Int), .int .i64 m5.bind, .string m5.client, .int .i64 m5.pot, .int .i64 m5.at_, .bool m5.ok] : Array Value)[8]?) = some (.int .i64 5) by rw [← HP5.out]; rfl] at c8
  rw [show m6.xid = 2 by rw [hm6]; rfl] at y3
  rw [show m6.pot = 6 by rw [hm6]; rfl] at y8
  simp only [Nat.zero_mul, Nat.add_zero] at y3 y8
  clear hm6
  go_wp2
  go_ret
  exact ⟨rfl, HC11.out.low⟩
end Go.Proofs.Ytekladmddfibaaa
