/- Both boxes side by side; lessorlaw18.step. -/
import Derived.Test.YtekladmddfibaaaBoxW
namespace Go.Proofs.Ytekladmddfibaaa
open Go.RowKit Go.Sort

structure StpV where
  do_ : Int
  n : Int
  m : MsgV
abbrev StpV.cells (s : StpV) : Array Value := #[.int .i64 s.do_, .int .i64 s.n, .int .i64 s.m.kind, .int .i64 s.m.life, .int .i64 s.m.seen, .int .i64 s.m.xid, .int .i64 s.m.state, .int .u32 (s.m.addr : Int), .int .i64 s.m.bind, .string s.m.client, .int .i64 s.m.pot, .int .i64 s.m.at_, .bool s.m.ok]
abbrev StpV.v (s : StpV) : Value := .agg s.cells
abbrev sbox (s : StpV) : Obj := .cells s.cells 33
/-- Steps as elements of slices. -/
def ElemS : Elem Try.prog StpV where
  e := 33
  ty := 22
  m := 13
  bytes := 112
  zero := .agg #[.int .i64 0, .int .i64 0, .int .i64 0, .int .i64 0, .int .i64 0, .int .i64 0, .int .i64 0, .int .u32 0, .int .i64 0, .string ⟨#[]⟩, .int .i64 0, .int .i64 0, .bool false]
  cells := fun x => x.cells.toList
  hm := by decide
  hb0 := by decide
  hb := by decide
  len := fun _ => rfl
  one := fun v u hu => by
    simp at hu
    rcases hu with rfl | rfl | rfl | rfl | rfl | rfl | rfl | rfl | rfl | rfl | rfl | rfl | rfl <;> rfl
  und := Try.underlying22
  info := by kernel_rfl
  hz := rfl
/-- A step's cells from o on in block b. -/
def SAt (w : World) (b o : Nat) (s : StpV) : Prop := w.cell? ⟨b, o, none⟩ = some (.int .i64 s.do_) ∧ w.cell? ⟨b, o + 1, none⟩ = some (.int .i64 s.n) ∧ w.cell? ⟨b, o + 2, none⟩ = some (.int .i64 s.m.kind) ∧ w.cell? ⟨b, o + 3, none⟩ = some (.int .i64 s.m.life) ∧ w.cell? ⟨b, o + 4, none⟩ = some (.int .i64 s.m.seen) ∧ w.cell? ⟨b, o + 5, none⟩ = some (.int .i64 s.m.xid) ∧ w.cell? ⟨b, o + 6, none⟩ = some (.int .i64 s.m.state) ∧ w.cell? ⟨b, o + 7, none⟩ = some (.int .u32 (s.m.addr : Int)) ∧ w.cell? ⟨b, o + 8, none⟩ = some (.int .i64 s.m.bind) ∧ w.cell? ⟨b, o + 9, none⟩ = some (.string s.m.client) ∧ w.cell? ⟨b, o + 10, none⟩ = some (.int .i64 s.m.pot) ∧ w.cell? ⟨b, o + 11, none⟩ = some (.int .i64 s.m.at_) ∧ w.cell? ⟨b, o + 12, none⟩ = some (.bool s.m.ok)
theorem El.at13 {w : World} {B : Nat} {A : Option Addr} {l : List StpV} (h : El ElemS w B A l) (i : Nat) (x : StpV) (hx : l[i]? = some x) : ∃ b o, A = some ⟨b, o, none⟩ ∧ b < B ∧ SAt w b (o + i * 13) x := by
  obtain ⟨b, o, h1, h2, h3⟩ := h.at_ i x hx
  exact ⟨b, o, h1, h2, h3 0 _ rfl, h3 1 _ rfl, h3 2 _ rfl, h3 3 _ rfl, h3 4 _ rfl, h3 5 _ rfl, h3 6 _ rfl, h3 7 _ rfl, h3 8 _ rfl, h3 9 _ rfl, h3 10 _ rfl, h3 11 _ rfl, h3 12 _ rfl⟩
/-- Block g is a step's box. -/
def SBox (w : World) (g : Nat) (s : StpV) : Prop := w.heap[g]? = some (.cells s.cells 33 (0, 0))
section
variable {w w' : World} {g : Nat} {s : StpV}
theorem SBox.new (w : World) (s : StpV) : SBox (w.alloc (sbox s)) w.heap.size s := heap_alloc_new w _
theorem SBox.lt (h : SBox w g s) : g < w.heap.size := (Array.getElem?_eq_some_iff.1 h).1
theorem SBox.later (h : SBox w g s) (hb : Below w.heap.size w w') : SBox w' g s := (hb.block g h.lt).trans h
theorem SBox.way {Q Q' : Nat → Prop} (h : SBox w g s) (hw : Way Q w Q' w') (hn : ¬ Q g) : SBox w' g s := (hw.oth.block g h.lt hn).trans h
theorem MBox.way {Q Q' : Nat → Prop} {m : MsgV} (h : MBox w g m) (hw : Way Q w Q' w') (hn : ¬ Q g) : MBox w' g m := (hw.oth.block g h.lt hn).trans h
theorem SBox.at_ (h : SBox w g s) (i : Nat) : w.cell? ⟨g, i, none⟩ = s.cells[i]? := cell_of_row w g i _ _ _ h
theorem SBox.sat (h : SBox w g s) : SAt w g 0 s := ⟨h.at_ 0, h.at_ 1, h.at_ 2, h.at_ 3, h.at_ 4, h.at_ 5, h.at_ 6, h.at_ 7, h.at_ 8, h.at_ 9, h.at_ 10, h.at_ 11, h.at_ 12⟩
end

/-- Both boxes, made since w0. -/
structure CarB (T : World → (Nat → Prop) → Nat → BxV → Prop) (w0 w : World) (Q : Nat → Prop) (g r : Nat) (vL vW : Value) (B : BxV) : Prop where
  t : T w Q g B
  d : DAtB w r vL vW B
  low : Below w0.heap.size w0 w
  q : ∀ b, Q b → w0.heap.size ≤ b
  s : ∀ b, DQ r vL vW b → w0.heap.size ≤ b
  apart : ∀ b, Q b → ¬ DQ r vL vW b
section
variable {T : World → (Nat → Prop) → Nat → BxV → Prop} {w0 w w' : World} {Q Q' : Nat → Prop} {g r : Nat} {vL vW vL' vW' : Value} {B B' : BxV}
theorem CarB.later (K : BoxK T) (h : CarB T w0 w Q g r vL vW B) (hb : Below w.heap.size w w') : CarB T w0 w' Q g r vL vW B :=
  ⟨K.later h.t hb, h.d.later hb, h.low.trans (hb.mono h.low.size), h.q, h.s, h.apart⟩
/-- The program's box has made its step, the document's has not. -/
structure HalfB (T : World → (Nat → Prop) → Nat → BxV → Prop) (w0 w : World) (Q : Nat → Prop) (g r : Nat) (vL vW : Value) (B B' : BxV) : Prop where
  t : T w Q g B'
  d : DAtB w r vL vW B
  low : Below w0.heap.size w0 w
  q : ∀ b, Q b → w0.heap.size ≤ b
  s : ∀ b, DQ r vL vW b → w0.heap.size ≤ b
  apart : ∀ b, Q b → ¬ DQ r vL vW b
theorem CarB.half (h : CarB T w0 w Q g r vL vW B) (h1 : T w' Q' g B') (hw : Way Q w Q' w') : HalfB T w0 w' Q' g r vL vW B B' :=
  ⟨h1, h.d.keep (hw.kp h.d.lt fun b hb hq => h.apart b hq hb), h.low.trans (hw.below h.low.size h.q), hw.low h.low.size h.q, h.s, fun b hq hd => hw.apart h.d.lt (fun b hb hq => h.apart b hq hb) b hd hq⟩
theorem HalfB.later (K : BoxK T) (h : HalfB T w0 w Q g r vL vW B B') (hb : Below w.heap.size w w') : HalfB T w0 w' Q g r vL vW B B' :=
  ⟨K.later h.t hb, h.d.later hb, h.low.trans (hb.mono h.low.size), h.q, h.s, h.apart⟩
theorem HalfB.whole (K : BoxK T) (h : HalfB T w0 w Q g r vL vW B B') (h1 : DAtB w' r vL' vW' B') (hw : Way (DQ r vL vW) w (DQ r vL' vW') w') : CarB T w0 w' Q g r vL' vW' B' :=
  ⟨K.keep h.t (hw.kp (K.lt h.t) h.apart), h1, h.low.trans (hw.below h.low.size h.s), h.q, hw.low h.low.size h.s, hw.apart (K.lt h.t) h.apart⟩
end
def stepB (B : BxV) (s : StpV) : BxV := if s.do_ = 0 then (B.put s.m).1 else if s.do_ = 1 then (B.acked s.n).1 else if s.do_ = 2 then (B.tick s.n).1 else B.again

attribute [local go_sem ↓] run_eqlC run_neqC run_guardC
set_option maxRecDepth 100000 in
set_option maxHeartbeats 4000000 in
theorem ostep_any {T : World → (Nat → Prop) → Nat → BxV → Prop} {w0 w : World} {Q : Nat → Prop} {g r : Nat} {vL vW : Value} {B : BxV} (K : BoxK T) (s : StpV) (hs : s.m.addr < 4294967296) (C : CarB T w0 w Q g r vL vW B) :
    Calls Try.prog 11 #[ptrV g, ptrV r, s.v] w fun e w' => e = .returned (.bool true) ∧ ∃ Q' vL' vW', CarB T w0 w' Q' g r vL' vW' (stepB B s) := by
  obtain ⟨w1, hw1⟩ : ∃ w1, w1 = w.alloc (sbox s) := ⟨_, rfl⟩
  have hb1 : Below w.heap.size w w1 := by rw [hw1]; exact (Below.refl _ _).alloc (Nat.le_refl _) _
  have HS1 := Lib.hid (show SBox w1 w.heap.size s by rw [hw1]; exact SBox.new w s)
  have HC1 := Lib.hid (C.later K hb1)
  have HN : Hid (¬ Q w.heap.size) := Lib.hid (fun hq => Nat.lt_irrefl _ (K.lt C.t _ hq))
  have HND : Hid (¬ DQ r vL vW w.heap.size) := Lib.hid (fun hq => Nat.lt_irrefl _ (C.d.lt _ hq))
  have HK := Lib.hid K
  have H32 := Lib.hid hs
  have HW1 := Lib.hid hw1
  clear K hs C hb1 hw1
  obtain ⟨a0, a1, a2, a3, a4, a5, a6, a7, a8, a9, a10, a11, a12⟩ := HS1.out.sat
  simp only [Nat.zero_add] at a1 a2 a3 a4 a5 a6 a7 a8 a9 a10 a11 a12
  go_enter Try.func11, Try.ntmps11
  go_upto_region 1 with fail
  rw [show ∀ V : World, V.alloc (.cells #[.int .i64 s.do_, .int .i64 s.n, .int .i64 s.m.kind, .int .i64 s.m.life, .int .i64 s.m.seen, .int .i64 s.m.xid, .int .i64 s.m.state, .int .u32 (s.m.addr : Int), .int .i64 s.m.bind, .string s.m.client, .int .i64 s.m.pot, .int .i64 s.m.at_, .bool s.m.ok] 33) = V.alloc (sbox s) from fun _ => rfl, ← HW1.out]
  by_cases h0 : s.do_ = 0
  · have t0 : (s.do_ == 0) = true := by rw [h0]; rfl
    have HR : Hid (stepB B s = (B.put s.m).1) := Lib.hid (by unfold stepB; rw [if_pos h0])
    clear h0
    go_wp2_with fail
    refine (HK.out.put s.m H32.out HC1.out.t).mono ?_
    rintro e w2 ⟨Q2, rfl, ht2, hw2⟩
    have HH2 := Lib.hid (HC1.out.half ht2 hw2)
    have HS2 := Lib.hid (HS1.out.way hw2 HN.out)
    clear ht2 hw2 a0 a1 a2 a3 a4 a5 a6 a7 a8 a9 a10 a11 a12
    obtain ⟨a0, a1, a2, a3, a4, a5, a6, a7, a8, a9, a10, a11, a12⟩ := HS2.out.sat
    simp only [Nat.zero_add] at a1 a2 a3 a4 a5 a6 a7 a8 a9 a10 a11 a12
    obtain ⟨k, hk⟩ : ∃ k, k = (B.put s.m).2 := ⟨_, rfl⟩
    have HP := Lib.hid (rput_any s.m H32.out HH2.out.d (HK.out.ok HC1.out.t))
    rw [← hk] at HP ⊢
    have hkk : (k == k) = true := by simp
    clear hk
    go_wp2_with fail
    refine HP.out.mono ?_
    rintro e w3 ⟨rfl, vL3, vW3, hd3, hw3⟩
    have HC3 := Lib.hid (HH2.out.whole HK.out hd3 hw3)
    clear hd3 hw3 a0 a1 a2 a3 a4 a5 a6 a7 a8 a9 a10 a11 a12
    go_wp2
    go_ret
    rw [HR.out]
    exact ⟨rfl, _, _, _, HC3.out⟩
  have t0 : (s.do_ == 0) = false := by simpa using h0
  by_cases h1 : s.do_ = 1
  · have t1 : (s.do_ == 1) = true := by rw [h1]; rfl
    have HR : Hid (stepB B s = (B.acked s.n).1) := Lib.hid (by unfold stepB; rw [if_neg h0, if_pos h1])
    clear h0 h1
    obtain ⟨R, hR⟩ : ∃ R, R = ackR (B.acked s.n).2 := ⟨_, rfl⟩
    obtain ⟨m, is, hmi⟩ : ∃ m is, R = (m, is) := ⟨_, _, rfl⟩
    have HA1 := Lib.hid (HK.out.ack s.n HC1.out.t)
    have HA2 := Lib.hid (fun V (h : DAtB V r vL vW B) => racked_any s.n h (HK.out.ok HC1.out.t))
    rw [← hR, hmi] at HA1 HA2
    have hself : eqB m.kind m.life m.seen m.xid m.state (m.addr : Int) m.bind m.client m.pot m.at_ m.ok m.kind m.life m.seen m.xid m.state (m.addr : Int) m.bind m.client m.pot m.at_ m.ok = true := by rw [eqB_of]; simp
    have hss : (is == is) = true := by simp
    clear hR hmi
    go_wp2_with fail
    refine HA1.out.mono ?_
    rintro e w2 ⟨Q2, rfl, ht2, hw2⟩
    have HH2 := Lib.hid (HC1.out.half ht2 hw2)
    have HS2 := Lib.hid (HS1.out.way hw2 HN.out)
    clear ht2 hw2 a0 a1 a2 a3 a4 a5 a6 a7 a8 a9 a10 a11 a12
    obtain ⟨w3, hw3⟩ : ∃ w3, w3 = w2.alloc (mbox m) := ⟨_, rfl⟩
    have hb3 : Below w2.heap.size w2 w3 := by rw [hw3]; exact (Below.refl _ _).alloc (Nat.le_refl _) _
    have HM3 := Lib.hid (show MBox w3 w2.heap.size m by rw [hw3]; exact MBox.new w2 m)
    have HH3 := Lib.hid (HH2.out.later HK.out hb3)
    have HS3 := Lib.hid (HS2.out.later hb3)
    have HND3 : Hid (¬ DQ r vL vW w2.heap.size) := Lib.hid (fun hq => Nat.lt_irrefl _ (HH2.out.d.lt _ hq))
    have HW3 := Lib.hid hw3
    clear hw3 hb3
    obtain ⟨a0, a1, a2, a3, a4, a5, a6, a7, a8, a9, a10, a11, a12⟩ := HS3.out.sat
    simp only [Nat.zero_add] at a1 a2 a3 a4 a5 a6 a7 a8 a9 a10 a11 a12
    go_upto_region 7 with fail
    rw [show ∀ V : World, V.alloc (.cells #[.int .i64 m.kind, .int .i64 m.life, .int .i64 m.seen, .int .i64 m.xid, .int .i64 m.state, .int .u32 (m.addr : Int), .int .i64 m.bind, .string m.client, .int .i64 m.pot, .int .i64 m.at_, .bool m.ok] 31) = V.alloc (mbox m) from fun _ => rfl, ← HW3.out]
    go_wp2_with fail
    refine (HA2.out _ HH3.out.d).mono ?_
    rintro e w4 ⟨rfl, vL4, vW4, hd4, hw4⟩
    have HC4 := Lib.hid (HH3.out.whole HK.out hd4 hw4)
    have HM4 := Lib.hid (HM3.out.way hw4 HND3.out)
    clear hd4 hw4 a0 a1 a2 a3 a4 a5 a6 a7 a8 a9 a10 a11 a12
    obtain ⟨w5, hw5⟩ : ∃ w5, w5 = w4.alloc (mbox m) := ⟨_, rfl⟩
    have hb5 : Below w4.heap.size w4 w5 := by rw [hw5]; exact (Below.refl _ _).alloc (Nat.le_refl _) _
    have HM5 := Lib.hid (show MBox w5 w4.heap.size m by rw [hw5]; exact MBox.new w4 m)
    have HM5b := Lib.hid (HM4.out.later hb5)
    have HC5 := Lib.hid (HC4.out.later HK.out hb5)
    have HW5 := Lib.hid hw5
    clear hw5 hb5
    go_upto_region 8 with fail
    rw [show ∀ V : World, V.alloc (.cells #[.int .i64 m.kind, .int .i64 m.life, .int .i64 m.seen, .int .i64 m.xid, .int .i64 m.state, .int .u32 (m.addr : Int), .int .i64 m.bind, .string m.client, .int .i64 m.pot, .int .i64 m.at_, .bool m.ok] 31) = V.alloc (mbox m) from fun _ => rfl, ← HW5.out]
    obtain ⟨b0, b1, b2, b3, b4, b5, b6, b7, b8, b9, b10⟩ := HM5.out.all
    obtain ⟨d0, d1, d2, d3, d4, d5, d6, d7, d8, d9, d10⟩ := HM5b.out.all
    go_wp2
    go_ret
    rw [HR.out]
    exact ⟨rfl, _, _, _, HC5.out⟩
  have t1 : (s.do_ == 1) = false := by simpa using h1
  by_cases h2 : s.do_ = 2
  · have t2 : (s.do_ == 2) = true := by rw [h2]; rfl
    have HR : Hid (stepB B s = (B.tick s.n).1) := Lib.hid (by unfold stepB; rw [if_neg h0, if_neg h1, if_pos h2])
    clear h0 h1 h2
    obtain ⟨l, hl⟩ : ∃ l, l = (B.tick s.n).2.1 := ⟨_, rfl⟩
    obtain ⟨k, hk⟩ : ∃ k, k = (B.tick s.n).2.2 := ⟨_, rfl⟩
    have HT1 := Lib.hid (HK.out.tick s.n HC1.out.t)
    have HT2 := Lib.hid (fun V (h : DAtB V r vL vW B) => rtick_any s.n h (HK.out.ok HC1.out.t))
    unfold TickD at HT2
    rw [← hl, ← hk] at HT1 HT2
    have hkk : (k == k) = true := by simp
    have HLB : Hid (l.length ≤ 1073741824) := Lib.hid (by
      rw [hl]
      have h := (HK.out.ok HC1.out.t).len
      unfold BxV.tick BxV.told
      split
      · exact Nat.le_trans (by rw [List.length_map]; exact List.length_filter_le _ _) h
      · exact Nat.zero_le _)
    clear hl hk
    go_wp2_with fail
    refine HT1.out.mono ?_
    rintro e w2 ⟨Q2, A2, k2, rfl, ho2, ht2, hw2⟩
    have HH2 := Lib.hid (HC1.out.half ht2 hw2)
    have HS2 := Lib.hid (HS1.out.way hw2 HN.out)
    have HO2 := Lib.hid ho2
    have HSZ := Lib.hid hw2.size
    clear ht2 hw2 ho2 a0 a1 a2 a3 a4 a5 a6 a7 a8 a9 a10 a11 a12
    obtain ⟨a0, a1, a2, a3, a4, a5, a6, a7, a8, a9, a10, a11, a12⟩ := HS2.out.sat
    simp only [Nat.zero_add] at a1 a2 a3 a4 a5 a6 a7 a8 a9 a10 a11 a12
    go_wp2_with fail
    refine (HT2.out _ HH2.out.d).mono ?_
    rintro e w3 ⟨A3, k3, l3, rfl, hl3, hlk3, ho3, hd3, hw3⟩
    have HC3 := Lib.hid (HH2.out.whole HK.out hd3 hw3)
    have HE3 : Hid (El ElemM w3 w3.heap.size A3 l3) := Lib.hid (El.of_own ho3)
    have HE2 : Hid (El ElemM w3 w3.heap.size A2 l) := Lib.hid (El.of_own (own_keep HO2.out.own fun b hb => hw3.oth.block b (HO2.out.own.lt b hb).2 (fun hq => by
      have h1 := (HO2.out.own.lt b hb).1
      have h2 := HC1.out.d.lt b hq
      omega)))
    have HL3 := Lib.hid hl3
    have hl3' : l3 = l := hl3.out
    subst hl3'
    clear ho3 hd3 hw3 hl3 a0 a1 a2 a3 a4 a5 a6 a7 a8 a9 a10 a11 a12
    have HSM := Lib.hid (rsameM_any A2 A3 k2 k3 l3 l3 w3 HE2.out HE3.out (Nat.le_trans HLB.out (by decide)))
    rw [decide_eq_true (rfl : l3 = l3)] at HSM
    go_wp2_with fail
    refine HSM.out.mono ?_
    rintro e w4 ⟨rfl, hb4⟩
    have HC4 := Lib.hid (HC3.out.later HK.out hb4)
    go_wp2
    go_ret
    rw [HR.out]
    exact ⟨rfl, _, _, _, HC4.out⟩
  have t2 : (s.do_ == 2) = false := by simpa using h2
  have HR : Hid (stepB B s = B.again) := Lib.hid (by unfold stepB; rw [if_neg h0, if_neg h1, if_neg h2])
  clear h0 h1 h2
  go_wp2_with fail
  refine (HK.out.again HC1.out.t).mono ?_
  rintro e w2 ⟨Q2, rfl, ht2, hw2⟩
  have HH2 := Lib.hid (HC1.out.half ht2 hw2)
  clear ht2 hw2
  go_wp2_with fail
  refine (ragain_any HH2.out.d (HK.out.ok HC1.out.t)).mono ?_
  rintro e w3 ⟨rfl, hd3, hw3⟩
  have HC3 := Lib.hid (HH2.out.whole HK.out hd3 hw3)
  clear hd3 hw3
  go_wp2
  go_ret
  rw [HR.out]
  exact ⟨rfl, _, _, _, HC3.out⟩
end Go.Proofs.Ytekladmddfibaaa
