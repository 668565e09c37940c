/- The law OutboxSeen, over any box and record (BoxK, SeenK). -/
import Derived.Test.YtekladmddfibaaaBoxW
import Derived.Test.YtekladmddfibaaaSeeN
namespace Go.Proofs.Ytekladmddfibaaa
open Go.RowKit Go.Sort

/-- Truths as elements of slices. -/
def ElemT : Elem Try.prog Bool where
  e := 4
  ty := 42
  m := 1
  bytes := 1
  zero := .bool false
  cells := fun x => [.bool x]
  hm := by decide
  hb0 := by decide
  hb := by decide
  len := fun _ => rfl
  one := fun v u hu => by
    simp at hu
    subst hu
    rfl
  und := Try.underlying42
  info := by kernel_rfl
  hz := rfl
theorem El.atT {w : World} {B : Nat} {A : Option Addr} {l : List Bool} (h : El ElemT w B A l) (i : Nat) (x : Bool) (hx : l[i]? = some x) : ∃ b o, A = some ⟨b, o, none⟩ ∧ b < B ∧ w.cell? ⟨b, o + i, none⟩ = some (.bool x) := by
  obtain ⟨b, o, h1, h2, h3⟩ := h.at_ i x hx
  have h4 := h3 0 _ rfl
  rw [show ElemT.m = 1 from rfl, Nat.mul_one] at h4
  exact ⟨b, o, h1, h2, h4⟩

/-- Both records, made since w0. -/
structure CarN (U : World → (Nat → Prop) → Nat → List NtV → Prop) (w0 w : World) (Q : Nat → Prop) (g r : Nat) (v : Value) (S : List NtV) : Prop where
  u : U w Q g S
  d : DSn w r v S
  low : Below w0.heap.size w0 w
  q : ∀ b, Q b → w0.heap.size ≤ b
  s : ∀ b, SQ r v b → w0.heap.size ≤ b
  apart : ∀ b, Q b → ¬ SQ r v b
section
variable {U : World → (Nat → Prop) → Nat → List NtV → Prop} {w0 w w' : World} {Q Q' : Nat → Prop} {g r : Nat} {v v' : Value} {S S' : List NtV}
theorem CarN.later (KS : SeenK U) (h : CarN U w0 w Q g r v S) (hb : Below w.heap.size w w') : CarN U w0 w' Q g r v S :=
  ⟨KS.later h.u hb, h.d.later hb, h.low.trans (hb.mono h.low.size), h.q, h.s, h.apart⟩
/-- A step at the program's, one at the document's. -/
theorem CarN.both (KS : SeenK U) (h : CarN U w0 w Q g r v S) {w1 w2 : World} (h1 : U w1 Q' g S') (hw1 : Way Q w Q' w1) (h2 : DSn w1 r v S → DSn w2 r v' S' ∧ Way (SQ r v) w1 (SQ r v') w2) : CarN U w0 w2 Q' g r v' S' := by
  have hd1 : DSn w1 r v S := h.d.keep (hw1.kp h.d.lt fun b hb hq => h.apart b hq hb)
  have ha1 : ∀ b, SQ r v b → ¬ Q' b := hw1.apart h.d.lt fun b hb hq => h.apart b hq hb
  have hl1 := hw1.below h.low.size h.q
  obtain ⟨hd2, hw2⟩ := h2 hd1
  have hq1 := hw1.low h.low.size h.q
  have hl3 := Nat.le_trans h.low.size hl1.size
  have hl2 := hw2.below hl3 h.s
  exact ⟨KS.keep h1 (hw2.kp (KS.lt h1) fun b hb hs => ha1 b hs hb), hd2, (h.low.trans hl1).trans hl2, hq1, hw2.low hl3 h.s, hw2.apart (KS.lt h1) fun b hb hs => ha1 b hs hb⟩
end

set_option maxRecDepth 100000 in
set_option maxHeartbeats 4000000 in
theorem law_oseen {T : World → (Nat → Prop) → Nat → BxV → Prop} {U : World → (Nat → Prop) → Nat → List NtV → Prop} (K : BoxK T) (KS : SeenK U) (A A2 : Option Addr) (c c2 : Nat) (L : List MsgV) (O : List Bool) (w : World)
    (hE : El ElemM w w.heap.size A L) (hE2 : El ElemT w w.heap.size A2 O) (ha : ∀ x ∈ L, x.addr < 4294967296) :
    Calls Try.prog 4 #[.slice A L.length c, .slice A2 O.length c2] w fun e w' => e = .returned (.bool true) ∧ Below w.heap.size w w' := by
  have HA := Lib.hid (fun V => oawake_any K KS V)
  have HKS := Lib.hid KS
  have HE := Lib.hid hE
  have HE2 := Lib.hid hE2
  have H32 := Lib.hid ha
  clear K KS hE hE2 ha
  go_enter Try.func4, Try.ntmps4
  go_wp2_with fail
  refine (HA.out _).mono ?_
  rintro e w1 ⟨rfl, hb1⟩
  have HB1 := Lib.hid hb1
  clear hb1
  go_wp2_with fail
  refine (HKS.out.new _).mono ?_
  rintro e w2 ⟨Q2, g, rfl, hu2, hb2, hq2⟩
  have HU2 := Lib.hid hu2
  have HB2 := Lib.hid hb2
  have HQ2 := Lib.hid hq2
  clear hu2 hb2 hq2
  go_wp2_with fail
  refine (rnews_any _).mono ?_
  rintro e w3 ⟨v3, r, rfl, hd3, hb3, hs3⟩
  have HC3 : Hid (CarN U w w3 Q2 g r v3 []) := Lib.hid ⟨HKS.out.later HU2.out hb3, hd3, (HB1.out.trans (HB2.out.mono HB1.out.size)).trans (hb3.mono (Nat.le_trans HB1.out.size HB2.out.size)), fun b hb => Nat.le_trans HB1.out.size (HQ2.out b hb), fun b hb => Nat.le_trans (Nat.le_trans HB1.out.size HB2.out.size) (hs3 b hb), fun b hb hs => by have := HKS.out.lt HU2.out b hb; have := hs3 b hs; omega⟩
  clear hd3 hb3 hs3
  go_wp2
  go_loopw [8] (fun i wr => ∃ (j : Nat) (Q : Nat → Prop) (v : Value) (S : List NtV), i = .int .i64 j ∧ j ≤ L.length ∧ j ≤ 200 ∧ S.length ≤ j ∧ Hid (CarN U w wr Q g r v S)) (fun i _ => 200 - (intOf i).toNat)
  case atStart => exact ⟨0, Q2, v3, [], rfl, Nat.zero_le _, by omega, Nat.le_refl _, HC3⟩
  case round =>
    clear HC3
    obtain ⟨j, Q, v, S, rfl, hj, hj2, hS, HC⟩ := hrel
    by_cases hlt : j < L.length
    · have hg : decide ((j : Int) < (L.length : Int)) = true := by simp; omega
      by_cases h200 : j < 200
      · have hg2 : decide ((j : Int) < 200) = true := by simp; omega
        obtain ⟨x, hx⟩ : ∃ x, L[j]? = some x := ⟨_, List.getElem?_eq_getElem hlt⟩
        have HX := Lib.hid (H32.out x (List.mem_of_getElem? hx))
        have HXA : Hid (∀ W, Below w.heap.size w W → ∃ b o, A = some ⟨b, o, none⟩ ∧ MAt W b (o + j * 11) x) := Lib.hid (fun W hb => by
          obtain ⟨b, o, h1, _, h2⟩ := (HE.out.below hb).at11 j x hx
          exact ⟨b, o, h1, h2⟩)
        clear hx
        obtain ⟨b, o, rfl, a0, a1, a2, a3, a4, a5, a6, a7, a8, a9, a10⟩ := HXA.out wr HC.out.low
        have HXB : Hid (∀ W, Below w.heap.size w W → MAt W b (o + j * 11) x) := Lib.hid (fun W hb => by
          obtain ⟨b', o', h1, h2⟩ := HXA.out W hb
          injection h1 with h1
          injection h1 with h3 h4
          subst h3 h4
          exact h2)
        obtain ⟨t1, ht1⟩ : ∃ t1, t1 = (takeS S x.addr x.xid).1 := ⟨_, rfl⟩
        obtain ⟨t2, ht2⟩ : ∃ t2, t2 = (takeS S x.addr x.xid).2.1 := ⟨_, rfl⟩
        obtain ⟨t3, ht3⟩ : ∃ t3, t3 = (takeS S x.addr x.xid).2.2 := ⟨_, rfl⟩
        have H1 := Lib.hid (HKS.out.take x HX.out HC.out.u)
        have H2 := Lib.hid (fun V (hb : Below wr.heap.size wr V) => rtake_any x (HC.out.d.later hb) (by omega))
        rw [← ht1, ← ht2, ← ht3] at H1 H2
        have q1 : (t1 != t1) = false := by simp
        have q2 : (t2 != t2) = false := by simp
        have q3 : (t3 != t3) = false := by simp
        clear ht1 ht2 ht3
        go_wp2_with fail
        refine H1.out.mono ?_
        rintro e w4 ⟨rfl, hb4⟩
        clear a0 a1 a2 a3 a4 a5 a6 a7 a8 a9 a10
        have HC4 := Lib.hid (HC.out.later HKS.out hb4)
        obtain ⟨a0, a1, a2, a3, a4, a5, a6, a7, a8, a9, a10⟩ := HXB.out w4 HC4.out.low
        go_wp2_with fail
        refine (H2.out _ hb4).mono ?_
        rintro e w5 ⟨rfl, hb5⟩
        clear a0 a1 a2 a3 a4 a5 a6 a7 a8 a9 a10 hb4
        have HC5 := Lib.hid (HC4.out.later HKS.out hb5)
        clear hb5
        obtain ⟨a0, a1, a2, a3, a4, a5, a6, a7, a8, a9, a10⟩ := HXB.out w5 HC5.out.low
        by_cases ho : j < O.length
        · have hg3 : decide ((j : Int) < (O.length : Int)) = true := by simp; omega
          obtain ⟨y, hy⟩ : ∃ y, O[j]? = some y := ⟨_, List.getElem?_eq_getElem ho⟩
          obtain ⟨b2, o2, rfl, -, z0⟩ := (HE2.out.below HC5.out.low).atT j y hy
          clear hy
          go_wp2_with fail
          refine (HKS.out.note x y HX.out (by omega) HC5.out.u).mono ?_
          rintro e w6 ⟨Q6, rfl, hu6, hw6⟩
          have H6 := Lib.hid (show U w6 Q6 g (noteS S x.addr x.xid y) ∧ Way Q w5 Q6 w6 from ⟨hu6, hw6⟩)
          have HB6 := Lib.hid (HC5.out.low.trans (hw6.below HC5.out.low.size HC5.out.q))
          have HD6 := Lib.hid (HC5.out.d.keep (hw6.kp HC5.out.d.lt fun b hb hq => HC5.out.apart b hq hb))
          clear a0 a1 a2 a3 a4 a5 a6 a7 a8 a9 a10 hu6 hw6
          obtain ⟨a0, a1, a2, a3, a4, a5, a6, a7, a8, a9, a10⟩ := HXB.out w6 HB6.out
          go_wp2_with fail
          refine (rnote_any x y HD6.out (by omega)).mono ?_
          rintro e w7 ⟨rfl, v7, hd7, hw7⟩
          have HC7 : Hid (CarN U w w7 Q6 g r v7 (noteS S x.addr x.xid y)) := Lib.hid (HC5.out.both HKS.out H6.out.1 H6.out.2 (fun _ => ⟨hd7, hw7⟩))
          have hl7 := note_len S x.addr x.xid y
          clear a0 a1 a2 a3 a4 a5 a6 a7 a8 a9 a10 hd7 hw7
          go_wp2
          go_roundw
          case rel => exact ⟨j + 1, Q6, v7, _, by go_num, by omega, by omega, by omega, HC7⟩
          case measure => simp [intOf]; omega
        · have hg3 : decide ((j : Int) < (O.length : Int)) = false := by simp; omega
          go_wp2_with fail
          refine (HKS.out.note x false HX.out (by omega) HC5.out.u).mono ?_
          rintro e w6 ⟨Q6, rfl, hu6, hw6⟩
          have H6 := Lib.hid (show U w6 Q6 g (noteS S x.addr x.xid false) ∧ Way Q w5 Q6 w6 from ⟨hu6, hw6⟩)
          have HB6 := Lib.hid (HC5.out.low.trans (hw6.below HC5.out.low.size HC5.out.q))
          have HD6 := Lib.hid (HC5.out.d.keep (hw6.kp HC5.out.d.lt fun b hb hq => HC5.out.apart b hq hb))
          clear a0 a1 a2 a3 a4 a5 a6 a7 a8 a9 a10 hu6 hw6
          obtain ⟨a0, a1, a2, a3, a4, a5, a6, a7, a8, a9, a10⟩ := HXB.out w6 HB6.out
          go_wp2_with fail
          refine (rnote_any x false HD6.out (by omega)).mono ?_
          rintro e w7 ⟨rfl, v7, hd7, hw7⟩
          have HC7 : Hid (CarN U w w7 Q6 g r v7 (noteS S x.addr x.xid false)) := Lib.hid (HC5.out.both HKS.out H6.out.1 H6.out.2 (fun _ => ⟨hd7, hw7⟩))
          have hl7 := note_len S x.addr x.xid false
          clear a0 a1 a2 a3 a4 a5 a6 a7 a8 a9 a10 hd7 hw7
          go_wp2
          go_roundw
          case rel => exact ⟨j + 1, Q6, v7, _, by go_num, by omega, by omega, by omega, HC7⟩
          case measure => simp [intOf]; omega
      · have hg2 : decide ((j : Int) < 200) = false := by simp; omega
        go_wp2
        go_ret
        exact ⟨rfl, HC.out.low⟩
    · have hg : decide ((j : Int) < (L.length : Int)) = false := by simp; omega
      go_wp2
      go_ret
      exact ⟨rfl, HC.out.low⟩
end Go.Proofs.Ytekladmddfibaaa
