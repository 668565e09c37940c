/- What is asked of the program's box and record, whatever they are made of (BoxK, SeenK); the document's Same; lessorlaw18.update, awake. -/
import Derived.Test.YtekladmddfibaaaBoxG
import Derived.Test.YtekladmddfibaaaSeeM
namespace Go.Proofs.Ytekladmddfibaaa
open Go.RowKit Go.Sort

/-- A list of messages in a row of the call's own, apart from the blocks Q. -/
structure OutM (w w' : World) (Q : Nat → Prop) (A : Option Addr) (c : Nat) (l : List MsgV) : Prop where
  own : w'.ownsRow w.heap.size ElemM.e ElemM.m (.slice A l.length c) l.length (ecells ElemM l)
  fits : l.length ≤ c
  apart : ∀ b, (Value.slice A l.length c).ownBlock = some b → ¬ Q b
abbrev ptrV (g : Nat) : Value := .pointer (some ⟨g, 0, none⟩)
/-- What the program's box does. -/
structure BoxK (T : World → (Nat → Prop) → Nat → BxV → Prop) : Prop where
  ok : ∀ {w Q g B}, T w Q g B → B.Ok
  lt : ∀ {w Q g B}, T w Q g B → ∀ b, Q b → b < w.heap.size
  keep : ∀ {w w' Q g B}, T w Q g B → KpT Q w w' → T w' Q g B
  new : ∀ w, Calls Try.prog 9 #[] w fun e w' => ∃ Q g, e = .returned (ptrV g) ∧ T w' Q g newB ∧ Below w.heap.size w w' ∧ ∀ b, Q b → w.heap.size ≤ b
  put : ∀ {w Q g B} (m : MsgV), m.addr < 4294967296 → T w Q g B → Calls Try.prog 23 #[ptrV g, m.v] w fun e w' => ∃ Q', e = .returned (.int .i64 (B.put m).2) ∧ T w' Q' g (B.put m).1 ∧ Way Q w Q' w'
  ack : ∀ {w Q g B} (x : Int), T w Q g B → Calls Try.prog 26 #[ptrV g, .int .i64 x] w fun e w' => ∃ Q', e = .returned (.tuple #[(ackR (B.acked x).2).1.v, .bool (ackR (B.acked x).2).2]) ∧ T w' Q' g (B.acked x).1 ∧ Way Q w Q' w'
  tick : ∀ {w Q g B} (now : Int), T w Q g B → Calls Try.prog 25 #[ptrV g, .int .i64 now] w fun e w' => ∃ Q' A c, e = .returned (.tuple #[.slice A (B.tick now).2.1.length c, .int .i64 (B.tick now).2.2]) ∧ OutM w w' Q' A c (B.tick now).2.1 ∧ T w' Q' g (B.tick now).1 ∧ Way Q w Q' w'
  again : ∀ {w Q g B}, T w Q g B → Calls Try.prog 27 #[ptrV g] w fun e w' => ∃ Q', e = .returned (.tuple #[]) ∧ T w' Q' g B.again ∧ Way Q w Q' w'
  len : ∀ {w Q g B}, T w Q g B → Calls Try.prog 12 #[ptrV g] w fun e w' => e = .returned (.int .i64 ((B.len : Nat) : Int)) ∧ Below w.heap.size w w'
  last : ∀ {w Q g B}, T w Q g B → Calls Try.prog 14 #[ptrV g] w fun e w' => e = .returned (.int .i64 B.xid) ∧ Below w.heap.size w w'
  busy : ∀ {w Q g B} (a : Nat), a < 4294967296 → T w Q g B → Calls Try.prog 15 #[ptrV g, .int .u32 (a : Int)] w fun e w' => e = .returned (.bool (B.busy a)) ∧ Below w.heap.size w w'
/-- What the program's record of what was seen does. -/
structure SeenK (U : World → (Nat → Prop) → Nat → List NtV → Prop) : Prop where
  lt : ∀ {w Q g S}, U w Q g S → ∀ b, Q b → b < w.heap.size
  keep : ∀ {w w' Q g S}, U w Q g S → KpT Q w w' → U w' Q g S
  new : ∀ w, Calls Try.prog 17 #[] w fun e w' => ∃ Q g, e = .returned (ptrV g) ∧ U w' Q g [] ∧ Below w.heap.size w w' ∧ ∀ b, Q b → w.heap.size ≤ b
  take : ∀ {w Q g S} (m : MsgV), m.addr < 4294967296 → U w Q g S → Calls Try.prog 19 #[ptrV g, m.v] w fun e w' => e = .returned (.tuple #[.bool (takeS S m.addr m.xid).1, .bool (takeS S m.addr m.xid).2.1, .bool (takeS S m.addr m.xid).2.2]) ∧ Below w.heap.size w w'
  note : ∀ {w Q g S} (m : MsgV) (ok : Bool), m.addr < 4294967296 → S.length ≤ 1000000 → U w Q g S → Calls Try.prog 21 #[ptrV g, m.v, .bool ok] w fun e w' => ∃ Q', e = .returned (.tuple #[]) ∧ U w' Q' g (noteS S m.addr m.xid ok) ∧ Way Q w Q' w'
section
variable {T : World → (Nat → Prop) → Nat → BxV → Prop} {U : World → (Nat → Prop) → Nat → List NtV → Prop} {w w' : World} {Q Q' : Nat → Prop} {g : Nat} {B : BxV} {S : List NtV}
theorem BoxK.later (K : BoxK T) (h : T w Q g B) (hb : Below w.heap.size w w') : T w' Q g B := K.keep h (KpT.of_below hb (K.lt h))
theorem SeenK.later (K : SeenK U) (h : U w Q g S) (hb : Below w.heap.size w w') : U w' Q g S := K.keep h (KpT.of_below hb (K.lt h))
theorem OutM.el {A : Option Addr} {c : Nat} {l : List MsgV} (h : OutM w w' Q A c l) : El ElemM w' w'.heap.size A l := El.of_own h.own
end

/-- What is told of an address. -/
def updM (a : Nat) (n : Int) : MsgV := ⟨2, 0, 0, 0, 0, a, 2, ⟨#[97]⟩, n % 65536, 0, false⟩
theorem i64_and65535 (n : Int) : bits .and .i64 n 65535 = n % 65536 := by
  have h1 : (BitVec.ofInt 64 65535).toNat = 2 ^ 16 - 1 := by decide
  have key : (BitVec.ofInt 64 n &&& BitVec.ofInt 64 65535).toNat = (n % ((2 ^ 64 : Nat) : Int)).toNat % 2 ^ 16 := by
    rw [BitVec.toNat_and, BitVec.toNat_ofInt, h1, Nat.and_two_pow_sub_one_eq_mod]
  show IntKind.i64.wrap ((BitVec.ofInt 64 n &&& BitVec.ofInt 64 65535).toNat : Nat) = n % 65536
  rw [key, IntKind.wrap_i64]
  omega
theorem i64_and3 (n : Int) : bits .and .i64 n 3 = n % 4 := by
  have h1 : (BitVec.ofInt 64 3).toNat = 2 ^ 2 - 1 := by decide
  have key : (BitVec.ofInt 64 n &&& BitVec.ofInt 64 3).toNat = (n % ((2 ^ 64 : Nat) : Int)).toNat % 2 ^ 2 := by
    rw [BitVec.toNat_and, BitVec.toNat_ofInt, h1, Nat.and_two_pow_sub_one_eq_mod]
  show IntKind.i64.wrap ((BitVec.ofInt 64 n &&& BitVec.ofInt 64 3).toNat : Nat) = n % 4
  rw [key, IntKind.wrap_i64]
  omega
theorem i64_and7 (n : Int) : bits .and .i64 n 7 = n % 8 := by
  have h1 : (BitVec.ofInt 64 7).toNat = 2 ^ 3 - 1 := by decide
  have key : (BitVec.ofInt 64 n &&& BitVec.ofInt 64 7).toNat = (n % ((2 ^ 64 : Nat) : Int)).toNat % 2 ^ 3 := by
    rw [BitVec.toNat_and, BitVec.toNat_ofInt, h1, Nat.and_two_pow_sub_one_eq_mod]
  show IntKind.i64.wrap ((BitVec.ofInt 64 n &&& BitVec.ofInt 64 7).toNat : Nat) = n % 8
  rw [key, IntKind.wrap_i64]
  omega
theorem i64_and15 (n : Int) : bits .and .i64 n 15 = n % 16 := by
  have h1 : (BitVec.ofInt 64 15).toNat = 2 ^ 4 - 1 := by decide
  have key : (BitVec.ofInt 64 n &&& BitVec.ofInt 64 15).toNat = (n % ((2 ^ 64 : Nat) : Int)).toNat % 2 ^ 4 := by
    rw [BitVec.toNat_and, BitVec.toNat_ofInt, h1, Nat.and_two_pow_sub_one_eq_mod]
  show IntKind.i64.wrap ((BitVec.ofInt 64 n &&& BitVec.ofInt 64 15).toNat : Nat) = n % 16
  rw [key, IntKind.wrap_i64]
  omega

set_option maxRecDepth 100000 in
set_option maxHeartbeats 1000000 in
theorem update_any (a : Nat) (n : Int) (w : World) : Calls Try.prog 24 #[.int .u32 (a : Int), .int .i64 n] w fun e w' => e = .returned (updM a n).v ∧ Below w.heap.size w w' := by
  have hb := i64_and65535 n
  go_enter Try.func24, Try.ntmps24
  go_wp2
  refine bodyPost_ret (v := (updM a n).v) ?_ rfl ⟨rfl, (Below.refl _ _).alloc (Nat.le_refl _) _⟩
  simp [results, Try.f24, go_sem, updM]

attribute [local go_sem ↓] run_eqlC run_neqC run_guardC
set_option maxRecDepth 100000 in
set_option maxHeartbeats 4000000 in
theorem rsameM_any (A A2 : Option Addr) (c c2 : Nat) (xs ys : List MsgV) (w : World) (h : El ElemM w w.heap.size A xs) (h2 : El ElemM w w.heap.size A2 ys) (hl : xs.length ≤ 9223372036854775807) :
    Calls Try.prog 31 #[.slice A xs.length c, .slice A2 ys.length c2] w fun e w' => e = .returned (.bool (decide (xs = ys))) ∧ Below w.heap.size w w' := by
  have HE := Lib.hid h
  have HE2 := Lib.hid h2
  clear h h2
  by_cases hn : xs.length = ys.length
  rotate_left
  · have hd : ((xs.length : Int) != (ys.length : Int)) = true := by simp; omega
    have HR : Hid (decide (xs = ys) = false) := Lib.hid (decide_eq_false fun e => hn (by rw [e]))
    clear hn
    go_enter Try.func31, Try.ntmps31
    go_wp2
    go_ret
    rw [HR.out]
    exact ⟨rfl, Below.refl _ _⟩
  have hd : ((xs.length : Int) != (ys.length : Int)) = false := by simp; omega
  have HN := Lib.hid hn
  clear hn
  go_enter Try.func31, Try.ntmps31
  go_wp2
  clear hd
  go_loopw [5] (fun i wr => ∃ j n : Nat, j ≤ xs.length ∧ i = .int .i64 j ∧ wr = w.drewN n ∧ Hid (xs.take j = ys.take j)) (fun i _ => xs.length - (intOf i).toNat)
  case atStart => exact ⟨0, 0, Nat.zero_le _, rfl, rfl, Lib.hid (by simp)⟩
  case round =>
    obtain ⟨j, n, hj, rfl, rfl, HT⟩ := hrel
    by_cases hlt : j < xs.length
    · have hg : decide ((j : Int) < (xs.length : Int)) = true := by simp; omega
      obtain ⟨x, hx⟩ : ∃ x, xs[j]? = some x := ⟨_, List.getElem?_eq_getElem hlt⟩
      obtain ⟨y, hy⟩ : ∃ y, ys[j]? = some y := ⟨_, List.getElem?_eq_getElem (by have := HN.out; omega)⟩
      obtain ⟨b, o, rfl, hb, a0, a1, a2, a3, a4, a5, a6, a7, a8, a9, a10⟩ := HE.out.at11 j x hx
      obtain ⟨b', o', rfl, hb', z0, z1, z2, z3, z4, z5, z6, z7, z8, z9, z10⟩ := HE2.out.at11 j y hy
      have hl2 : j < ys.length := by have := HN.out; omega
      have HX := Lib.hid hx
      have HY := Lib.hid hy
      clear hx hy
      obtain ⟨t, ht⟩ : ∃ t, t = decide (x = y) := ⟨_, rfl⟩
      have hq : eqB x.kind x.life x.seen x.xid x.state (x.addr : Int) x.bind x.client x.pot x.at_ x.ok y.kind y.life y.seen y.xid y.state (y.addr : Int) y.bind y.client y.pot y.at_ y.ok = t := by rw [eqB_of, ht]
      have HT1 := Lib.hid ht
      clear ht
      cases t
      · have HR : Hid (decide (xs = ys) = false) := Lib.hid (decide_eq_false fun e => of_decide_eq_false HT1.out.symm (by
          have := HX.out
          rw [e, HY.out] at this
          exact (Option.some.inj this).symm))
        go_wp2_with fail
        go_quiet (fail)
        go_wp2
        go_ret
        rw [HR.out]
        exact ⟨rfl, ⟨rfl, rfl, rfl, Nat.le_refl _, fun _ _ => rfl⟩⟩
      · have HT2 : Hid (xs.take (j + 1) = ys.take (j + 1)) := Lib.hid (by rw [take_snoc_of xs j x HX.out, take_snoc_of ys j y HY.out, HT.out, of_decide_eq_true HT1.out.symm])
        go_wp2_with fail
        go_quiet (fail)
        go_wp2
        go_roundw
        case rel => exact ⟨j + 1, n + nq, by omega, by go_num, rfl, HT2⟩
        case measure => simp [intOf]; omega
    · have hg : decide ((j : Int) < (xs.length : Int)) = false := by simp; omega
      have HR : Hid (decide (xs = ys) = true) := Lib.hid (decide_eq_true (by
        have h := HT.out
        have hn := HN.out
        rw [List.take_of_length_le (by omega), List.take_of_length_le (by omega)] at h
        exact h))
      go_wp2
      go_ret
      rw [HR.out]
      exact ⟨rfl, ⟨rfl, rfl, rfl, Nat.le_refl _, fun _ _ => rfl⟩⟩
end Go.Proofs.Ytekladmddfibaaa
