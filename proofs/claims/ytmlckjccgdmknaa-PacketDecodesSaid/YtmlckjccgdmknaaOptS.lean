/- option.skipped, option.split, option.ends. -/
import Derived.Test.YtmlckjccgdmknaaOptC
namespace Go.Proofs.Ytmlckjccgdmknaa
open Go.RowKit

/-- Without the noughts at the front. -/
def skipL (l : List UInt8) : List UInt8 := l.dropWhile (· == 0)
theorem skipL_nil : skipL [] = [] := rfl
theorem skipL_zero (r : List UInt8) : skipL (0 :: r) = skipL r := by simp [skipL]
theorem skipL_other {x : UInt8} (r : List UInt8) (h : x ≠ 0) : skipL (x :: r) = x :: r := by simp [skipL, h]
theorem skipL_length (l : List UInt8) : (skipL l).length ≤ l.length := by
  induction l with
  | nil => simp [skipL]
  | cons x r ih =>
    by_cases h : x = 0
    · subst h; rw [skipL_zero]; simp; omega
    · rw [skipL_other r h]; exact Nat.le_refl _

/-- A slice's length. -/
def lenV : Value → Nat
  | .slice _ n _ => n
  | _ => 0

/-- A slice of bytes is answered; the world is as it was. -/
def GivesS (w : World) (B : Nat) (l : List UInt8) (e : Ending) (w' : World) : Prop :=
  ∃ A c, e = .returned (.slice A l.length c) ∧ By w B A l ∧ l.length ≤ c ∧ w = w'

set_option maxRecDepth 100000 in
set_option maxHeartbeats 1000000 in
theorem skipped_any (B : Nat) (A : Option Addr) (c : Nat) (l : List UInt8) (w : World) (h : By w B A l) (hc : l.length ≤ c) (hl : l.length ≤ 100000) :
    Calls Try.prog 54 #[.slice A l.length c] w (GivesS w B (skipL l)) := by
  go_enter Try.func54, Try.ntmps54
  go_wp2
  go_loop [0] (fun v => ∃ A c l', v = .slice A l'.length c ∧ By w B A l' ∧ l'.length ≤ c ∧ skipL l' = skipL l ∧ l'.length ≤ 100000) (fun v => lenV v)
  case atStart => exact ⟨A, c, l, rfl, h, hc, rfl, hl⟩
  case round =>
    obtain ⟨A, c, l', rfl, h, hc, hsk, hl⟩ := hrel
    have HS := Lib.hid hsk
    clear hsk
    rcases l' with _ | ⟨x, r⟩
    · go_wp2
      go_ret
      rw [← HS.out]
      exact ⟨A, c, rfl, By.nil, Nat.zero_le _, rfl⟩
    · obtain ⟨b, o, rfl, hb, hcell⟩ := h.at_ 0 x rfl
      rw [Nat.add_zero] at hcell
      rw [List.length_cons] at *
      by_cases hx : x = 0
      · subst hx
        have hcell' : w.cell? ⟨b, o, none⟩ = some (.int .u8 0) := hcell
        clear hcell
        by_cases hc1 : c = 1
        · subst hc1
          obtain rfl : r = [] := List.eq_nil_of_length_eq_zero (by omega)
          go_wp2
          go_round
          case rel => exact ⟨_, _, [], rfl, By.nil, Nat.le_refl _, by rw [← HS.out]; rfl, by simp⟩
          case measure => simp [lenV]
        · have hcut := h.cut (k := 1) (cap := c) (by simp) (by simpa using hc)
          rw [if_neg hc1] at hcut
          go_wp2
          go_round
          case rel => exact ⟨_, _, r, rfl, by simpa [add_at] using hcut, by omega, by rw [← HS.out, skipL_zero], by omega⟩
          case measure => simp [lenV]
      · have hx0 : ((x.toNat : Int) == 0) = false := by
          have : x.toNat ≠ 0 := fun e => hx (UInt8.toNat_inj.1 (by simpa using e))
          simp; omega
        go_wp2
        go_ret
        rw [← HS.out, skipL_other r hx]
        exact ⟨_, c, rfl, h, hc, rfl⟩

/-- The data of the first option, and what is behind it. -/
def splitL : List UInt8 → Option (List UInt8 × List UInt8)
  | _ :: y :: r => if y.toNat ≤ r.length then some (r.take y.toNat, r.drop y.toNat) else none
  | _ => none

def SplitNo (w : World) (e : Ending) (w' : World) : Prop := e = .returned (.tuple #[.slice none 0 0, .slice none 0 0, .bool false]) ∧ w = w'

set_option maxRecDepth 100000 in
set_option maxHeartbeats 1000000 in
theorem split_no (B : Nat) (A : Option Addr) (c : Nat) (l : List UInt8) (w : World) (h : By w B A l) (hl : l.length ≤ 100000) (hs : splitL l = none) :
    Calls Try.prog 55 #[.slice A l.length c] w (SplitNo w) := by
  rcases l with _ | ⟨x, _ | ⟨y, r⟩⟩
  · go_enter Try.func55, Try.ntmps55
    go_wp2
    go_ret3
    exact ⟨rfl, rfl⟩
  · go_enter Try.func55, Try.ntmps55
    go_wp2
    go_ret3
    exact ⟨rfl, rfl⟩
  · have hy : r.length < y.toNat := by
      rcases Nat.lt_or_ge r.length y.toNat with h1 | h1
      · exact h1
      · simp only [splitL] at hs
        rw [if_pos h1] at hs
        cases hs
    have hyb := y.toNat_lt
    clear hs
    obtain ⟨b, o, rfl, hb, hcell⟩ := h.at_ 1 y rfl
    rw [List.length_cons, List.length_cons] at *
    have hd2 : decide (r.length + 1 + 1 < 2) = false := by simp
    have hd3 : decide ((r.length : Int) + 1 + 1 < 2) = false := by simp; omega
    have hd4 : decide ((r.length : Int) + 1 + 1 - 2 < (y.toNat : Int)) = true := by simp; omega
    go_enter Try.func55, Try.ntmps55
    go_wp2
    go_ret3
    exact ⟨rfl, rfl⟩

def SplitYes (w : World) (B : Nat) (d r : List UInt8) (e : Ending) (w' : World) : Prop :=
  ∃ A1 c1 A2 c2 n, e = .returned (.tuple #[.slice A1 d.length c1, .slice A2 r.length c2, .bool true]) ∧ By w B A1 d ∧ By w B A2 r ∧ r.length ≤ c2 ∧ w' = w.drewN n

theorem By.at_off {w : World} {B b o : Nat} {l : List UInt8} (h : By w B (some ⟨b, o, none⟩) l) (k : Nat) : By w B (some ⟨b, o + k, none⟩) (l.drop k) := by
  refine ⟨fun i x hx => ?_⟩
  rw [List.getElem?_drop] at hx
  obtain ⟨b', o', hA, hb, h1⟩ := h.at_ _ x hx
  obtain ⟨rfl, rfl⟩ : b = b' ∧ o = o' := by injection hA with hA; injection hA with h1 h2; exact ⟨h1, h2⟩
  exact ⟨b, o + k, rfl, hb, by rw [Nat.add_assoc]; exact h1⟩

theorem split_end {A1 A2 : Option Addr} {c1 c2 n1 n2 : Nat} {d r : List UInt8} (h1 : n1 = d.length) (h2 : n2 = r.length) :
    Ending.returned (.tuple #[.slice A1 n1 c1, .slice A2 n2 c2, .bool true]) = .returned (.tuple #[.slice A1 d.length c1, .slice A2 r.length c2, .bool true]) := by rw [h1, h2]

set_option maxRecDepth 100000 in
set_option maxHeartbeats 1000000 in
theorem split_yes (B : Nat) (A : Option Addr) (c : Nat) (x y : UInt8) (r : List UInt8) (w : World) (h : By w B A (x :: y :: r)) (hl : (x :: y :: r).length ≤ 100000) (hc : (x :: y :: r).length ≤ c) (hy : y.toNat ≤ r.length) :
    Calls Try.prog 55 #[.slice A (x :: y :: r).length c] w (SplitYes w B (r.take y.toNat) (r.drop y.toNat)) := by
  have hyb := y.toNat_lt
  obtain ⟨b, o, rfl, hb, hcell⟩ := h.at_ 1 y rfl
  change w.cell? _ = some (.int .u8 (y.toNat : Int)) at hcell
  have hr1 := (h.at_off 2).take y.toNat
  have hr2 := h.at_off (2 + y.toNat)
  rw [show (x :: y :: r).drop 2 = r from rfl] at hr1
  rw [show (x :: y :: r).drop (2 + y.toNat) = r.drop y.toNat by rw [Nat.add_comm]; rfl] at hr2
  rw [List.length_cons, List.length_cons] at *
  have hd2 : decide (r.length + 1 + 1 < 2) = false := by simp
  have hd3 : decide ((r.length : Int) + 1 + 1 < 2) = false := by simp; omega
  have hd4 : decide ((r.length : Int) + 1 + 1 - 2 < (y.toNat : Int)) = false := by simp; omega
  generalize hn : y.toNat = n at *
  have HN := Lib.hid hn
  clear hn
  by_cases hc2 : c = 2
  · subst hc2
    obtain rfl : r = [] := List.eq_nil_of_length_eq_zero (by omega)
    obtain rfl : n = 0 := by simpa using hy
    simp only [List.length_nil] at *
    go_enter Try.func55, Try.ntmps55
    go_wp2
    go_quiet (fail)
    go_wp2
    go_ret3
    exact ⟨_, _, _, _, nq, split_end rfl rfl, By.nil, By.nil, by simp, rfl⟩
  · by_cases hcn : c = 2 + n
    · have hrn : r.length = n := by omega
      subst hcn
      have i0 : (0 : Int) ≤ 2 + (n : Int) := by omega
      have i1 : (2 : Int) ≤ 2 + (n : Int) := by omega
      have i3 : 2 + (n : Int) ≤ (r.length : Int) + 1 + 1 := by omega
      have HRN := Lib.hid hrn
      clear hrn
      go_enter Try.func55, Try.ntmps55
      go_wp2
      go_quiet (fail)
      go_wp2
      go_ret3
      have hz : r.drop n = [] := List.drop_of_length_le (by have := HRN.out; omega)
      rw [hz] at *
      exact ⟨_, _, _, _, nq, split_end (by have := HRN.out; simp; omega) (by have := HRN.out; simp; omega), hr1, By.nil, by simp, rfl⟩
    · have i0 : (0 : Int) ≤ 2 + (n : Int) := by omega
      have i1 : (2 : Int) ≤ 2 + (n : Int) := by omega
      have i2 : 2 + (n : Int) ≤ (c : Int) := by omega
      have i3 : 2 + (n : Int) ≤ (r.length : Int) + 1 + 1 := by omega
      go_enter Try.func55, Try.ntmps55
      go_wp2
      go_quiet (fail)
      go_wp2
      go_ret3
      exact ⟨_, _, _, _, nq, split_end (by simp; omega) (by simp; omega), hr1, hr2, by simp; omega, rfl⟩

/-- Is this the end, with nothing but noughts behind it? -/
def endsL : List UInt8 → Bool
  | [] => false
  | x :: r => x == 255 && (skipL r).isEmpty

set_option maxRecDepth 100000 in
set_option maxHeartbeats 1000000 in
theorem ends_any (B : Nat) (A : Option Addr) (c : Nat) (l : List UInt8) (w : World) (h : By w B A l) (hc : l.length ≤ c) (hl : l.length ≤ 100000) :
    Calls Try.prog 57 #[.slice A l.length c] w fun e w' => e = .returned (.bool (endsL l)) ∧ w = w' := by
  rcases l with _ | ⟨x, r⟩
  · go_enter Try.func57, Try.ntmps57
    go_wp2
    go_ret
    exact ⟨rfl, rfl⟩
  · obtain ⟨b, o, rfl, hb, hcell⟩ := h.at_ 0 x rfl
    rw [Nat.add_zero] at hcell
    by_cases hx : x = 255
    · subst hx
      have hcell' : w.cell? ⟨b, o, none⟩ = some (.int .u8 255) := hcell
      clear hcell
      have HE := Lib.hid (show endsL (255 :: r) = (skipL r).isEmpty by simp [endsL])
      have HK : Hid (∀ A' c', By w B A' r → r.length ≤ c' → Calls Try.prog 54 #[.slice A' r.length c'] w (GivesS w B (skipL r))) := fun A' c' h' hc' => skipped_any B A' c' r w h' hc' (by simp at hl; omega)
      have hsl := skipL_length r
      rw [List.length_cons] at *
      by_cases hc1 : c = 1
      · subst hc1
        obtain rfl : r = [] := List.eq_nil_of_length_eq_zero (by omega)
        go_enter Try.func57, Try.ntmps57
        go_wp2_with fail
        refine (HK.out _ _ By.nil (Nat.le_refl _)).mono ?_
        rintro e w' ⟨A2, c2, rfl, _, _, rfl⟩
        go_wp2
        go_ret
        exact ⟨rfl, rfl⟩
      · have hr1 := h.at_off 1
        rw [show (255 :: r).drop 1 = r from rfl] at hr1
        go_enter Try.func57, Try.ntmps57
        go_wp2_with fail
        refine (HK.out _ _ hr1 (by omega)).mono ?_
        rintro e w' ⟨A2, c2, rfl, _, _, rfl⟩
        go_wp2
        go_ret
        rw [HE.out]
        refine ⟨?_, rfl⟩
        cases skipL r with
        | nil => simp
        | cons a t => simp; omega
    · have hx0 : ((x.toNat : Int) == 255) = false := by
        have : x.toNat ≠ 255 := fun e => hx (UInt8.toNat_inj.1 (by simpa using e))
        simp; omega
      have HE := Lib.hid (show endsL (x :: r) = false by simp [endsL, hx])
      rw [List.length_cons] at *
      go_enter Try.func57, Try.ntmps57
      go_wp2
      go_ret
      rw [HE.out]
      exact ⟨rfl, rfl⟩
end Go.Proofs.Ytmlckjccgdmknaa
