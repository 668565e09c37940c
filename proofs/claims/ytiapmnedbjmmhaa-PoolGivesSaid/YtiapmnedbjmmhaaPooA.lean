/- Addresses as elements of slices; the document's Same. -/
import Derived.Test.YtiapmnedbjmmhaaPooM
import Derived.Test.YtiapmnedbjmmhaaElmL
namespace Go.Proofs.Ytiapmnedbjmmhaa
open Go.RowKit Go.Sort

/-- Addresses as elements of slices. -/
def ElemA : Elem Try.prog Nat where
  e := 41
  ty := 35
  m := 1
  bytes := 4
  zero := .int .u32 0
  cells := fun x => [.int .u32 (x : Int)]
  hm := by decide
  hb0 := by decide
  hb := by decide
  len := fun _ => rfl
  one := fun v u hu => by
    simp at hu
    subst hu
    rfl
  und := Try.underlying35
  info := by kernel_rfl
  hz := rfl
theorem ecellsA (l : List Nat) : ecells ElemA l = l.map fun x => .int .u32 (x : Int) := by
  induction l with
  | nil => rfl
  | cons x r ih => rw [ecells_cons, ih]; rfl
section
variable {w w' : World} {B : Nat} {A : Option Addr} {l : List Nat}
theorem El.at1 (h : El ElemA w B A l) (i : Nat) (x : Nat) (hx : l[i]? = some x) : ∃ b o, A = some ⟨b, o, none⟩ ∧ b < B ∧ w.cell? ⟨b, o + i, none⟩ = some (.int .u32 (x : Int)) := by
  obtain ⟨b, o, h1, h2, h3⟩ := h.at_ i x hx
  have h4 := h3 0 _ rfl
  rw [show ElemA.m = 1 from rfl, Nat.mul_one] at h4
  exact ⟨b, o, h1, h2, h4⟩
end
/-- Addresses are answered that lie in what was made since. -/
def GivesA (w : World) (xs : List Nat) (e : Ending) (w' : World) : Prop :=
  ∃ A c, e = .returned (.slice A xs.length c) ∧ xs.length ≤ c ∧ El ElemA w' w'.heap.size A xs ∧ (∀ ad, A = some ad → w.heap.size ≤ ad.block) ∧ Below w.heap.size w w'

set_option maxRecDepth 100000 in
set_option maxHeartbeats 1000000 in
theorem rsame_any (A A2 : Option Addr) (c c2 : Nat) (xs ys : List Nat) (w : World) (h : El ElemA w w.heap.size A xs) (h2 : El ElemA w w.heap.size A2 ys) (hl : xs.length ≤ 9223372036854775807) :
    Calls Try.prog 11 #[.slice A xs.length c, .slice A2 ys.length c2] w fun e w' => e = .returned (.bool (decide (xs = ys))) ∧ Below w.heap.size w w' := by
  have HE := Lib.hid h
  have HE2 := Lib.hid h2
  clear h h2
  by_cases hn : xs.length = ys.length
  rotate_left
  · have hd : ((xs.length : Int) != (ys.length : Int)) = true := by simp; omega
    have HR : Hid (decide (xs = ys) = false) := Lib.hid (decide_eq_false fun e => hn (by rw [e]))
    clear hn
    go_enter Try.func11, Try.ntmps11
    go_wp2
    go_ret
    rw [HR.out]
    exact ⟨rfl, Below.refl _ _⟩
  have hd : ((xs.length : Int) != (ys.length : Int)) = false := by simp; omega
  have HN := Lib.hid hn
  clear hn
  go_enter Try.func11, Try.ntmps11
  go_wp2
  clear hd
  go_loopw [5] (fun i wr => ∃ j n : Nat, j ≤ xs.length ∧ i = .int .i64 j ∧ wr = w.drewN n ∧ Hid (xs.take j = ys.take j)) (fun i _ => xs.length - (intOf i).toNat)
  case atStart => exact ⟨0, 0, Nat.zero_le _, rfl, rfl, Lib.hid (by simp)⟩
  case round =>
    obtain ⟨j, n, hj, rfl, rfl, HT⟩ := hrel
    by_cases hlt : j < xs.length
    · have hg : decide ((j : Int) < (xs.length : Int)) = true := by simp; omega
      obtain ⟨x, hx⟩ : ∃ x, xs[j]? = some x := ⟨_, List.getElem?_eq_getElem hlt⟩
      obtain ⟨y, hy⟩ : ∃ y, ys[j]? = some y := ⟨_, List.getElem?_eq_getElem (by have := HN.out; omega)⟩
      obtain ⟨b, o, rfl, hb, c1⟩ := HE.out.at1 j x hx
      obtain ⟨b', o', rfl, hb', c1'⟩ := HE2.out.at1 j y hy
      have hl2 : j < ys.length := by have := HN.out; omega
      have HX := Lib.hid hx
      have HY := Lib.hid hy
      clear hx hy
      by_cases he : x = y
      · have hq : ((x : Int) != (y : Int)) = false := by simp; omega
        have HT2 : Hid (xs.take (j + 1) = ys.take (j + 1)) := Lib.hid (by rw [take_snoc_of xs j x HX.out, take_snoc_of ys j y HY.out, HT.out, he])
        clear he
        go_wp2
        go_quiet (fail)
        go_wp2
        go_roundw
        case rel => exact ⟨j + 1, n + nq, by omega, by go_num, rfl, HT2⟩
        case measure => simp [intOf]; omega
      · have hq : ((x : Int) != (y : Int)) = true := by simp; omega
        have HR : Hid (decide (xs = ys) = false) := Lib.hid (decide_eq_false fun e => he (by
          have := HX.out
          rw [e, HY.out] at this
          exact (Option.some.inj this).symm))
        clear he
        go_wp2
        go_quiet (fail)
        go_wp2
        go_ret
        rw [HR.out]
        exact ⟨rfl, drewN_low (drewN_low (Below.refl _ _) n) nq⟩
    · have hg : decide ((j : Int) < (xs.length : Int)) = false := by simp; omega
      have HR : Hid (decide (xs = ys) = true) := Lib.hid (decide_eq_true (by
        have h := HT.out
        have hn := HN.out
        rw [List.take_of_length_le (by omega), List.take_of_length_le (by omega)] at h
        exact h))
      go_wp2
      go_ret
      rw [HR.out]
      exact ⟨rfl, drewN_low (Below.refl _ _) n⟩
end Go.Proofs.Ytiapmnedbjmmhaa
