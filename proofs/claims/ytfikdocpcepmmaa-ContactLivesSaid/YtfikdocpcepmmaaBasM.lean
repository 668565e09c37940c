/- What the texts of every seat stand on: rows and worlds; numbers and their bytes, pure. (Names no function and no type of the program. Cut out of BytM and BytN, which import it.) -/
import Derived.Test.YtfikdocpcepmmaaProg
import Derived.WalkKit
import Derived.WalkSpells
import Derived.WalkLawsBesides
import Derived.Lib.Hide
import Derived.Laws.OwnMore
import Derived.Maps.AppendAt
import Derived.Laws.BytesString
import Derived.Deep.Draws
import Derived.OwnWalk
import Derived.Deep.AppendLies
import Derived.Laws.BitsAllLaws
import Derived.Laws.BitsLemmas
namespace Go.Proofs.Ytfikdocpcepmmaa
open Go.RowKit

theorem add_at (b o j : Nat) : (⟨b, o, none⟩ : Addr).add j = ⟨b, o + j, none⟩ := by
  unfold Addr.add
  split
  · rename_i h; subst h; rfl
  · rfl
theorem own_form {w : World} {base : Nat} {e : TypeId} {size n : Nat} {v : Value} {xs : List Value} (h : w.ownsRow base e size v n xs) : ∃ A c, v = .slice A n c ∧ n ≤ c := by
  rcases h.2 with ⟨rfl, rfl⟩ | ⟨g, cap, cur, rfl, _, _, hnc, _⟩
  · exact ⟨none, 0, rfl, Nat.le_refl _⟩
  · exact ⟨_, cap, rfl, hnc⟩
/-- What is made of a row, and below which nothing has turned. -/
theorem below_of_grown {w w' : World} {n : Nat} {row : Option Nat} (hg : w.grownBy w' row) (hn : n ≤ w.heap.size) (hr : ∀ g, row = some g → n ≤ g) : Below n w w' :=
  (Below.refl n w).grown hg hn (fun g e => hr g e)
theorem take_snoc_of {α : Type} (l : List α) (k : Nat) (x : α) (h : l[k]? = some x) : l.take (k + 1) = l.take k ++ [x] := by
  rw [List.take_add_one, h]; rfl
theorem cell_grown {W w1 : World} {row : Option Nat} (hg : W.grownBy w1 row) {p : Addr} (hp : p.block < W.heap.size) (hne : row ≠ some p.block) : w1.cell? p = W.cell? p :=
  World.cell?_of_block (hg.block p.block hp (fun e => hne e.symm))
theorem own_below {w W w' : World} {B : Nat} {e : TypeId} {size n : Nat} {v : Value} {xs : List Value} (hB : Below B w W) (hBs : B ≤ W.heap.size) (hown : W.ownsRow B e size v n xs) (hg : W.grownBy w' v.ownBlock) : Below B w w' :=
  hB.grown hg hBs (fun k e => (hown.lt k e).1)
theorem grownBy_of_below {V V' : World} (hb : Below V.heap.size V V') : V.grownBy V' none := ⟨hb.os, hb.tape, hb.output, hb.size, fun i hi _ => hb.block i hi⟩

/-- The number that bytes stand for. -/
def numL (l : List UInt8) : Nat := l.foldl (fun n c => n * 256 + c.toNat) 0
theorem numL_snoc (l : List UInt8) (c : UInt8) : numL (l ++ [c]) = numL l * 256 + c.toNat := by simp [numL]
theorem numL_lt (l : List UInt8) : numL l < 256 ^ l.length := by
  rw [← l.reverse_reverse]
  generalize l.reverse = r
  induction r with
  | nil => simp [numL]
  | cons x r ih =>
    rw [List.reverse_cons, numL_snoc, List.length_append, List.length_singleton, Nat.pow_succ]
    have := x.toNat_lt
    omega
theorem or_nat (m x : Nat) (hx : x < 256) : (m * 256) ||| x = m * 256 + x := by
  have h := Nat.shiftLeft_add_eq_or_of_lt (i := 8) (b := x) (by omega) m
  rw [Nat.shiftLeft_eq] at h
  exact h.symm
/-- The bytes of a number, the greatest first. -/
def beL (n m : Nat) : List UInt8 := (List.range m).map fun i => UInt8.ofNat (n / 256 ^ (m - 1 - i))
theorem be_at (n m k : Nat) (hk : k < m) : (beL n m)[k]? = some (UInt8.ofNat (n / 256 ^ (m - 1 - k))) := by simp [beL, hk]
theorem beL_length (n m : Nat) : (beL n m).length = m := by simp [beL]
theorem beL_succ (n m : Nat) : beL n (m + 1) = beL (n / 256) m ++ [UInt8.ofNat n] := by
  unfold beL
  rw [List.range_succ, List.map_append]
  congr 1
  · apply List.map_congr_left
    intro i hi
    have hi' := List.mem_range.1 hi
    rw [Nat.div_div_eq_div_mul, ← Nat.pow_succ', show (m - 1 - i).succ = m + 1 - 1 - i by omega]
  · simp
theorem numL_beL (n m : Nat) : numL (beL n m) = n % 256 ^ m := by
  induction m generalizing n with
  | zero => simp [beL, numL, Nat.mod_one]
  | succ m ih =>
    rw [beL_succ, numL_snoc, ih, UInt8.toNat_ofNat', show (256 : Nat) ^ (m + 1) = 256 * 256 ^ m from Nat.pow_succ', Nat.mod_mul]
    omega
theorem beL_numL (l : List UInt8) : beL (numL l) l.length = l := by
  rw [← l.reverse_reverse]
  generalize l.reverse = r
  induction r with
  | nil => rfl
  | cons x r ih =>
    rw [List.reverse_cons, numL_snoc, List.length_append, List.length_singleton, beL_succ]
    have hx := x.toNat_lt
    rw [show (numL r.reverse * 256 + x.toNat) / 256 = numL r.reverse by omega, ih]
    congr 2
    apply UInt8.toNat_inj.1
    rw [UInt8.toNat_ofNat']
    omega
end Go.Proofs.Ytfikdocpcepmmaa
