/- Plain mathematics of pools: lists of ranges as pairs of numbers; joining them. And how a list of ranges lies in memory. -/
import Derived.Test.YtmaohnbddlccdaaGreatMrgBasM
import Derived.WalkKit
import Derived.WalkSpells
namespace Go.Proofs.YtmaohnbddlccdaaGreat
open Go.RowKit

def reachesB (h a : Nat) : Bool := decide (a ≤ h) || decide (a = h + 1)
def cmpN (x y : Nat) : Int := if x < y then -1 else if y < x then 1 else 0

/-- One step of joining. -/
def joinStep (out : List (Nat × Nat)) (r : Nat × Nat) : List (Nat × Nat) :=
  match out.getLast? with
  | none => [r]
  | some p => if reachesB p.2 r.1 then out.dropLast ++ [(p.1, max p.2 r.2)] else out ++ [r]

def joinL (l : List (Nat × Nat)) : List (Nat × Nat) := l.foldl joinStep []

/-- Numbers of 32 bits. -/
def W32 (l : List (Nat × Nat)) : Prop := ∀ x ∈ l, x.1 < 4294967296 ∧ x.2 < 4294967296

/-- The cells of a list of ranges. -/
def rcells : List (Nat × Nat) → List Value
  | [] => []
  | x :: r => .int .u32 x.1 :: .int .u32 x.2 :: rcells r

theorem rcells_length (l : List (Nat × Nat)) : (rcells l).length = l.length * 2 := by
  induction l with
  | nil => rfl
  | cons x r ih => simp [rcells, ih]; omega

theorem rcells_append (a b : List (Nat × Nat)) : rcells (a ++ b) = rcells a ++ rcells b := by
  induction a with
  | nil => rfl
  | cons x r ih => simp [rcells, ih]

theorem rcells_at (l : List (Nat × Nat)) (i : Nat) (x : Nat × Nat) (h : l[i]? = some x) : (rcells l)[i * 2]? = some (.int .u32 x.1) ∧ (rcells l)[i * 2 + 1]? = some (.int .u32 x.2) := by
  induction l generalizing i with
  | nil => simp at h
  | cons y r ih =>
    cases i with
    | zero => simp at h; subst h; simp [rcells]
    | succ i =>
      have := ih i (by simpa using h)
      rw [show (i + 1) * 2 = i * 2 + 1 + 1 by omega]
      simpa [rcells] using this

theorem rcells_one (l : List (Nat × Nat)) : ∀ u ∈ rcells l, u.oneCell' = true := by
  induction l with
  | nil => simp [rcells]
  | cons x r ih =>
    intro u hu
    simp only [rcells, List.mem_cons] at hu
    rcases hu with rfl | rfl | hu
    · rfl
    · rfl
    · exact ih u hu

/-- The slice at A reads as the list l, and lies below block B. -/
structure Rg (w : World) (B : Nat) (A : Option Addr) (l : List (Nat × Nat)) : Prop where
  w32 : W32 l
  at_ : ∀ i x, l[i]? = some x → ∃ b o, A = some ⟨b, o, none⟩ ∧ b < B ∧ w.cell? ⟨b, o + i * 2, none⟩ = some (.int .u32 x.1) ∧ w.cell? ⟨b, o + i * 2 + 1, none⟩ = some (.int .u32 x.2)

theorem rcells_inv (l : List (Nat × Nat)) (j : Nat) (u : Value) (h : (rcells l)[j]? = some u) : ∃ x, l[j / 2]? = some x ∧ (j % 2 = 0 ∧ u = .int .u32 x.1 ∨ j % 2 = 1 ∧ u = .int .u32 x.2) := by
  have hj : j < (rcells l).length := (List.getElem?_eq_some_iff.1 h).1
  rw [rcells_length] at hj
  have hi : j / 2 < l.length := by omega
  refine ⟨l[j / 2], List.getElem?_eq_getElem hi, ?_⟩
  obtain ⟨h1, h2⟩ := rcells_at l (j / 2) _ (List.getElem?_eq_getElem hi)
  rcases Nat.mod_two_eq_zero_or_one j with hm | hm
  · left
    rw [show j / 2 * 2 = j by omega, h] at h1
    exact ⟨hm, Option.some.inj h1⟩
  · right
    rw [show j / 2 * 2 + 1 = j by omega, h] at h2
    exact ⟨hm, Option.some.inj h2⟩

theorem Rg.cells {w : World} {B : Nat} {ad : Addr} {l : List (Nat × Nat)} (h : Rg w B (some ad) l) (j : Nat) (u : Value) (hu : (rcells l)[j]? = some u) : w.cell? (ad.add j) = some u := by
  obtain ⟨x, hx, hc⟩ := rcells_inv l j u hu
  obtain ⟨b, o, hA, _, h1, h2⟩ := h.at_ _ x hx
  have hA' : ad = ⟨b, o, none⟩ := Option.some.inj hA
  subst hA'
  have hadd : (⟨b, o, none⟩ : Addr).add j = ⟨b, o + j, none⟩ := by
    unfold Addr.add
    split
    · rename_i h0; subst h0; rfl
    · rfl
  rw [hadd]
  rcases hc with ⟨hm, rfl⟩ | ⟨hm, rfl⟩
  · rw [show o + j / 2 * 2 = o + j by omega] at h1; exact h1
  · rw [show o + j / 2 * 2 + 1 = o + j by omega] at h2; exact h2

theorem Rg.keep {w w' : World} {B : Nat} {A : Option Addr} {l : List (Nat × Nat)} (h : Rg w B A l) (hk : ∀ p : Addr, p.block < B → w'.cell? p = w.cell? p) : Rg w' B A l :=
  ⟨h.w32, fun i x hx => by
    obtain ⟨b, o, rfl, hb, h1, h2⟩ := h.at_ i x hx
    exact ⟨b, o, rfl, hb, (hk _ hb).trans h1, (hk _ hb).trans h2⟩⟩

theorem Rg.below {w w' : World} {B : Nat} {A : Option Addr} {l : List (Nat × Nat)} (h : Rg w B A l) (hb : Below B w w') : Rg w' B A l := h.keep fun _ hp => hb.cell hp

theorem Rg.more {w : World} {B B' : Nat} {A : Option Addr} {l : List (Nat × Nat)} (h : Rg w B A l) (hB : B ≤ B') : Rg w B' A l :=
  ⟨h.w32, fun i x hx => by
    obtain ⟨b, o, rfl, hb, h1, h2⟩ := h.at_ i x hx
    exact ⟨b, o, rfl, by omega, h1, h2⟩⟩

theorem Rg.of_own {w : World} {base : Nat} {e : TypeId} {A : Option Addr} {n c : Nat} {l : List (Nat × Nat)} (hl : W32 l) (h : w.ownsRow base e 2 (.slice A n c) n (rcells l)) : Rg w w.heap.size A l := by
  refine ⟨hl, fun i x hx => ?_⟩
  have hn : n = l.length := by have := h.1; rw [rcells_length] at this; omega
  have hi : i < l.length := (List.getElem?_eq_some_iff.1 hx).1
  rcases h.2 with ⟨_, h0⟩ | ⟨g, cap, cur, hv, _, hh, _, _, _, ht⟩
  · omega
  have hA : A = some ⟨g, 0, none⟩ := by injection hv
  subst hA
  have hlt : g < w.heap.size := by
    rcases Nat.lt_or_ge g w.heap.size with hlt | hge
    · exact hlt
    · rw [Array.getElem?_eq_none hge] at hh; cases hh
  have hc : ∀ j u, (rcells l)[j]? = some u → w.cell? ⟨g, j, none⟩ = some u := by
    intro j u hu
    rw [← ht, List.getElem?_take] at hu
    split at hu
    · simp only [World.cell?, hh]
      simpa using hu
    · cases hu
  obtain ⟨h1, h2⟩ := rcells_at l i x hx
  exact ⟨g, 0, rfl, hlt, by simpa using hc _ _ h1, by simpa using hc _ _ h2⟩

theorem W32.take {l : List (Nat × Nat)} (h : W32 l) (k : Nat) : W32 (l.take k) := fun x hx => h x (List.mem_of_mem_take hx)

theorem joinStep_w32 {out : List (Nat × Nat)} {r : Nat × Nat} (h : W32 out) (hr : r.1 < 4294967296 ∧ r.2 < 4294967296) : W32 (joinStep out r) := by
  unfold joinStep
  split
  · intro x hx; simp at hx; subst hx; exact hr
  · rename_i p hp
    have hpm : p ∈ out := List.mem_of_getLast? hp
    have h0 := h p hpm
    split
    · intro x hx
      rw [List.mem_append] at hx
      rcases hx with hx | hx
      · exact h x (List.dropLast_subset _ hx)
      · simp at hx; subst hx; exact ⟨h0.1, by simp; omega⟩
    · intro x hx
      rw [List.mem_append] at hx
      rcases hx with hx | hx
      · exact h x hx
      · simp at hx; subst hx; exact hr

theorem joinL_snoc (l : List (Nat × Nat)) (r : Nat × Nat) : joinL (l ++ [r]) = joinStep (joinL l) r := by simp [joinL]

theorem foldl_join_w32 (l out : List (Nat × Nat)) (h : W32 l) (ho : W32 out) : W32 (l.foldl joinStep out) := by
  induction l generalizing out with
  | nil => exact ho
  | cons x r ih => exact ih _ (fun y hy => h y (by simp [hy])) (joinStep_w32 ho (h x (by simp)))

theorem joinL_w32 {l : List (Nat × Nat)} (h : W32 l) : W32 (joinL l) := foldl_join_w32 l [] h (by intro x hx; simp at hx)

theorem joinStep_len (out : List (Nat × Nat)) (r : Nat × Nat) : (joinStep out r).length ≤ out.length + 1 := by
  unfold joinStep
  split
  · simp
  · split
    · simp
    · simp

theorem foldl_join_len (l out : List (Nat × Nat)) : (l.foldl joinStep out).length ≤ out.length + l.length := by
  induction l generalizing out with
  | nil => simp
  | cons x r ih => have := ih (joinStep out x); have h2 := joinStep_len out x; simp at this ⊢; omega

theorem joinL_len (l : List (Nat × Nat)) : (joinL l).length ≤ l.length := by have := foldl_join_len l []; unfold joinL; simpa using this

end Go.Proofs.YtmaohnbddlccdaaGreat
