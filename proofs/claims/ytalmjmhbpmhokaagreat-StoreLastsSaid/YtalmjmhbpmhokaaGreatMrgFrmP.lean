/- Joined texts: FrmP, FrmQ, FrmM, FrmA, FrmB, RangeF, FrmI, FrmV. -/
import Derived.WalkKit
import Derived.Test.YtalmjmhbpmhokaaGreatMrgBasM
import Derived.BigQuiet
import Derived.RangeFuncNested
import Derived.RangeFuncBound
import Derived.RangeFuncCalls
import Derived.RangeFuncLeaves
import Derived.Shelf.Abstract
import Derived.Shelf.RegionOpen
import Derived.OwnWalkIn
import Derived.TacticsInMore
import Derived.LoopNIn
import Derived.LoopIn

/- Frames, pure: the bytes of a record; the records that bytes begin with; bytes that are cut off; what was told, put anew. -/
section
namespace Go.Proofs.YtalmjmhbpmhokaaGreat

/-- The frame of a record. -/
def fr (r : List UInt8) : List UInt8 := [UInt8.ofNat (r.length / 256), UInt8.ofNat (r.length % 256)] ++ (r ++ [90])
def GoodF (r : List UInt8) : Prop := 1 ≤ r.length ∧ r.length ≤ 1000
theorem fr_length (r : List UInt8) : (fr r).length = r.length + 3 := by simp [fr]

/-- The number in two bytes. -/
def two (h l : UInt8) : Nat := h.toNat * 256 + l.toNat
theorem two_of (n : Nat) (h : n ≤ 1000) : two (UInt8.ofNat (n / 256)) (UInt8.ofNat (n % 256)) = n := by
  unfold two
  rw [UInt8.toNat_ofNat', UInt8.toNat_ofNat']
  omega
theorem of_two (h l : UInt8) : UInt8.ofNat (two h l / 256) = h ∧ UInt8.ofNat (two h l % 256) = l := by
  have h1 := h.toNat_lt
  have h2 := l.toNat_lt
  unfold two
  constructor
  · apply UInt8.toNat_inj.1
    rw [UInt8.toNat_ofNat']
    omega
  · apply UInt8.toNat_inj.1
    rw [UInt8.toNat_ofNat']
    omega

/-- The record of the frame at the beginning, if it is whole. -/
def firstF : List UInt8 → Option (List UInt8)
  | h :: l :: t => if 1 ≤ two h l ∧ two h l ≤ 1000 ∧ t[two h l]? = some 90 then some (t.take (two h l)) else none
  | _ => none

theorem first_fr (r t : List UInt8) (h : GoodF r) : firstF (fr r ++ t) = some r := by
  have e : fr r ++ t = UInt8.ofNat (r.length / 256) :: UInt8.ofNat (r.length % 256) :: (r ++ ([90] ++ t)) := by simp [fr]
  rw [e, firstF, two_of _ h.2, if_pos]
  · rw [List.take_left' rfl]
  · exact ⟨h.1, h.2, by rw [List.getElem?_append_right (Nat.le_refl _)]; simp⟩

theorem first_spec {b r : List UInt8} (h : firstF b = some r) : GoodF r ∧ b = fr r ++ b.drop (r.length + 3) := by
  match b with
  | [] => simp [firstF] at h
  | [_] => simp [firstF] at h
  | x :: y :: t =>
    rw [firstF] at h
    split at h
    · rename_i hc
      obtain ⟨h1, h2, h3⟩ := hc
      obtain rfl := Option.some.inj h
      have hlt := (List.getElem?_eq_some_iff.1 h3).1
      have hlen : (t.take (two x y)).length = two x y := by rw [List.length_take]; omega
      refine ⟨⟨by omega, by omega⟩, ?_⟩
      rw [fr, hlen, (of_two x y).1, (of_two x y).2]
      simp only [List.cons_append, List.nil_append, List.append_assoc, show two x y + 3 = two x y + 1 + 1 + 1 by omega, List.drop_succ_cons]
      congr 2
      have h4 : t.drop (two x y) = 90 :: t.drop (two x y + 1) := by
        rw [List.drop_eq_getElem_cons hlt]
        congr 1
        rw [List.getElem?_eq_getElem hlt] at h3
        exact Option.some.inj h3
      rw [← h4, List.take_append_drop]
    · cases h

/-- The records of the frames that bytes begin with. -/
def scanF : Nat → List UInt8 → List (List UInt8)
  | 0, _ => []
  | k + 1, b => match firstF b with
    | some r => r :: scanF k (b.drop (r.length + 3))
    | none => []
def scanL (b : List UInt8) : List (List UInt8) := scanF b.length b
/-- The length of all frames. -/
def tot (l : List (List UInt8)) : Nat := (l.map fun r => r.length + 3).sum
theorem tot_nil : tot [] = 0 := rfl
theorem tot_cons (r : List UInt8) (l : List (List UInt8)) : tot (r :: l) = r.length + 3 + tot l := by simp [tot]
theorem tot_append (l m : List (List UInt8)) : tot (l ++ m) = tot l + tot m := by simp [tot]
theorem tot_snoc (l : List (List UInt8)) (r : List UInt8) : tot (l ++ [r]) = tot l + (r.length + 3) := by rw [tot_append, tot_cons, tot_nil]

theorem first_len {b r : List UInt8} (h : firstF b = some r) : r.length + 3 ≤ b.length := by
  have := (first_spec h).2
  rw [this, List.length_append, fr_length]
  omega
theorem scanF_more (k : Nat) : ∀ (m : Nat) (b : List UInt8), b.length ≤ k → b.length ≤ m → scanF k b = scanF m b := by
  induction k with
  | zero =>
    intro m b hb _
    obtain rfl := List.eq_nil_of_length_eq_zero (Nat.le_zero.1 hb)
    cases m <;> rfl
  | succ k ih =>
    intro m b hb hm
    cases m with
    | zero =>
      obtain rfl := List.eq_nil_of_length_eq_zero (Nat.le_zero.1 hm)
      rfl
    | succ m =>
      rw [scanF, scanF]
      cases hf : firstF b with
      | none => rfl
      | some r =>
        have hl := first_len hf
        show r :: _ = r :: _
        rw [ih m _ (by rw [List.length_drop]; omega) (by rw [List.length_drop]; omega)]
theorem scan_none {b : List UInt8} (h : firstF b = none) : scanL b = [] := by
  unfold scanL
  cases hb : b.length with
  | zero => rfl
  | succ k => rw [scanF, h]
theorem scan_some {b r : List UInt8} (h : firstF b = some r) : scanL b = r :: scanL (b.drop (r.length + 3)) := by
  have hl := first_len h
  unfold scanL
  cases hb : b.length with
  | zero => omega
  | succ k =>
    rw [scanF, h]
    show r :: _ = r :: _
    rw [scanF_more k (b.drop (r.length + 3)).length _ (by rw [List.length_drop]; omega) (Nat.le_refl _)]

/-- All frames of some records. -/
def frs (l : List (List UInt8)) : List UInt8 := l.flatMap fr
theorem frs_nil : frs [] = [] := rfl
theorem frs_cons (r : List UInt8) (l : List (List UInt8)) : frs (r :: l) = fr r ++ frs l := rfl
theorem frs_append (l m : List (List UInt8)) : frs (l ++ m) = frs l ++ frs m := by simp [frs]
theorem frs_snoc (l : List (List UInt8)) (r : List UInt8) : frs (l ++ [r]) = frs l ++ fr r := by rw [frs_append, frs_cons, frs_nil, List.append_nil]
theorem frs_length (l : List (List UInt8)) : (frs l).length = tot l := by
  induction l with
  | nil => rfl
  | cons r l ih => rw [frs_cons, List.length_append, fr_length, ih, tot_cons]

theorem scan_frs (l : List (List UInt8)) (t : List UInt8) (h : ∀ r ∈ l, GoodF r) : scanL (frs l ++ t) = l ++ scanL t := by
  induction l with
  | nil => rfl
  | cons r l ih =>
    rw [frs_cons, List.append_assoc, scan_some (first_fr r _ (h r (by simp)))]
    have e : (fr r ++ (frs l ++ t)).drop (r.length + 3) = frs l ++ t := List.drop_left' (fr_length r)
    rw [e, ih fun x hx => h x (by simp [hx])]
    rfl

/-- A frame that is cut off is none. -/
theorem first_cut (r : List UInt8) (k : Nat) (h : GoodF r) (hk : k < r.length + 3) : firstF ((fr r).take k) = none := by
  have e : fr r = UInt8.ofNat (r.length / 256) :: UInt8.ofNat (r.length % 256) :: (r ++ [90]) := by simp [fr]
  rw [e]
  match k with
  | 0 => rfl
  | 1 => rfl
  | k + 2 =>
    rw [List.take_succ_cons, List.take_succ_cons, firstF, two_of _ h.2, if_neg]
    rintro ⟨_, _, h3⟩
    have := (List.getElem?_eq_some_iff.1 h3).1
    rw [List.length_take] at this
    omega

/-- Of frames that are cut off just those are told that are whole. -/
theorem scan_cut (l : List (List UInt8)) (h : ∀ r ∈ l, GoodF r) (whole cut : Nat) (h1 : tot (l.take whole) ≤ cut) (h2 : ∀ r, l[whole]? = some r → cut < tot (l.take whole) + (r.length + 3)) : scanL ((frs l).take cut) = l.take whole := by
  have e : frs l = frs (l.take whole) ++ frs (l.drop whole) := by rw [← frs_append, List.take_append_drop]
  have hlen := frs_length (l.take whole)
  rw [e, List.take_append, List.take_of_length_le (by omega), hlen, scan_frs _ _ fun r hr => h r (List.mem_of_mem_take hr)]
  have hz : scanL ((frs (l.drop whole)).take (cut - tot (l.take whole))) = [] := by
    apply scan_none
    cases hd : l.drop whole with
    | nil => rw [frs_nil, List.take_nil]; rfl
    | cons r m =>
      have hr : l[whole]? = some r := by
        have := List.getElem?_drop (xs := l) (i := whole) (j := 0)
        rw [hd] at this
        simpa using this.symm
      have hm := List.mem_of_getElem? hr
      have hk := h2 r hr
      rw [frs_cons, List.take_append_of_le_length (by rw [fr_length]; omega)]
      exact first_cut r _ (h r hm) (by omega)
  rw [hz, List.append_nil]

/-- What is told, put anew, is what was said; behind it no frame follows. -/
theorem scan_back (b : List UInt8) : (∀ r ∈ scanL b, GoodF r) ∧ b = frs (scanL b) ++ b.drop (tot (scanL b)) ∧ scanL (b.drop (tot (scanL b))) = [] := by
  generalize hn : b.length = n
  induction n using Nat.strongRecOn generalizing b with
  | ind n ih =>
    cases hf : firstF b with
    | none =>
      rw [scan_none hf]
      refine ⟨fun r hr => by simp at hr, ?_, ?_⟩
      · rw [frs_nil, tot_nil, List.drop_zero, List.nil_append]
      · rw [tot_nil, List.drop_zero]; exact scan_none hf
    | some r =>
      have hl := first_len hf
      obtain ⟨hg, hs⟩ := first_spec hf
      obtain ⟨i1, i2, i3⟩ := ih (b.drop (r.length + 3)).length (by rw [List.length_drop]; omega) (b.drop (r.length + 3)) rfl
      rw [scan_some hf]
      rw [List.drop_drop] at i2 i3
      refine ⟨fun x hx => ?_, ?_, ?_⟩
      · rcases List.mem_cons.1 hx with rfl | hx
        · exact hg
        · exact i1 x hx
      · rw [frs_cons, tot_cons, List.append_assoc, ← i2]
        exact hs
      · rw [tot_cons]; exact i3

/-- One more frame at a place. -/
theorem first_at (b : List UInt8) (k : Nat) (h l : UInt8) (h0 : b[k]? = some h) (h1 : b[k + 1]? = some l) :
    firstF (b.drop k) = if 1 ≤ two h l ∧ two h l ≤ 1000 ∧ b[k + 2 + two h l]? = some 90 then some ((b.drop (k + 2)).take (two h l)) else none := by
  have e0 := (List.getElem?_eq_some_iff.1 h0)
  have e1 := (List.getElem?_eq_some_iff.1 h1)
  obtain ⟨l0, v0⟩ := e0
  obtain ⟨l1, v1⟩ := e1
  rw [List.drop_eq_getElem_cons l0, List.drop_eq_getElem_cons l1, v0, v1, firstF, List.getElem?_drop]
theorem first_short (b : List UInt8) (k : Nat) (h : b.length ≤ k + 2) : firstF (b.drop k) = none := by
  cases hf : firstF (b.drop k) with
  | none => rfl
  | some r =>
    have := first_len hf
    rw [List.length_drop] at this
    omega
end Go.Proofs.YtalmjmhbpmhokaaGreat
end

/- Frames, pure: what logs need of them. (Not beside LawFBack and FrmX, which have some of these names for stage 9.) -/
section
namespace Go.Proofs.YtalmjmhbpmhokaaGreat

theorem scan_take (b : List UInt8) : b.take (tot (scanL b)) = frs (scanL b) := by
  have h := (scan_back b).2.1
  have h2 : (frs (scanL b) ++ b.drop (tot (scanL b))).take (tot (scanL b)) = frs (scanL b) := List.take_left' (frs_length _)
  rw [← h] at h2
  exact h2
theorem scan_tot (b : List UInt8) : tot (scanL b) ≤ b.length := by
  have h2 := congrArg List.length (scan_back b).2.1
  rw [List.length_append, frs_length] at h2
  omega
theorem scan_all {b : List UInt8} (h : tot (scanL b) = b.length) : b = frs (scanL b) := by
  have h2 := scan_take b
  rw [h, List.take_length] at h2
  exact h2
theorem scan_self {l : List (List UInt8)} (h : ∀ r ∈ l, GoodF r) : scanL (frs l) = l := by
  have h2 := scan_frs l [] h
  rw [List.append_nil] at h2
  rw [h2]
  have : scanL [] = [] := rfl
  rw [this, List.append_nil]
theorem frs_take (ds : List (List UInt8)) (wh : Nat) : (frs ds).take (tot (ds.take wh)) = frs (ds.take wh) := by
  have e : frs ds = frs (ds.take wh) ++ frs (ds.drop wh) := by rw [← frs_append, List.take_append_drop]
  rw [e, List.take_left' (frs_length _)]
theorem frs_take_snoc {L : List (List UInt8)} {k : Nat} {r : List UInt8} (h : L[k]? = some r) : frs (L.take (k + 1)) = frs (L.take k) ++ fr r := by
  rw [List.take_add_one, h]
  exact frs_snoc _ _
theorem tot_take_le (L : List (List UInt8)) (k : Nat) : tot (L.take k) ≤ tot L := by
  have h := congrArg tot (List.take_append_drop k L)
  rw [tot_append] at h
  omega
theorem tot_take_mono (L : List (List UInt8)) {j k : Nat} (h : j ≤ k) : tot (L.take j) ≤ tot (L.take k) := by
  have h2 := tot_take_le (L.take k) j
  rw [List.take_take, Nat.min_eq_left h] at h2
  exact h2
theorem tot_good {ds : List (List UInt8)} (hg : ∀ r ∈ ds, GoodF r) : tot ds ≤ ds.length * 1003 := by
  induction ds with
  | nil => simp [tot_nil]
  | cons r l ih =>
    have h1 := ih fun x hx => hg x (by simp [hx])
    have h2 := (hg r (by simp)).2
    rw [tot_cons, List.length_cons]
    omega

/-- Of frames that are cut off at a place, some are whole: those that end ahead of it. -/
theorem cut_some (l : List (List UInt8)) (h : ∀ r ∈ l, GoodF r) (cut : Nat) : ∃ wh, wh ≤ l.length ∧ tot (l.take wh) ≤ cut ∧ scanL ((frs l).take cut) = l.take wh ∧ ∀ j, j ≤ l.length → tot (l.take j) ≤ cut → j ≤ wh := by
  induction hn : l.length with
  | zero =>
    obtain rfl := List.eq_nil_of_length_eq_zero hn
    exact ⟨0, Nat.le_refl _, Nat.zero_le _, by simp [frs_nil]; rfl, fun j hj _ => hj⟩
  | succ n _ =>
    -- the greatest one
    have pick : ∀ m, m ≤ l.length → ∃ wh, wh ≤ m ∧ tot (l.take wh) ≤ cut ∧ ∀ j, j ≤ m → tot (l.take j) ≤ cut → j ≤ wh := by
      intro m
      induction m with
      | zero => exact fun _ => ⟨0, Nat.le_refl _, by simp [tot_nil], fun j hj _ => hj⟩
      | succ m ih =>
        intro hm
        by_cases hc : tot (l.take (m + 1)) ≤ cut
        · exact ⟨m + 1, Nat.le_refl _, hc, fun j hj _ => hj⟩
        · obtain ⟨wh, h1, h2, h3⟩ := ih (by omega)
          refine ⟨wh, by omega, h2, fun j hj hj2 => ?_⟩
          by_cases e : j = m + 1
          · subst e; exact absurd hj2 hc
          · exact h3 j (by omega) hj2
    obtain ⟨wh, h1, h2, h3⟩ := pick l.length (Nat.le_refl _)
    rw [← hn]
    refine ⟨wh, h1, h2, scan_cut l h wh cut h2 fun r hr => ?_, h3⟩
    have hlt := (List.getElem?_eq_some_iff.1 hr).1
    rcases Nat.lt_or_ge cut (tot (l.take wh) + (r.length + 3)) with hh | hh
    · exact hh
    · have h4 := h3 (wh + 1) (by omega) (by rw [List.take_add_one, hr]; show tot (l.take wh ++ [r]) ≤ cut; rw [tot_snoc]; exact hh)
      omega
end Go.Proofs.YtalmjmhbpmhokaaGreat
end

/- Rows of slices of bytes in memory. -/
section
namespace Go.Proofs.YtalmjmhbpmhokaaGreat
open Go.RowKit

/-- The value v reads as the bytes l, in a row of its own from block lo on. -/
abbrev Own8 (w : World) (lo : Nat) (v : Value) (l : List UInt8) : Prop := w.ownsRow lo 5 1 v l.length (bcells l)

/-- A slice of bytes as it lies. -/
structure SlV where
  ad : Option Addr
  cap : Nat
  data : List UInt8
abbrev SlV.v (x : SlV) : Value := .slice x.ad x.data.length x.cap
instance : Inhabited SlV := ⟨⟨none, 0, []⟩⟩
def scells (l : List SlV) : List Value := l.map SlV.v
def datas (l : List SlV) : List (List UInt8) := l.map SlV.data
theorem scells_length (l : List SlV) : (scells l).length = l.length := by simp [scells]
theorem scells_snoc (l : List SlV) (x : SlV) : scells (l ++ [x]) = scells l ++ [x.v] := by simp [scells]
theorem datas_length (l : List SlV) : (datas l).length = l.length := by simp [datas]
theorem datas_snoc (l : List SlV) (x : SlV) : datas (l ++ [x]) = datas l ++ [x.data] := by simp [datas]
theorem datas_take (l : List SlV) (k : Nat) : datas (l.take k) = (datas l).take k := by simp [datas, List.map_take]
theorem datas_at {l : List SlV} {i : Nat} {x : SlV} (h : l[i]? = some x) : (datas l)[i]? = some x.data := by simp [datas, h]

/-- The slice at A reads as the slices l, and lies below block B, with all their bytes. -/
structure Ls (w : World) (B : Nat) (A : Option Addr) (l : List SlV) : Prop where
  at_ : ∀ i x, l[i]? = some x → ∃ b o, A = some ⟨b, o, none⟩ ∧ b < B ∧ w.cell? ⟨b, o + i, none⟩ = some x.v
  data : ∀ x ∈ l, By w B x.ad x.data
  caps : ∀ x ∈ l, x.data.length ≤ x.cap

section
variable {w w' : World} {B B' : Nat} {A : Option Addr} {l : List SlV}
theorem Ls.nil : Ls w B A [] := ⟨fun i x h => by simp at h, fun x h => by simp at h, fun x h => by simp at h⟩
theorem Ls.keep (h : Ls w B A l) (hk : ∀ p : Addr, p.block < B → w'.cell? p = w.cell? p) : Ls w' B A l :=
  ⟨fun i x hx => by
    obtain ⟨b, o, rfl, hb, h1⟩ := h.at_ i x hx
    exact ⟨b, o, rfl, hb, (hk _ hb).trans h1⟩, fun x hx => (h.data x hx).keep hk, h.caps⟩
theorem Ls.below (h : Ls w B A l) (hb : Below B w w') : Ls w' B A l := h.keep fun _ hp => hb.cell hp
theorem Ls.more (h : Ls w B A l) (hB : B ≤ B') : Ls w B' A l :=
  ⟨fun i x hx => by
    obtain ⟨b, o, rfl, hb, h1⟩ := h.at_ i x hx
    exact ⟨b, o, rfl, by omega, h1⟩, fun x hx => (h.data x hx).more hB, h.caps⟩
theorem Ls.later (h : Ls w w.heap.size A l) (hb : Below w.heap.size w w') : Ls w' w'.heap.size A l := (h.below hb).more hb.size
theorem Ls.drew (h : Ls w B A l) : Ls w.drew B A l := ⟨h.at_, fun x hx => (h.data x hx).drew, h.caps⟩
theorem Ls.drewN (h : Ls w B A l) (n : Nat) : Ls (w.drewN n) B A l := ⟨h.at_, fun x hx => (h.data x hx).drewN n, h.caps⟩
theorem Ls.take (h : Ls w B A l) (k : Nat) : Ls w B A (l.take k) :=
  ⟨fun i x hx => h.at_ i x (by rw [List.getElem?_take] at hx; split at hx; exact hx; cases hx), fun x hx => h.data x (List.mem_of_mem_take hx), fun x hx => h.caps x (List.mem_of_mem_take hx)⟩
theorem Ls.of_own {base : Nat} {e : TypeId} {n c : Nat} (h : w.ownsRow base e 1 (.slice A n c) n (scells l)) (hd : ∀ x ∈ l, By w w.heap.size x.ad x.data) (hc : ∀ x ∈ l, x.data.length ≤ x.cap) : Ls w w.heap.size A l := by
  refine ⟨fun i x hx => ?_, hd, hc⟩
  have hi : i < l.length := (List.getElem?_eq_some_iff.1 hx).1
  have hn : n = l.length := by have := h.1; rw [scells_length] at this; omega
  rcases h.2 with ⟨_, h0⟩ | ⟨g, cap, cur, hv, _, hh, _⟩
  · omega
  have hA : A = some ⟨g, 0, none⟩ := by injection hv
  subst hA
  have hlt : g < w.heap.size := (Array.getElem?_eq_some_iff.1 hh).1
  refine ⟨g, 0, rfl, hlt, ?_⟩
  rw [← add_at]
  exact h.cells (g := g) rfl i _ (by simp [scells, hx])
end

/-- Each slice's bytes lie in a row of their own, from block lo on. -/
def OwnAll (w : World) (lo : Nat) (L : List SlV) : Prop := ∀ x ∈ L, Own8 w lo x.v x.data
theorem OwnAll.nil (w : World) (lo : Nat) : OwnAll w lo [] := fun x h => by simp at h
theorem OwnAll.snoc {w : World} {lo : Nat} {L : List SlV} {x : SlV} (h : OwnAll w lo L) (hx : Own8 w lo x.v x.data) : OwnAll w lo (L ++ [x]) := by
  intro y hy
  rcases List.mem_append.1 hy with hy | hy
  · exact h y hy
  · simp at hy; subst hy; exact hx
theorem OwnAll.below {V V' : World} {lo : Nat} {L : List SlV} (h : OwnAll V lo L) (hb : Below V.heap.size V V') : OwnAll V' lo L :=
  fun x hx => (h x hx).kept (grownBy_of_below hb) (by cases hx' : (Value.slice x.ad x.data.length x.cap).ownBlock <;> simp)
theorem own_lower {w : World} {base lo : Nat} {e : TypeId} {size n : Nat} {v : Value} {xs : List Value} (h : w.ownsRow base e size v n xs) (hl : lo ≤ base) : w.ownsRow lo e size v n xs := by
  refine ⟨h.1, ?_⟩
  rcases h.2 with h | ⟨g, cap, cur, h1, h2, h3⟩
  · exact .inl h
  · exact .inr ⟨g, cap, cur, h1, Nat.le_trans hl h2, h3⟩
theorem own_apart {w : World} {b1 b2 : Nat} {e1 e2 : TypeId} {s1 s2 n1 n2 : Nat} {v1 v2 : Value} {x1 x2 : List Value} (h1 : w.ownsRow b1 e1 s1 v1 n1 x1) (h2 : w.ownsRow b2 e2 s2 v2 n2 x2) (hne : e1 ≠ e2) : v1.ownBlock = none ∨ v1.ownBlock ≠ v2.ownBlock := by
  rcases h1.2 with ⟨rfl, _⟩ | ⟨g1, _, _, rfl, _, hh1, _⟩
  · exact .inl rfl
  · rcases h2.2 with ⟨rfl, _⟩ | ⟨g2, _, _, rfl, _, hh2, _⟩
    · exact .inr (by simp [Value.ownBlock])
    · refine .inr fun e => hne ?_
      simp [Value.ownBlock] at e
      subst e
      rw [hh1] at hh2
      injection hh2 with hh2
      injection hh2
/-- A row of another type grows. -/
theorem OwnAll.grown {V V' : World} {lo b n s : Nat} {L : List SlV} {e : TypeId} {v : Value} {xs : List Value} (h : OwnAll V lo L) (ho : V.ownsRow b e s v n xs) (he : e ≠ 5) (hg : V.grownBy V' v.ownBlock) : OwnAll V' lo L :=
  fun x hx => (h x hx).kept hg (own_apart (h x hx) ho (Ne.symm he))
theorem OwnAll.ls {w : World} {lo base : Nat} {A : Option Addr} {c : Nat} {e : TypeId} {L : List SlV} (h : OwnAll w lo L) (ho : w.ownsRow base e 1 (.slice A L.length c) L.length (scells L)) : Ls w w.heap.size A L := by
  refine Ls.of_own ho (fun x hx => By.of_own (h x hx)) fun x hx => ?_
  obtain ⟨A', c', e', hc⟩ := own_form (h x hx)
  injection e' with _ _ e3
  omega

/-- The value v reads as the slices L, made since w0, as all their bytes. -/
structure RowS (w0 w : World) (v : Value) (L : List SlV) : Prop where
  own : w.ownsRow w0.heap.size 49 1 v L.length (scells L)
  all : OwnAll w w0.heap.size L
  low : Below w0.heap.size w0 w
section
variable {w0 w w' : World} {v : Value} {L : List SlV}
theorem RowS.later (h : RowS w0 w v L) (hb : Below w.heap.size w w') : RowS w0 w' v L :=
  ⟨h.own.kept (grownBy_of_below hb) (by cases v.ownBlock <;> simp), h.all.below hb, h.low.trans (hb.mono h.low.size)⟩
theorem RowS.form (h : RowS w0 w v L) : ∃ A c, v = .slice A L.length c ∧ L.length ≤ c ∧ Ls w w.heap.size A L := by
  obtain ⟨A, c, rfl, hc⟩ := own_form h.own
  exact ⟨A, c, rfl, hc, h.all.ls h.own⟩
theorem RowS.drewN (h : RowS w0 w v L) (n : Nat) : RowS w0 (w.drewN n) v L := ⟨h.own, h.all, ⟨h.low.os, h.low.tape, h.low.output, h.low.size, h.low.block⟩⟩
theorem RowS.none_ (w : World) : RowS w w (.slice none 0 0) [] := ⟨⟨rfl, .inl ⟨rfl, rfl⟩⟩, OwnAll.nil _ _, Below.refl _ _⟩
theorem OwnAll.lower {lo lo' : Nat} (h : OwnAll w lo L) (hl : lo' ≤ lo) : OwnAll w lo' L := fun x hx => own_lower (h x hx) hl
theorem RowS.early {w00 : World} (h : RowS w0 w v L) (hb : Below w00.heap.size w00 w0) : RowS w00 w v L :=
  ⟨own_lower h.own hb.size, h.all.lower hb.size, hb.trans (h.low.mono hb.size)⟩
end

theorem Tryz.infoS : (Tryz.prog.info? 49).map (fun i => (i.zero, i.size, i.bytes)) = some (some (.slice none 0 0), 1, 24) := by kernel_rfl

/-- Slices cut off behind. -/
theorem run_headS (A : Option Addr) (n c : Nat) (hi : Int) (h1 : 0 ≤ hi) (h2 : hi ≤ c) (W : World) :
    (Instr.slice 56 (.slice A n c) none (some (.int .i64 hi)) none).run Tryz.prog W = .ok (.slice A hi.toNat c) W := by
  obtain ⟨i, hi', hz0, hz1, hz2⟩ := info_parts Tryz.infoS
  have c1 : 0 ≤ hi ∧ hi ≤ (c : Int) := ⟨h1, h2⟩
  cases A with
  | none => simp [Instr.slice, run_underlying Tryz.underlying56, Instr.sliceBounds, Instr.sliceBound, asIntOf, if_pos c1, sizeOf, typeInfo, hi']
  | some a => simp [Instr.slice, run_underlying Tryz.underlying56, Instr.sliceBounds, Instr.sliceBound, asIntOf, if_pos c1, sizeOf, typeInfo, hi', Addr.add]
end Go.Proofs.YtalmjmhbpmhokaaGreat
end

/- frame.fits, frame.Put, lessorref09.Put, slices.Clone at bytes. -/
section
namespace Go.Proofs.YtalmjmhbpmhokaaGreat
open Go.RowKit

/-- What Put answers. -/
def putR (l : List UInt8) : List UInt8 × Int := if 1 ≤ l.length ∧ l.length ≤ 1000 then (fr l, 0) else ([], 1)
theorem putR_ok {l : List UInt8} (h : GoodF l) : putR l = (fr l, 0) := if_pos h
theorem putR_no {l : List UInt8} (h : ¬ GoodF l) : putR l = ([], 1) := if_neg h

set_option maxRecDepth 100000 in
set_option maxHeartbeats 1000000 in
theorem fits_any (n : Nat) (w : World) : Calls Tryz.prog 119 #[.int .i64 (n : Int)] w fun e w' => e = .returned (.bool (decide (1 ≤ n ∧ n ≤ 1000))) ∧ w = w' := by
  by_cases h1 : (1 : Int) ≤ n
  · have d1 : decide ((1 : Int) ≤ n) = true := by simpa using h1
    by_cases h2 : (n : Int) ≤ 1000
    · have d2 : decide ((n : Int) ≤ 1000) = true := by simpa using h2
      have e : decide (1 ≤ n ∧ n ≤ 1000) = true := by rw [decide_eq_true_eq]; omega
      rw [e]
      clear h1 h2 e
      go_enter Tryz.func119, Tryz.ntmps119
      go_wp2
      go_ret
      exact ⟨rfl, rfl⟩
    · have d2 : decide ((n : Int) ≤ 1000) = false := by simpa using h2
      have e : decide (1 ≤ n ∧ n ≤ 1000) = false := by rw [decide_eq_false_iff_not]; omega
      rw [e]
      clear h1 h2 e
      go_enter Tryz.func119, Tryz.ntmps119
      go_wp2
      go_ret
      exact ⟨rfl, rfl⟩
  · have d1 : decide ((1 : Int) ≤ n) = false := by simpa using h1
    have e : decide (1 ≤ n ∧ n ≤ 1000) = false := by rw [decide_eq_false_iff_not]; omega
    rw [e]
    clear h1 e
    go_enter Tryz.func119, Tryz.ntmps119
    go_wp2
    go_ret
    exact ⟨rfl, rfl⟩

set_option maxRecDepth 100000 in
set_option maxHeartbeats 1000000 in
theorem clone_any (A : Option Addr) (c : Nat) (l : List UInt8) (w : World) (h : By w w.heap.size A l) (hl : l.length ≤ 140737488355328) :
    Calls Tryz.prog 102 #[.slice A l.length c] w fun e w' => ∃ A' c', e = .returned (.slice A' l.length c') ∧ Own8 w' w.heap.size (.slice A' l.length c') l ∧ Below w.heap.size w w' := by
  cases A with
  | none =>
    obtain rfl := h.none_
    have hq : ∀ W, (binOp .eql 49 (.slice none 0 c) (.slice none 0 0)).run Tryz.prog W = .ok (.bool true) W := fun W => Lib.run_eql_slice_nil W 49 5 none 0 c 0 0 Tryz.underlying49
    rw [List.length_nil]
    go_enter Tryz.func102, Tryz.ntmps102
    go_wp2
    go_ret
    exact ⟨none, 0, rfl, ⟨rfl, .inl ⟨rfl, rfl⟩⟩, Below.refl _ _⟩
  | some ad =>
    have hq : ∀ W, (binOp .eql 49 (.slice (some ad) l.length c) (.slice none 0 0)).run Tryz.prog W = .ok (.bool false) W := fun W => Lib.run_eql_slice_nil W 49 5 (some ad) l.length c 0 0 Tryz.underlying49
    have hownW : (w.alloc (.cells #[] 5)).ownsRow w.heap.size 5 1 (.slice (some ⟨w.heap.size, 0, none⟩) 0 0) 0 (bcells []) := World.ownsRow_made w #[] 0 (Nat.le_refl _) (Nat.zero_le _) rfl
    have hBW : Below w.heap.size w (w.alloc (.cells #[] 5)) := (Below.refl _ _).alloc (Nat.le_refl _) _
    have hby := h.below hBW
    go_enter Tryz.func102, Tryz.ntmps102
    go_wp2_with (at_builtin; refine wpList_appB rfl (.tmp 5) (.tmp 6) rfl w.heap.size _ _ _ rfl hownW _ _ l _ rfl hby (by omega) hBW.size ?_; intro v1 w1 hown1 hg1 _)
    go_ret
    rw [Nat.zero_add] at hown1
    obtain ⟨A', c', rfl, _⟩ := own_form hown1
    exact ⟨A', c', rfl, hown1, own_below hBW hBW.size hownW hg1⟩

/-- Bytes of their own, made since, and an error's number are answered. -/
def GivesR (w : World) (l : List UInt8) (k : Int) (e : Ending) (w' : World) : Prop :=
  ∃ A c, e = .returned (.tuple #[.slice A l.length c, .int .i64 k]) ∧ Row w w' (.slice A l.length c) l
theorem GivesR.b {w : World} {l : List UInt8} {k : Int} {e : Ending} {w' : World} (h : GivesR w l k e w') : GivesB w l k e w' := by
  obtain ⟨A, c, rfl, hr⟩ := h
  obtain ⟨A', c', e', hc, hby⟩ := hr.form
  injection e' with e1 _ e3
  subst e1 e3
  exact ⟨A, c, rfl, hby, hc, hr.low⟩
theorem row_none (w : World) : Row w w (.slice none 0 0) [] := ⟨⟨rfl, .inl ⟨rfl, rfl⟩⟩, Below.refl _ _⟩

theorem row_made (w : World) (s : Nat) (hs : s ≤ 1048576) : Row w (w.alloc (.cells (madeCells #[.int .u8 0] s) 5)) (.slice (some ⟨w.heap.size, 0, none⟩) 0 s) [] :=
  ⟨made_own w w.heap.size s (Nat.le_refl _) hs, (Below.refl _ _).alloc (Nat.le_refl _) _⟩
theorem hi_byte (n : Nat) (h : n ≤ 1000) : IntKind.u8.wrap ((n : Int) / 256) = ((n / 256 : Nat) : Int) := by
  rw [show (n : Int) / 256 = ((n / 256 : Nat) : Int) by omega]
  simp [IntKind.wrap, IntKind.bits, IntKind.signed]; omega
theorem lo_byte (n : Nat) : IntKind.u8.wrap (n : Int) = ((n % 256 : Nat) : Int) := by
  simp [IntKind.wrap, IntKind.bits, IntKind.signed]

theorem head_bytes (w : World) (n : Nat) (h : n ≤ 1000) : By (w.alloc (.cells #[.int .u8 ((n : Int) / 256), .int .u8 ((n : Int) % 256)] 5)) (w.heap.size + 1) (some ⟨w.heap.size, 0, none⟩) [UInt8.ofNat (n / 256), UInt8.ofNat (n % 256)] := by
  have hby := two_bytes w 5 ((n / 256 : Nat) : Int) (n % 256) (by omega) (by omega) (by omega)
  rw [Int.toNat_natCast] at hby
  simpa only [Int.natCast_emod, Int.natCast_ediv, Int.cast_ofNat_Int] using hby

set_option maxRecDepth 100000 in
set_option maxHeartbeats 1000000 in
theorem put_own (A : Option Addr) (c : Nat) (l : List UInt8) (w : World) (h : By w w.heap.size A l) :
    Calls Tryz.prog 93 #[.slice A l.length c] w (GivesR w (putR l).1 (putR l).2) := by
  have HF := Lib.hid (fun W => fits_any l.length W)
  by_cases hg : GoodF l
  · rw [putR_ok hg]
    rw [show decide (1 ≤ l.length ∧ l.length ≤ 1000) = true from decide_eq_true hg] at HF
    have hgl : l.length ≤ 1000 := hg.2
    clear hg
    have hmk := run_makeB (l.length + 3) (by omega)
    rw [show ((l.length + 3 : Nat) : Int) = 2 + (l.length : Int) + 1 by omega] at hmk
    have HR0 := Lib.hid (row_made w (l.length + 3) (by omega))
    have hw1 := hi_byte l.length hgl
    have hw2 := lo_byte l.length
    go_enter Tryz.func93, Tryz.ntmps93
    go_wp2_with (first
      | (go_at_call 119; refine (HF.out _).mono ?_; rintro e w' ⟨rfl, rfl⟩)
      | (at_builtin; refine wpList_row rfl (.tmp 14) (.tmp 22) rfl rfl (HR0.out.alloc _) [UInt8.ofNat (l.length / 256), UInt8.ofNat (l.length % 256)] rfl rfl (by simpa using head_bytes (w.alloc (.cells (madeCells #[.int .u8 0] (l.length + 3)) 5)) l.length hgl) (by simp) ?_; intro v1 w1 hr1 hg1; have hr1 := Lib.hid hr1; clear hg1)
      | (at_builtin; refine wpList_row rfl (.tmp 24) (.tmp 25) rfl rfl hr1.out l rfl rfl (h.below hr1.out.low) (by simp; omega) ?_; intro v2 w2 hr2 hg2; have hr2 := Lib.hid hr2; clear hg2)
      | (at_builtin; refine wpList_row rfl (.tmp 27) (.tmp 28) rfl rfl (hr2.out.alloc _) [90] rfl rfl (one_byte w2 5 90 (by omega)) (by simp; omega) ?_; intro v3 w3 hr3 hg3; have hr3 := Lib.hid hr3; clear hg3))
    obtain ⟨A', c', rfl, hc, hby⟩ := hr3.out.form
    go_ret2
    have e : [] ++ [UInt8.ofNat (l.length / 256), UInt8.ofNat (l.length % 256)] ++ l ++ [90] = fr l := by simp [fr]
    have hr := hr3.out
    rw [e] at hr ⊢
    exact ⟨A', c', rfl, hr⟩
  · rw [putR_no hg]
    rw [show decide (1 ≤ l.length ∧ l.length ≤ 1000) = false from decide_eq_false hg] at HF
    clear hg
    go_enter Tryz.func93, Tryz.ntmps93
    go_wp2_with (go_at_call 119; refine (HF.out _).mono ?_; rintro e w' ⟨rfl, rfl⟩)
    go_ret2
    exact ⟨none, 0, rfl, row_none w⟩

theorem put_any (A : Option Addr) (c : Nat) (l : List UInt8) (w : World) (h : By w w.heap.size A l) :
    Calls Tryz.prog 93 #[.slice A l.length c] w (GivesB w (putR l).1 (putR l).2) := (put_own A c l w h).mono fun _ _ h => h.b

theorem row_lit (w : World) (l : List UInt8) (hl : l.length ≤ 1048576) : Row w (w.alloc (.cells (bcells l).toArray 5)) (.slice (some ⟨w.heap.size, 0, none⟩) l.length l.length) l := by
  have h := World.ownsRow_lit (base := w.heap.size) (e := 5) (size := 1) w (bcells l).toArray l.length (Nat.le_refl _) (by unfold maxLen; omega) (by simp [bcells_length])
  exact ⟨h, (Below.refl _ _).alloc (Nat.le_refl _) _⟩
theorem head_cells (n : Nat) (h : n ≤ 1000) : (bcells [UInt8.ofNat (n / 256), UInt8.ofNat (n % 256)]).toArray = #[.int .u8 ((n : Int) / 256), .int .u8 ((n : Int) % 256)] := by
  have e1 : (UInt8.ofNat (n / 256)).toNat = n / 256 := by rw [UInt8.toNat_ofNat', Nat.mod_eq_of_lt (by omega)]
  have e2 : (UInt8.ofNat (n % 256)).toNat = n % 256 := by rw [UInt8.toNat_ofNat', Nat.mod_eq_of_lt (by omega)]
  simp only [bcells, List.map_cons, List.map_nil, bV, e1, e2, Int.natCast_emod, Int.natCast_ediv, Int.cast_ofNat_Int]

set_option maxRecDepth 100000 in
set_option maxHeartbeats 1000000 in
theorem rput_own (A : Option Addr) (c : Nat) (l : List UInt8) (w : World) (h : By w w.heap.size A l) :
    Calls Tryz.prog 111 #[.slice A l.length c] w (GivesR w (putR l).1 (putR l).2) := by
  by_cases hg : GoodF l
  · rw [putR_ok hg]
    have hgl : l.length ≤ 1000 := hg.2
    have d1 : decide ((l.length : Int) < 1) = false := by have := hg.1; simp; omega
    have d2 : decide ((1000 : Int) < (l.length : Int)) = false := by simp; omega
    clear hg
    have hw1 := hi_byte l.length hgl
    have hw2 : IntKind.u8.wrap ((l.length : Int) % 256) = (l.length : Int) % 256 := by simp [IntKind.wrap, IntKind.bits, IntKind.signed]
    have HR0 : Hid (Row w (w.alloc (.cells #[.int .u8 ((l.length : Int) / 256), .int .u8 ((l.length : Int) % 256)] 5)) (.slice (some ⟨w.heap.size, 0, none⟩) 2 2) [UInt8.ofNat (l.length / 256), UInt8.ofNat (l.length % 256)]) := by
      have h0 := row_lit w [UInt8.ofNat (l.length / 256), UInt8.ofNat (l.length % 256)] (by simp)
      rw [head_cells l.length hgl] at h0
      exact h0
    go_enter Tryz.func111, Tryz.ntmps111
    go_wp2_with (first
      | (at_builtin; refine wpList_row rfl (.tmp 22) (.tmp 23) rfl rfl HR0.out l rfl rfl (h.below HR0.out.low) (by simp; omega) ?_; intro v2 w2 hr2 hg2; have hr2 := Lib.hid hr2; clear hg2)
      | (at_builtin; refine wpList_row rfl (.tmp 25) (.tmp 26) rfl rfl (hr2.out.alloc _) [90] rfl rfl (one_byte w2 5 90 (by omega)) (by simp; omega) ?_; intro v3 w3 hr3 hg3; have hr3 := Lib.hid hr3; clear hg3))
    obtain ⟨A', c', rfl, hc, hby⟩ := hr3.out.form
    go_ret2
    have e : [UInt8.ofNat (l.length / 256), UInt8.ofNat (l.length % 256)] ++ l ++ [90] = fr l := by simp [fr]
    have hr := hr3.out
    rw [e] at hr ⊢
    exact ⟨A', c', rfl, hr⟩
  · rw [putR_no hg]
    by_cases h0 : (l.length : Int) < 1
    · have d1 : decide ((l.length : Int) < 1) = true := by simpa using h0
      clear hg h0
      go_enter Tryz.func111, Tryz.ntmps111
      go_wp2
      go_ret2
      exact ⟨none, 0, rfl, row_none w⟩
    · have d1 : decide ((l.length : Int) < 1) = false := by simpa using h0
      have d2 : decide ((1000 : Int) < (l.length : Int)) = true := by
        have h1 : ¬ (1 ≤ l.length ∧ l.length ≤ 1000) := hg
        simp; omega
      clear hg h0
      go_enter Tryz.func111, Tryz.ntmps111
      go_wp2
      go_ret2
      exact ⟨none, 0, rfl, row_none w⟩
theorem rput_any (A : Option Addr) (c : Nat) (l : List UInt8) (w : World) (h : By w w.heap.size A l) :
    Calls Tryz.prog 111 #[.slice A l.length c] w (GivesB w (putR l).1 (putR l).2) := (rput_own A c l w h).mono fun _ _ h => h.b
end Go.Proofs.YtalmjmhbpmhokaaGreat
end

/- frame.first: the record of the frame at the beginning of bytes. -/
section
namespace Go.Proofs.YtalmjmhbpmhokaaGreat
open Go.RowKit

set_option maxRecDepth 100000 in
set_option maxHeartbeats 2000000 in
theorem first_any (B : Nat) (A : Option Addr) (c : Nat) (l : List UInt8) (w : World) (hb : By w B A l) (hc : l.length ≤ c) (hl : l.length ≤ 1048576) :
    Calls Tryz.prog 127 #[.slice A l.length c] w fun e w' => (∃ n, w' = w.drewN n) ∧
      ((firstF l = none ∧ e = .returned (.tuple #[.slice none 0 0, .bool false])) ∨ ∃ r A' c', firstF l = some r ∧ e = .returned (.tuple #[.slice A' r.length c', .bool true]) ∧ By w B A' r ∧ r.length ≤ c') := by
  match l, hb, hc, hl with
  | [], hb, hc, hl =>
    go_enter Tryz.func127, Tryz.ntmps127
    go_wp2
    go_ret2
    exact ⟨⟨0, rfl⟩, .inl ⟨rfl, rfl⟩⟩
  | [x], hb, hc, hl =>
    go_enter Tryz.func127, Tryz.ntmps127
    go_wp2
    go_ret2
    exact ⟨⟨0, rfl⟩, .inl ⟨rfl, rfl⟩⟩
  | x :: y :: t, hb, hc, hl =>
    obtain ⟨g, o, rfl, hg, h0⟩ := hb.at_ 0 x rfl
    obtain ⟨g', o', hA, _, h1⟩ := hb.at_ 1 y rfl
    obtain ⟨rfl, rfl⟩ : g = g' ∧ o = o' := by injection hA with hA; injection hA with e1 e2; exact ⟨e1, e2⟩
    clear hA
    rw [Nat.add_zero] at h0
    have hf : firstF (x :: y :: t) = if 1 ≤ two x y ∧ two x y ≤ 1000 ∧ t[two x y]? = some 90 then some (t.take (two x y)) else none := rfl
    have hx := x.toNat_lt
    have hy := y.toNat_lt
    have hd : decide ((((x :: y :: t).length : Nat) : Int) < 2) = false := by simp; omega
    have hlen : (x :: y :: t).length = t.length + 2 := rfl
    have HT := Lib.hid (cut_by (n := t.length + 2) hb)
    have HB := Lib.hid hb
    clear hb
    rw [hlen] at hd hc hl ⊢
    obtain ⟨k, hk⟩ : ∃ k, k = two x y := ⟨_, rfl⟩
    rw [← hk] at hf
    have e2 : (2 : Int) + (x.toNat : Int) * 256 + (y.toNat : Int) = (k : Int) + 2 := by unfold two at hk; omega
    have hk2 : k ≤ 65535 := by unfold two at hk; omega
    clear hk
    have HFT := Lib.hid (fun W => fits_any k W)
    have HF := Lib.hid hf
    clear hf
    have ek : (k : Int) + 2 - 2 = k := by omega
    by_cases hfit : 1 ≤ k ∧ k ≤ 1000
    · rw [decide_eq_true hfit] at HFT
      have HK := Lib.hid hfit
      clear hfit
      cases hz : t[k]? with
      | none =>
        have hle : decide (t.length ≤ k) = true := by
          have := List.getElem?_eq_none_iff.1 hz
          simp; omega
        have HZ : Hid (firstF (x :: y :: t) = none) := by show _ = _; rw [HF.out, if_neg]; rintro ⟨_, _, h3⟩; rw [hz] at h3; cases h3
        clear hz
        go_enter Tryz.func127, Tryz.ntmps127
        go_wp2
        go_quiet (fail)
        go_wp2_with (go_at_call 119; refine (HFT.out _).mono ?_; rintro e w' ⟨rfl, rfl⟩)
        go_ret2
        exact ⟨⟨nq, rfl⟩, .inl ⟨HZ.out, rfl⟩⟩
      | some z =>
        have hlt := (List.getElem?_eq_some_iff.1 hz).1
        have hle : decide (t.length ≤ k) = false := by simp; omega
        have hcz : (x :: y :: t)[k + 2]? = some z := hz
        obtain ⟨g2, o2, hA, _, h2⟩ := HB.out.at_ (k + 2) z hcz
        obtain ⟨rfl, rfl⟩ : g = g2 ∧ o = o2 := by injection hA with hA; injection hA with e1 e2; exact ⟨e1, e2⟩
        clear hA hcz
        have i0 : (0 : Int) ≤ (k : Int) + 2 := by omega
        have i1 : (k : Int) + 2 < (t.length : Int) + 2 := by omega
        by_cases h90 : z = 90
        · subst h90
          have HZ : Hid (firstF (x :: y :: t) = some (t.take k)) := by show _ = _; rw [HF.out, if_pos ⟨HK.out.1, HK.out.2, hz⟩]
          have htk : (t.take k).length = k := by rw [List.length_take]; omega
          obtain ⟨A', hsl, hby⟩ := HT.out c 2 (k + 2) 2 ((k : Int) + 2) rfl (by omega) (by omega) (by rw [hlen]; omega) (by rw [hlen]; omega)
          rw [show k + 2 - 2 = k by omega] at hsl hby
          have HBY : Hid (By w B A' (t.take k)) := hby
          have HTK := Lib.hid htk
          have hcell : w.cell? ⟨g, o + (k + 2), none⟩ = some (.int .u8 90) := h2
          have HC : Hid (k ≤ c - 2) := by show _ ≤ _; omega
          clear hz hby htk h2
          go_enter Tryz.func127, Tryz.ntmps127
          go_wp2
          go_quiet (fail)
          go_wp2_with (go_at_call 119; refine (HFT.out _).mono ?_; rintro e w' ⟨rfl, rfl⟩)
          go_ret2
          exact ⟨⟨nq, rfl⟩, .inr ⟨t.take k, A', c - 2, HZ.out, by rw [HTK.out]; rfl, HBY.out, by rw [HTK.out]; exact HC.out⟩⟩
        · have HZ : Hid (firstF (x :: y :: t) = none) := by show _ = _; rw [HF.out, if_neg]; rintro ⟨_, _, h3⟩; rw [hz] at h3; exact h90 (Option.some.inj h3)
          have hzn : ((z.toNat : Int) != 90) = true := by
            have : z.toNat ≠ 90 := fun e => h90 (UInt8.toNat_inj.1 (by simpa using e))
            simp; omega
          clear hz h90
          go_enter Tryz.func127, Tryz.ntmps127
          go_wp2
          go_quiet (fail)
          go_wp2_with (go_at_call 119; refine (HFT.out _).mono ?_; rintro e w' ⟨rfl, rfl⟩)
          go_ret2
          exact ⟨⟨nq, rfl⟩, .inl ⟨HZ.out, rfl⟩⟩
    · rw [decide_eq_false hfit] at HFT
      have HZ : Hid (firstF (x :: y :: t) = none) := by show _ = _; rw [HF.out, if_neg]; rintro ⟨h1, h2, _⟩; exact hfit ⟨h1, h2⟩
      clear hfit
      go_enter Tryz.func127, Tryz.ntmps127
      go_wp2
      go_quiet (fail)
      go_wp2_with (go_at_call 119; refine (HFT.out _).mono ?_; rintro e w' ⟨rfl, rfl⟩)
      go_ret2
      exact ⟨⟨nq, rfl⟩, .inl ⟨HZ.out, rfl⟩⟩
end Go.Proofs.YtalmjmhbpmhokaaGreat
end

/- A range over a function whose elements hold memory: the iterator tells, behind its run, what that memory holds (the library's laws let it tell of the list of elements alone). -/
section
namespace Go.Proofs.YtalmjmhbpmhokaaGreat
open Go.RowKit Go.Shelf
attribute [local go_sem] Oper.semAt_some

section
variable {F : Fence} {n : Nat} {P : Program}

/-- What an iterator promises: S of all that came and of the world behind it, Sp of what came where the body stopped. -/
def SeqEnds {α : Type} (F : Fence) (n : Nat) (P : Program) (gf : Nat) (lb : Array Value) (encs : α → Array Value) (Kp : World → World → Prop) (S Sp : List α → World → Prop) (N : Nat) (w : World) : Prop :=
  ∀ (l : Nat) (J Jx : List α → World → Prop) (W : World), Below w.heap.size w W → AbidesFrom W.heap.size J → AbidesFrom W.heap.size Jx →
    (∀ pre x V, J pre V → pre.length < N → YieldAt F (n - 1) P l (encs x) V fun e V' => (e = .returned (.bool true) ∧ J (pre ++ [x]) V' ∧ Kp V V') ∨ (e = .returned (.bool false) ∧ Jx (pre ++ [x]) V')) →
    J [] W →
    CallsIn F n P gf (#[.func (.yield l) #[] #[]] ++ lb) W fun e V => (∃ v, e = .returned v) ∧ ((∃ xs, S xs V ∧ J xs V) ∨ (∃ pre, Sp pre V ∧ Jx pre V))

/-- Kept where the statement's own book is written: a block, from B on, that holds no cells. -/
def Booked (B : Nat) (T : World → Prop) : Prop := ∀ (V : World) (l : Nat) (o o' : Obj), T V → B ≤ l → V.heap[l]? = some o → o.isCells = false → T (V.putObj l o')

theorem range_ends {α : Type} {g : Operand} {ps : Array Tmp} {assign body : Code} {Q : Exit → Act → World → Prop} {a : Act} {w : World}
    (hro : F.round = none) (h1 : 1 ≤ n) {gf : Nat} {lb : Array Value} (hg : a.eval g = .func (.func gf) #[] lb) (hFg : F.fn gf) (eg : ∀ args w, (callFunc gf args).run P w = .ok (.enter gf args) w)
    {encs : α → Array Value} {Kp : World → World → Prop} {S Sp : List α → World → Prop} {N : Nat} {w0 : World} (hseq : SeqEnds F (n - 1) P gf lb encs Kp S Sp N w0)
    (hKt : ∀ {A B C : World}, Kp A B → Kp B C → Kp A C) (hKb : ∀ V, Booked w.heap.size (Kp V)) (hSb : ∀ xs, Booked w.heap.size (S xs)) (hSpb : ∀ xs, Booked w.heap.size (Sp xs)) (hb0 : Below w0.heap.size w0 w) (hps : ∀ x, (encs x).size = ps.size)
    (I : List α → World → Prop) (Ix : Code → List α → World → Prop) (hI : OwnFrom w.heap.size I) (hIx : ∀ c, OwnFrom w.heap.size (Ix c)) (h0 : I [] w) (a₁ : α → World → Act)
    (wA : α → World → World) (hwA : ∀ (x : α) (V : World), V.grownBy (wA x V) none) (hKA : ∀ (x : α) (V : World), w.heap.size ≤ V.heap.size → Kp V (wA x V)) (Got : α → World → World → Prop) (hGot : ∀ x V, Got x V (wA x V)) (hGb : ∀ x V, Booked w.heap.size (Got x V))
    (hassign : ∀ (l : Nat) (x : α) (V : World) (K : Act → World → Prop), K (a₁ x V) (wA x V) →
      assign.wpIn (F.inRound l) (n - 1 - 1) P (Exit.then K (fun _ _ _ => False)) { tmps := (ps.zip (encs x)).foldl (fun t (p, v) => t.setIfInBounds p v) a.tmps, defers := [] } V)
    (hbody : ∀ (l : Nat) (pre : List α) (x : α) (V U : World), I pre V → I pre U → Got x V U → w.heap.size ≤ V.heap.size → V.heap.size ≤ U.heap.size → pre.length < N → body.wpIn (F.inRound l) (n - 1 - 1) P (ownPostG w.heap.size Kp I Ix (pre ++ [x]) U) (a₁ x V) U)
    (hdone : ∀ (D : Nat) (xs : List α) (V : World), w.heap.size ≤ D → S xs V → I xs V → V.heap[D]? = some (.deferred (some [])) → Q .normal { a with defers := { target := .collected D, args := #[] } :: a.defers } V)
    (hstop : ∀ (D : Nat) (c : Code) (pre : List α) (V : World), w.heap.size ≤ D → Sp pre V → Ix c pre V → V.heap[D]? = some (.deferred (some [])) → c.wpIn F n P Q { a with defers := { target := .collected D, args := #[] } :: a.defers } V) :
    (Code.rangeFunc g ps assign body).wpIn F n P Q a w := by
  refine wpIn_rangeFunc fun fn hfn => ?_
  rw [hro]
  -- the loop's record, in its states
  let book : LoopState → Option Code → Obj := fun st pe => .loop { state := st, pending := pe, fn, tmps := a.tmps, params := ps, assign, body, defers := w.heap.size }
  obtain ⟨W1, hW1⟩ : ∃ W1, W1 = (w.alloc (.deferred (some []))).alloc (book .ready none) := ⟨_, rfl⟩
  have hz1 : W1.heap.size = w.heap.size + 1 + 1 := by rw [hW1]; simp
  have hL : W1.heap[w.heap.size + 1]? = some (book .ready none) := by
    have h := World.alloc_heap_new (w.alloc (.deferred (some []))) (book .ready none)
    rw [World.size_alloc] at h
    rw [hW1]; exact h
  have hD : W1.heap[w.heap.size]? = some (.deferred (some [])) := by
    rw [hW1]; exact (Below.heap_alloc _ _ _ (by simp)).trans (World.alloc_heap_new w _)
  have hbW : Below w0.heap.size w0 W1 := by
    rw [hW1]; exact hb0.trans ((((Below.refl _ w).alloc (Nat.le_refl _) _).alloc (by simp) _).mono hb0.size)
  have walk_book : ∀ {A B : World} {row : Option Nat}, (∀ r, row = some r → W1.heap.size ≤ r ∧ ∃ o : Obj, A.heap[r]? = some o ∧ o.isWalk = true) → ∀ r, row = some r → w.heap.size ≤ r ∧ ∃ o : Obj, A.heap[r]? = some o ∧ o.isCells = false :=
    fun hr r e => by
      obtain ⟨hB, o, ho, hw⟩ := hr r e
      exact ⟨by omega, o, ho, Obj.not_cells_of_walk hw⟩
  refine ⟨w.heap.size + 1, [{ target := .collected w.heap.size, args := #[] }], W1, { target := .fn (.func gf) lb, args := #[.func (.yield (w.heap.size + 1)) #[] #[]] }, W1, gf,
    #[.func (.yield (w.heap.size + 1)) #[] #[]] ++ lb, W1, by rw [hW1]; exact run_enterLoop_outer _ _ _ _ _, by simp only [resolve, hg]; simp [go_sem], fun f' hf' => by simp [Target.leads] at hf'; subst hf'; exact hFg, by simp [invoke, go_sem, eg], fun _ => h1, ?_⟩
  refine (hseq (w.heap.size + 1)
    (fun pre V => I pre V ∧ V.heap[w.heap.size + 1]? = some (book .ready none) ∧ V.heap[w.heap.size]? = some (.deferred (some [])))
    (fun pre V => ∃ c, Ix c pre V ∧ V.heap[w.heap.size + 1]? = some (book .done (some c)) ∧ V.heap[w.heap.size]? = some (.deferred (some [])))
    W1 hbW
    (fun s A B row hs hgr hr => ⟨hI s A B row hs.1 hgr (walk_book (B := B) hr), (grownBy_keeps hgr (fun r e => (hr r e).2) hs.2.1 rfl).trans hs.2.1, (grownBy_keeps hgr (fun r e => (hr r e).2) hs.2.2 rfl).trans hs.2.2⟩)
    (fun s A B row ⟨c, hc, hl, hk⟩ hgr hr => ⟨c, hIx c s A B row hc hgr (walk_book (B := B) hr), (grownBy_keeps hgr (fun r e => (hr r e).2) hl rfl).trans hl, (grownBy_keeps hgr (fun r e => (hr r e).2) hk rfl).trans hk⟩)
    ?round ⟨by rw [hW1]; exact hI.alloc _ (hI.alloc _ h0), hL, hD⟩).mono ?behind
  case round =>
    rintro pre x V ⟨hi, hl, hk⟩ hlen
    have hlt0 : w.heap.size + 1 < V.heap.size := (Array.getElem?_eq_some_iff.1 hl).1
    have hA := hwA x V
    have hKVA := hKA x V (by omega)
    have hGA := hGot x V
    have hiA : I pre (wA x V) := hI _ _ _ none hi hA (fun r e => by cases e)
    have hlA : (wA x V).heap[w.heap.size + 1]? = some (book .ready none) := (hA.block _ hlt0 (by simp)).trans hl
    have hkA : (wA x V).heap[w.heap.size]? = some (.deferred (some [])) := (hA.block _ (by omega) (by simp)).trans hk
    refine ⟨fn, _, assign, body, run_yield hl (hps x), roundIn_of_wpIn hfn (hassign _ x V _ ⟨_, run_beginRound hlA rfl, ?_⟩)⟩
    have hsA := hA.size
    generalize hVA : wA x V = VA at *
    clear hVA hA hl hk
    have hlt : w.heap.size + 1 < VA.heap.size := (Array.getElem?_eq_some_iff.1 hlA).1
    obtain ⟨V2, hV2⟩ : ∃ V2, V2 = VA.putObj (w.heap.size + 1) (book .busy none) := ⟨_, rfl⟩
    have hl2 : V2.heap[w.heap.size + 1]? = some (book .busy none) := by rw [hV2]; exact World.putObj_heap_same hlt
    have hk2 : V2.heap[w.heap.size]? = some (.deferred (some [])) := by rw [hV2]; exact (World.putObj_heap_other (by omega)).trans hkA
    have hi2 : I pre V2 := by rw [hV2]; exact hI.putObj _ hiA (by omega) hlA rfl
    have hw2 : Kp V V2 := by rw [hV2]; exact hKb V VA _ _ _ hKVA (by omega) hlA rfl
    have hg2 : Got x V V2 := by rw [hV2]; exact hGb x V VA _ _ _ hGA (by omega) hlA rfl
    have hs2 : V.heap.size ≤ V2.heap.size := by rw [hV2, World.putObj_size]; exact hsA
    have ends : ∀ (jump : Option Code) (V3 : World), KeepsFrom w.heap.size V2 V3 → V3.heap[w.heap.size + 1]? = some (book .busy none) ∧
        (Instr.endRound (w.heap.size + 1) jump).run P V3 = .ok (.bool jump.isNone) (V3.putObj (w.heap.size + 1) (book (if jump.isNone then .ready else .done) jump)) ∧
        (V3.putObj (w.heap.size + 1) (book (if jump.isNone then .ready else .done) jump)).heap[w.heap.size + 1]? = some (book (if jump.isNone then .ready else .done) jump) ∧
        (V3.putObj (w.heap.size + 1) (book (if jump.isNone then .ready else .done) jump)).heap[w.heap.size]? = some (.deferred (some [])) := fun jump V3 hk3 => by
      have hl3 := hk3.same _ _ (by omega) hl2 rfl
      exact ⟨hl3, run_endRound (P := P) jump hl3, World.putObj_heap_same (Array.getElem?_eq_some_iff.1 hl3).1, (World.putObj_heap_other (by omega)).trans (hk3.same _ _ (Nat.le_refl _) hk2 rfl)⟩
    have hbod := hbody (w.heap.size + 1) pre x V V2 hi hi2 hg2 (by omega) hs2 hlen
    rw [hV2] at hbod
    refine wpIn_mono hbod ?_
    rw [← hV2]
    have left : ∀ (c : Code) (V3 : World), KeepsFrom w.heap.size V2 V3 → Ix c (pre ++ [x]) V3 → ∃ v V4, (Instr.endRound (w.heap.size + 1) (some c)).run P V3 = .ok v V4 ∧ ((.returned v = Ending.returned (.bool true) ∧ (I (pre ++ [x]) V4 ∧ V4.heap[w.heap.size + 1]? = some (book .ready none) ∧ V4.heap[w.heap.size]? = some (.deferred (some []))) ∧ Kp V V4) ∨
        (.returned v = Ending.returned (.bool false) ∧ ∃ c, Ix c (pre ++ [x]) V4 ∧ V4.heap[w.heap.size + 1]? = some (book .done (some c)) ∧ V4.heap[w.heap.size]? = some (.deferred (some [])))) := fun c V3 hk3 hi3 => by
      obtain ⟨hl3, hr, hl4, hk4⟩ := ends (some c) V3 hk3
      exact ⟨_, _, hr, .inr ⟨rfl, c, (hIx _).putObj _ hi3 (by omega) hl3 rfl, hl4, hk4⟩⟩
    rintro e a3 V3 hp
    cases e with
    | normal =>
      obtain ⟨hk3, hkp3, hi3⟩ := hp
      obtain ⟨hl3, hr, hl4, hk4⟩ := ends none V3 hk3
      exact ⟨_, _, hr, .inl ⟨rfl, ⟨hI.putObj _ hi3 (by omega) hl3 rfl, hl4, hk4⟩, hKb V V3 _ _ _ (hKt hw2 hkp3) (by omega) hl3 rfl⟩⟩
    | ret => exact left _ V3 hp.1 hp.2
    | exit id => exact left _ V3 hp.1 hp.2
    | goto t => exact left _ V3 hp.1 hp.2
    | panic ch => exact hp.elim
    | outgrown => exact hp.elim
  case behind =>
    rintro e V ⟨⟨v, rfl⟩, (⟨xs, hS, hi, hl, hk⟩ | ⟨pre, hSp, c, hi, hl, hk⟩)⟩
    · exact ⟨none, _, run_endLoop (P := P) hl (by simp), hdone _ xs _ (Nat.le_refl _) (hSb xs V _ _ _ hS (by omega) hl rfl) (hI.putObj _ hi (by omega) hl rfl) ((World.putObj_heap_other (by omega)).trans hk)⟩
    · exact ⟨some c, _, run_endLoop (P := P) hl (by simp), hstop _ c pre _ (Nat.le_refl _) (hSpb pre V _ _ _ hSp (by omega) hl rfl) ((hIx c).putObj _ hi (by omega) hl rfl) ((World.putObj_heap_other (by omega)).trans hk)⟩
end
end Go.Proofs.YtalmjmhbpmhokaaGreat
end

/- frame.frames: the frames of bytes, one by one. -/
section
namespace Go.Proofs.YtalmjmhbpmhokaaGreat
open Go.RowKit Go.Shelf
attribute [local go_sem] Oper.semAt_some

theorem grown_of_below {V V' : World} (hb : Below V.heap.size V V') : V.grownBy V' none := ⟨hb.os, hb.tape, hb.output, hb.size, fun i hi _ => hb.block i hi⟩
theorem wide_of {m : Nat} {P : Program} {f : FuncId} {args : Array Value} {w : World} {R : Ending → World → Prop} (h : Calls P f args w R) : CallsIn Fence.wide m P f args w R := callsIn_wide.2 h

theorem frames_any (A : Option Addr) (len cap : Nat) (w : World) :
    Calls Tryz.prog 101 #[.slice A len cap] w fun e w' => e = .returned (.func (.func 126) #[] #[.pointer (some ⟨w.heap.size, 0, none⟩)]) ∧ w' = w.alloc (.cells #[.slice A len cap] 49) := by
  go_enter Tryz.func101, Tryz.ntmps101
  go_wp2
  go_ret
  exact ⟨rfl, rfl⟩

/-- What a round keeps: every block below M but those from lo to hi. -/
def Kq (M lo hi : Nat) (V V' : World) : Prop := V.heap.size ≤ V'.heap.size ∧ ∀ k, k < M → ¬ (lo ≤ k ∧ k < hi) → V'.heap[k]? = V.heap[k]?
section
variable {M lo hi : Nat}
theorem Kq.refl (V : World) : Kq M lo hi V V := ⟨Nat.le_refl _, fun _ _ _ => rfl⟩
theorem kq_t {A B C : World} (h : Kq M lo hi A B) (k : Kq M lo hi B C) : Kq M lo hi A C := ⟨Nat.le_trans h.1 k.1, fun i h1 h2 => (k.2 i h1 h2).trans (h.2 i h1 h2)⟩
theorem kq_b {B : Nat} (hM : M ≤ B) (V : World) : Booked B (Kq M lo hi V) := fun V' l o o' h hl _ _ => ⟨by rw [World.putObj_size]; exact h.1, fun k h1 h2 => (World.putObj_heap_other (by omega)).trans (h.2 k h1 h2)⟩
theorem Kq.grown {V V' V2 : World} (h : Kq M lo hi V V') {row : Option Nat} (hg : V'.grownBy V2 row) (hM : M ≤ V'.heap.size) (hr : ∀ g, row = some g → M ≤ g ∨ (lo ≤ g ∧ g < hi)) : Kq M lo hi V V2 :=
  ⟨Nat.le_trans h.1 hg.size, fun k h1 h2 => (hg.block k (by omega) (fun e => by rcases hr k e.symm with h' | h' <;> omega)).trans (h.2 k h1 h2)⟩
theorem Kq.boxed {V V' : World} (h : Kq M lo hi V V') {k : Nat} {t : TypeId} {v : Value} (hb : Boxed V k t v) (h1 : k < M) (h2 : ¬ (lo ≤ k ∧ k < hi)) : Boxed V' k t v := (h.2 k h1 h2).trans hb
theorem Kq.by_ {n : Nat} {V V' : World} (h : Kq M lo hi V V') {A : Option Addr} {l : List UInt8} (ho : By V n A l) (hn : n ≤ lo) (hM : n ≤ M) : By V' n A l :=
  ho.keep fun p hp => World.cell?_of_block (h.2 p.block (by omega) (by omega))
theorem Kq.back {n : Nat} {V V' : World} (h : Kq M lo hi V V') {A : Option Addr} {l : List UInt8} (ho : By V' n A l) (hn : n ≤ lo) (hM : n ≤ M) : By V n A l :=
  ho.keep fun p hp => World.cell?_of_block (h.2 p.block (by omega) (by omega)).symm
end

/-- A record that lies in bytes which were there from the start, and where its frame ends. -/
abbrev Rec (w0 : World) := { x : Nat × SlV // By w0 w0.heap.size x.2.ad x.2.data ∧ x.2.data.length ≤ x.2.cap ∧ x.2.data.length ≤ 1048576 }
def encR {w0 : World} (x : Rec w0) : Array Value := #[.int .i64 (x.1.1 : Int), x.1.2.v]
def recs {w0 : World} (l : List (Rec w0)) : List (List UInt8) := l.map fun x => x.1.2.data
def lastE {w0 : World} (l : List (Rec w0)) : Nat := match l.getLast? with
  | some x => x.1.1
  | none => 0
theorem recs_snoc {w0 : World} (l : List (Rec w0)) (x : Rec w0) : recs (l ++ [x]) = recs l ++ [x.1.2.data] := by simp [recs]
theorem recs_length {w0 : World} (l : List (Rec w0)) : (recs l).length = l.length := by simp [recs]
theorem lastE_snoc {w0 : World} (l : List (Rec w0)) (x : Rec w0) : lastE (l ++ [x]) = x.1.1 := by simp [lastE]
theorem len_tot (l : List (List UInt8)) : l.length ≤ tot l := by
  induction l with
  | nil => exact Nat.zero_le _
  | cons r l ih => rw [tot_cons, List.length_cons]; omega

/-- All frames came. -/
def AllR (b : List UInt8) {w0 : World} (xs : List (Rec w0)) : Prop := recs xs = scanL b ∧ lastE xs = tot (scanL b)

set_option maxRecDepth 100000 in
set_option maxHeartbeats 2000000 in
theorem frames1_in (n : Nat) (hn : 1 ≤ n) (lp Bs M lo hi : Nat) (w0 : World) (A : Option Addr) (c : Nat) (b : List UInt8) (hb : b.length ≤ 1048576) (hcap : b.length ≤ c) (J Jx : List (Rec w0) → World → Prop)
    (W : World) (hM : M ≤ W.heap.size) (hBs : Bs < M ∧ hi ≤ Bs) (hlo : w0.heap.size ≤ lo) (h0M : w0.heap.size ≤ M) (hW0 : Below w0.heap.size w0 W) (hJa : AbidesFrom W.heap.size J)
    (hY : ∀ pre x V, J pre V → pre.length < b.length + 1 → YieldAt Fence.wide (n - 1) Tryz.prog lp (encR x) V fun e V' => (e = .returned (.bool true) ∧ J (pre ++ [x]) V' ∧ Kq M lo hi V V') ∨ (e = .returned (.bool false) ∧ Jx (pre ++ [x]) V'))
    (b1 : Boxed W Bs 49 (.slice A b.length c)) (hR : By w0 w0.heap.size A b) (h0 : J [] W) :
    CallsIn Fence.wide n Tryz.prog 126 #[.func (.yield lp) #[] #[], .pointer (some ⟨Bs, 0, none⟩)] W fun e V => (∃ v, e = .returned v) ∧ ((∃ xs, AllR b xs ∧ J xs V) ∨ (∃ pre, True ∧ Jx pre V)) := by
  refine callsIn_of_wp Tryz.func126 rfl trivial ?_ rfl
  simp only [Tryz.ntmps126, List.size_toArray, List.length_cons, List.length_nil, Nat.reduceAdd, Nat.reduceSub, Array.replicate_succ, Array.replicate_zero, List.push_toArray, List.append_toArray, List.nil_append, List.cons_append]
  gi_wp2
  gi_loopw [3] (fun iv V => ∃ (k : Nat) (pre : List (Rec w0)), k ≤ b.length ∧ iv = .int .i64 k ∧ k = tot (recs pre) ∧ lastE pre = k ∧ scanL b = recs pre ++ scanL (b.drop k) ∧ J pre V ∧ Kq M lo hi W V) (fun iv _ => b.length - (intOf iv).toNat)
  case atStart => exact ⟨0, [], Nat.zero_le _, rfl, rfl, rfl, rfl, h0, Kq.refl _⟩
  case round =>
    obtain ⟨k, pre, hk, rfl, hkt, hke, hsc, hJ, hK⟩ := hrel
    have hpl : pre.length < b.length + 1 := by have h1 := len_tot (recs pre); rw [recs_length] at h1; omega
    have HKT := Lib.hid hkt
    have HKE := Lib.hid hke
    have HSC := Lib.hid hsc
    clear hkt hke hsc
    have e1 := (hK.boxed b1 hBs.1 (by omega)).cell
    have hsl := run_tailB A b.length c (k : Int) (by omega) (by omega)
    have hbyk : By wr w0.heap.size (if c = (k : Int).toNat then A else A.map (·.add (k : Int).toNat)) (b.drop k) := hK.by_ ((hR.below hW0).cut hk hcap) hlo h0M
    have hlk : (b.drop k).length = b.length - (k : Int).toNat := by rw [List.length_drop]; omega
    have HFI := first_any w0.heap.size _ (c - (k : Int).toNat) (b.drop k) wr hbyk (by rw [hlk]; omega) (by rw [hlk]; omega)
    rw [hlk] at HFI
    have HFI := Lib.hid HFI
    clear hbyk
    generalize (if c = (k : Int).toNat then A else A.map (·.add (k : Int).toNat)) = A1 at *
    generalize hz1 : b.length - (k : Int).toNat = z1 at *
    generalize hz2 : c - (k : Int).toNat = z2 at *
    gi_wp2_with fail
    refine ⟨trivial, (wide_of HFI.out).mono ?_⟩
    rintro e w' ⟨⟨m, rfl⟩, (⟨hnone, rfl⟩ | ⟨r, A', c', hsome, rfl, hby, hrc⟩)⟩
    · have HN := Lib.hid (scan_none hnone)
      clear hnone
      have hb0 : Below wr.heap.size wr (wr.drewN m) := ⟨rfl, rfl, rfl, Nat.le_refl _, fun _ _ => rfl⟩
      have hJ2 : J pre (wr.drewN m) := hJa _ _ _ none hJ (grown_of_below hb0) (fun r e => by cases e)
      gi_wp2
      refine bodyPost_ret (results_none rfl _ _ _) rfl ?_
      refine ⟨⟨_, rfl⟩, .inl ⟨pre, ⟨?_, ?_⟩, hJ2⟩⟩
      · rw [HSC.out, HN.out, List.append_nil]
      · rw [HSC.out, HN.out, List.append_nil, HKE.out, HKT.out]
    · have hlr := first_len hsome
      rw [List.length_drop] at hlr
      have HN := Lib.hid (scan_some hsome)
      clear hsome
      have hb0 : Below wr.heap.size wr (wr.drewN m) := ⟨rfl, rfl, rfl, Nat.le_refl _, fun _ _ => rfl⟩
      have hJ2 : J pre (wr.drewN m) := hJa _ _ _ none hJ (grown_of_below hb0) (fun r e => by cases e)
      have hK2 : Kq M lo hi W (wr.drewN m) := hK.grown (grown_of_below hb0) (by have := hK.1; omega) (fun g e => by cases e)
      have hbyW : By W w0.heap.size A' r := hK.back hby hlo h0M
      have hby0 : By w0 w0.heap.size A' r := hbyW.keep fun p hp => (hW0.cell hp).symm
      have hrl : r.length ≤ 1048576 := by omega
      obtain ⟨x, hx⟩ : ∃ x : Rec w0, x = ⟨(k + (r.length + 3), ⟨A', c', r⟩), hby0, hrc, hrl⟩ := ⟨_, rfl⟩
      obtain ⟨fn, tmps, assign, body, hy0, hRr⟩ := hY pre x _ hJ2 hpl
      have hy : (Instr.yield lp #[.int .i64 ((k : Int) + (2 + (r.length : Int) + 1)), .slice A' r.length c']).run Tryz.prog (wr.drewN m) = .ok (.round lp fn tmps assign body) (wr.drewN m) := by
        have e : encR x = #[.int .i64 ((k : Int) + (2 + (r.length : Int) + 1)), .slice A' r.length c'] := by
          rw [hx]
          simp only [encR]
          rw [show ((k + (r.length + 3) : Nat) : Int) = (k : Int) + (2 + (r.length : Int) + 1) by omega]
        rw [← e]
        exact hy0
      have HX : Hid (x.1.1 = k + (r.length + 3) ∧ x.1.2.data = r) := by rw [hx]; exact ⟨rfl, rfl⟩
      clear hy0 hx
      gi_wp2
      refine hRr.mono ?_
      clear hRr hy
      rintro e W3 (⟨rfl, hJ3, hk3⟩ | ⟨rfl, hJx3⟩)
      · gi_wp2
        go_roundw
        case rel =>
          refine ⟨k + (r.length + 3), pre ++ [x], by omega, by go_num, ?_, ?_, ?_, hJ3, kq_t hK2 hk3⟩
          · rw [recs_snoc, tot_snoc, ← HKT.out, HX.out.2]
          · rw [lastE_snoc, HX.out.1]
          · rw [HSC.out, HN.out, recs_snoc, HX.out.2, List.drop_drop, List.append_assoc]
            rfl
        case measure => simp [intOf]; omega
      · gi_wp2
        refine bodyPost_ret (results_none rfl _ _ _) rfl ?_
        exact ⟨⟨_, rfl⟩, .inr ⟨_, trivial, hJx3⟩⟩

theorem frames_ends (n : Nat) (hn : 1 ≤ n) (Bs lo hi : Nat) (w0 : World) (A : Option Addr) (c : Nat) (b : List UInt8) (hb : b.length ≤ 1048576) (hcap : b.length ≤ c) (w : World)
    (hBs : Bs < w.heap.size ∧ hi ≤ Bs) (hlo : w0.heap.size ≤ lo) (hw : Below w0.heap.size w0 w) (b1 : Boxed w Bs 49 (.slice A b.length c)) (hR : By w0 w0.heap.size A b) :
    SeqEnds Fence.wide n Tryz.prog 126 #[.pointer (some ⟨Bs, 0, none⟩)] (encR (w0 := w0)) (Kq w.heap.size lo hi) (fun xs _ => AllR b xs) (fun _ _ => True) (b.length + 1) w := fun lp J Jx W hW hJ _ hY h0 =>
  frames1_in n hn lp Bs w.heap.size lo hi w0 A c b hb hcap J Jx W hW.size hBs hlo hw.size (hw.trans (hW.mono hw.size)) hJ hY ((hW.block _ hBs.1).trans b1) hR h0
end Go.Proofs.YtalmjmhbpmhokaaGreat
end

/- lessorref09.Same. -/
section
namespace Go.Proofs.YtalmjmhbpmhokaaGreat
open Go.RowKit

theorem dat_ne {L M : List SlV} {k : Nat} {x y : SlV} (hx : (datas L)[k]? = some x.data) (hy : (datas M)[k]? = some y.data) (h : x.data ≠ y.data) : datas L ≠ datas M := by
  intro e
  rw [e, hy] at hx
  exact h (Option.some.inj hx).symm

end Go.Proofs.YtalmjmhbpmhokaaGreat
end
