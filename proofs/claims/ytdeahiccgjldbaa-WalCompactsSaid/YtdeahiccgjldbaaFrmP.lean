/- Frames, pure: the bytes of a record; the records that bytes begin with; bytes that are cut off; what was told, put anew. -/
import Derived.WalkKit
namespace Go.Proofs.Ytdeahiccgjldbaa

/-- The frame of a record. -/
def fr (r : List UInt8) : List UInt8 := [UInt8.ofNat (r.length / 256), UInt8.ofNat (r.length % 256)] ++ (r ++ [90])
def GoodF (r : List UInt8) : Prop := 1 ≤ r.length ∧ r.length ≤ 1000
theorem fr_length (r : List UInt8) : (fr r).length = r.length + 3 := by simp [fr]

/-- The number in two bytes. -/
def two (h l : UInt8) : Nat := h.toNat * 256 + l.toNat
theorem two_of (n : Nat) (h : n ≤ 1000) : two (UInt8.ofNat (n / 256)) (UInt8.ofNat (n % 256)) = n := by
  unfold two
  rw [UInt8.toNat_ofNat', UInt8.toNat_ofNat']
  omega
theorem of_two (h l : UInt8) : UInt8.ofNat (two h l / 256) = h ∧ UInt8.ofNat (two h l % 256) = l := by
  have h1 := h.toNat_lt
  have h2 := l.toNat_lt
  unfold two
  constructor
  · apply UInt8.toNat_inj.1
    rw [UInt8.toNat_ofNat']
    omega
  · apply UInt8.toNat_inj.1
    rw [UInt8.toNat_ofNat']
    omega

/-- The record of the frame at the beginning, if it is whole. -/
def firstF : List UInt8 → Option (List UInt8)
  | h :: l :: t => if 1 ≤ two h l ∧ two h l ≤ 1000 ∧ t[two h l]? = some 90 then some (t.take (two h l)) else none
  | _ => none

theorem first_fr (r t : List UInt8) (h : GoodF r) : firstF (fr r ++ t) = some r := by
  have e : fr r ++ t = UInt8.ofNat (r.length / 256) :: UInt8.ofNat (r.length % 256) :: (r ++ ([90] ++ t)) := by simp [fr]
  rw [e, firstF, two_of _ h.2, if_pos]
  · rw [List.take_left' rfl]
  · exact ⟨h.1, h.2, by rw [List.getElem?_append_right (Nat.le_refl _)]; simp⟩

theorem first_spec {b r : List UInt8} (h : firstF b = some r) : GoodF r ∧ b = fr r ++ b.drop (r.length + 3) := by
  match b with
  | [] => simp [firstF] at h
  | [_] => simp [firstF] at h
  | x :: y :: t =>
    rw [firstF] at h
    split at h
    · rename_i hc
      obtain ⟨h1, h2, h3⟩ := hc
      obtain rfl := Option.some.inj h
      have hlt := (List.getElem?_eq_some_iff.1 h3).1
      have hlen : (t.take (two x y)).length = two x y := by rw [List.length_take]; omega
      refine ⟨⟨by omega, by omega⟩, ?_⟩
      rw [fr, hlen, (of_two x y).1, (of_two x y).2]
      simp only [List.cons_append, List.nil_append, List.append_assoc, show two x y + 3 = two x y + 1 + 1 + 1 by omega, List.drop_succ_cons]
      congr 2
      have h4 : t.drop (two x y) = 90 :: t.drop (two x y + 1) := by
        rw [List.drop_eq_getElem_cons hlt]
        congr 1
        rw [List.getElem?_eq_getElem hlt] at h3
        exact Option.some.inj h3
      rw [← h4, List.take_append_drop]
    · cases h

/-- The records of the frames that bytes begin with. -/
def scanF : Nat → List UInt8 → List (List UInt8)
  | 0, _ => []
  | k + 1, b => match firstF b with
    | some r => r :: scanF k (b.drop (r.length + 3))
    | none => []
def scanL (b : List UInt8) : List (List UInt8) := scanF b.length b
/-- The length of all frames. -/
def tot (l : List (List UInt8)) : Nat := (l.map fun r => r.length + 3).sum
theorem tot_nil : tot [] = 0 := rfl
theorem tot_cons (r : List UInt8) (l : List (List UInt8)) : tot (r :: l) = r.length + 3 + tot l := by simp [tot]
theorem tot_append (l m : List (List UInt8)) : tot (l ++ m) = tot l + tot m := by simp [tot]
theorem tot_snoc (l : List (List UInt8)) (r : List UInt8) : tot (l ++ [r]) = tot l + (r.length + 3) := by rw [tot_append, tot_cons, tot_nil]

theorem first_len {b r : List UInt8} (h : firstF b = some r) : r.length + 3 ≤ b.length := by
  have := (first_spec h).2
  rw [this, List.length_append, fr_length]
  omega
theorem scanF_more (k : Nat) : ∀ (m : Nat) (b : List UInt8), b.length ≤ k → b.length ≤ m → scanF k b = scanF m b := by
  induction k with
  | zero =>
    intro m b hb _
    obtain rfl := List.eq_nil_of_length_eq_zero (Nat.le_zero.1 hb)
    cases m <;> rfl
  | succ k ih =>
    intro m b hb hm
    cases m with
    | zero =>
      obtain rfl := List.eq_nil_of_length_eq_zero (Nat.le_zero.1 hm)
      rfl
    | succ m =>
      rw [scanF, scanF]
      cases hf : firstF b with
      | none => rfl
      | some r =>
        have hl := first_len hf
        show r :: _ = r :: _
        rw [ih m _ (by rw [List.length_drop]; omega) (by rw [List.length_drop]; omega)]
theorem scan_none {b : List UInt8} (h : firstF b = none) : scanL b = [] := by
  unfold scanL
  cases hb : b.length with
  | zero => rfl
  | succ k => rw [scanF, h]
theorem scan_some {b r : List UInt8} (h : firstF b = some r) : scanL b = r :: scanL (b.drop (r.length + 3)) := by
  have hl := first_len h
  unfold scanL
  cases hb : b.length with
  | zero => omega
  | succ k =>
    rw [scanF, h]
    show r :: _ = r :: _
    rw [scanF_more k (b.drop (r.length + 3)).length _ (by rw [List.length_drop]; omega) (Nat.le_refl _)]

/-- All frames of some records. -/
def frs (l : List (List UInt8)) : List UInt8 := l.flatMap fr
theorem frs_nil : frs [] = [] := rfl
theorem frs_cons (r : List UInt8) (l : List (List UInt8)) : frs (r :: l) = fr r ++ frs l := rfl
theorem frs_append (l m : List (List UInt8)) : frs (l ++ m) = frs l ++ frs m := by simp [frs]
theorem frs_snoc (l : List (List UInt8)) (r : List UInt8) : frs (l ++ [r]) = frs l ++ fr r := by rw [frs_append, frs_cons, frs_nil, List.append_nil]
theorem frs_length (l : List (List UInt8)) : (frs l).length = tot l := by
  induction l with
  | nil => rfl
  | cons r l ih => rw [frs_cons, List.length_append, fr_length, ih, tot_cons]

theorem scan_frs (l : List (List UInt8)) (t : List UInt8) (h : ∀ r ∈ l, GoodF r) : scanL (frs l ++ t) = l ++ scanL t := by
  induction l with
  | nil => rfl
  | cons r l ih =>
    rw [frs_cons, List.append_assoc, scan_some (first_fr r _ (h r (by simp)))]
    have e : (fr r ++ (frs l ++ t)).drop (r.length + 3) = frs l ++ t := List.drop_left' (fr_length r)
    rw [e, ih fun x hx => h x (by simp [hx])]
    rfl

/-- A frame that is cut off is none. -/
theorem first_cut (r : List UInt8) (k : Nat) (h : GoodF r) (hk : k < r.length + 3) : firstF ((fr r).take k) = none := by
  have e : fr r = UInt8.ofNat (r.length / 256) :: UInt8.ofNat (r.length % 256) :: (r ++ [90]) := by simp [fr]
  rw [e]
  match k with
  | 0 => rfl
  | 1 => rfl
  | k + 2 =>
    rw [List.take_succ_cons, List.take_succ_cons, firstF, two_of _ h.2, if_neg]
    rintro ⟨_, _, h3⟩
    have := (List.getElem?_eq_some_iff.1 h3).1
    rw [List.length_take] at this
    omega

/-- Of frames that are cut off just those are told that are whole. -/
theorem scan_cut (l : List (List UInt8)) (h : ∀ r ∈ l, GoodF r) (whole cut : Nat) (h1 : tot (l.take whole) ≤ cut) (h2 : ∀ r, l[whole]? = some r → cut < tot (l.take whole) + (r.length + 3)) : scanL ((frs l).take cut) = l.take whole := by
  have e : frs l = frs (l.take whole) ++ frs (l.drop whole) := by rw [← frs_append, List.take_append_drop]
  have hlen := frs_length (l.take whole)
  rw [e, List.take_append, List.take_of_length_le (by omega), hlen, scan_frs _ _ fun r hr => h r (List.mem_of_mem_take hr)]
  have hz : scanL ((frs (l.drop whole)).take (cut - tot (l.take whole))) = [] := by
    apply scan_none
    cases hd : l.drop whole with
    | nil => rw [frs_nil, List.take_nil]; rfl
    | cons r m =>
      have hr : l[whole]? = some r := by
        have := List.getElem?_drop (xs := l) (i := whole) (j := 0)
        rw [hd] at this
        simpa using this.symm
      have hm := List.mem_of_getElem? hr
      have hk := h2 r hr
      rw [frs_cons, List.take_append_of_le_length (by rw [fr_length]; omega)]
      exact first_cut r _ (h r hm) (by omega)
  rw [hz, List.append_nil]

/-- What is told, put anew, is what was said; behind it no frame follows. -/
theorem scan_back (b : List UInt8) : (∀ r ∈ scanL b, GoodF r) ∧ b = frs (scanL b) ++ b.drop (tot (scanL b)) ∧ scanL (b.drop (tot (scanL b))) = [] := by
  generalize hn : b.length = n
  induction n using Nat.strongRecOn generalizing b with
  | ind n ih =>
    cases hf : firstF b with
    | none =>
      rw [scan_none hf]
      refine ⟨fun r hr => by simp at hr, ?_, ?_⟩
      · rw [frs_nil, tot_nil, List.drop_zero, List.nil_append]
      · rw [tot_nil, List.drop_zero]; exact scan_none hf
    | some r =>
      have hl := first_len hf
      obtain ⟨hg, hs⟩ := first_spec hf
      obtain ⟨i1, i2, i3⟩ := ih (b.drop (r.length + 3)).length (by rw [List.length_drop]; omega) (b.drop (r.length + 3)) rfl
      rw [scan_some hf]
      rw [List.drop_drop] at i2 i3
      refine ⟨fun x hx => ?_, ?_, ?_⟩
      · rcases List.mem_cons.1 hx with rfl | hx
        · exact hg
        · exact i1 x hx
      · rw [frs_cons, tot_cons, List.append_assoc, ← i2]
        exact hs
      · rw [tot_cons]; exact i3

/-- One more frame at a place. -/
theorem first_at (b : List UInt8) (k : Nat) (h l : UInt8) (h0 : b[k]? = some h) (h1 : b[k + 1]? = some l) :
    firstF (b.drop k) = if 1 ≤ two h l ∧ two h l ≤ 1000 ∧ b[k + 2 + two h l]? = some 90 then some ((b.drop (k + 2)).take (two h l)) else none := by
  have e0 := (List.getElem?_eq_some_iff.1 h0)
  have e1 := (List.getElem?_eq_some_iff.1 h1)
  obtain ⟨l0, v0⟩ := e0
  obtain ⟨l1, v1⟩ := e1
  rw [List.drop_eq_getElem_cons l0, List.drop_eq_getElem_cons l1, v0, v1, firstF, List.getElem?_drop]
theorem first_short (b : List UInt8) (k : Nat) (h : b.length ≤ k + 2) : firstF (b.drop k) = none := by
  cases hf : firstF (b.drop k) with
  | none => rfl
  | some r =>
    have := first_len hf
    rw [List.length_drop] at this
    omega
end Go.Proofs.Ytdeahiccgjldbaa
