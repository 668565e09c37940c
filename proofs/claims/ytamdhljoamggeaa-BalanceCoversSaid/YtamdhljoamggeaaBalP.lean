/- Masks and buckets, plain: lists of bytes, and what is in them. -/
import Derived.Test.YtamdhljoamggeaaChecked
import Derived.WalkKit
import Derived.Laws.BitsLemmas
namespace Go.Proofs.Ytamdhljoamggeaa

/-- The byte of eight bits. -/
def byteOf (g : Nat → Bool) : Nat := (if g 0 then 1 else 0) + (if g 1 then 2 else 0) + (if g 2 then 4 else 0) + (if g 3 then 8 else 0) + (if g 4 then 16 else 0) + (if g 5 then 32 else 0) + (if g 6 then 64 else 0) + (if g 7 then 128 else 0)
def maskL (f : Nat → Bool) : List Nat := (List.range 32).map fun i => byteOf fun j => f (8 * i + j)
def hasL (B : List Nat) (k : Nat) : Bool := B.getD (k / 8) 0 / 2 ^ (k % 8) % 2 == 1
def hasI (B : List Nat) (k : Int) : Bool := decide (0 ≤ k) && decide (k < 256) && hasL B k.toNat
def cntL (B : List Nat) (n : Nat) : Nat := ((List.range n).filter (hasL B)).length
structure IsM (B : List Nat) : Prop where
  len : B.length = 32
  lt : ∀ x ∈ B, x < 256

theorem byteOf_lt (g : Nat → Bool) : byteOf g < 256 := by
  unfold byteOf
  repeat' split
  all_goals omega
theorem byteOf_bit (g : Nat → Bool) (j : Nat) (hj : j < 8) : (byteOf g / 2 ^ j % 2 == 1) = g j := by
  have h : ∀ (b0 b1 b2 b3 b4 b5 b6 b7 : Bool), 
      let x := (if b0 then 1 else 0) + (if b1 then 2 else 0) + (if b2 then 4 else 0) + (if b3 then 8 else 0) + (if b4 then 16 else 0) + (if b5 then 32 else 0) + (if b6 then 64 else 0) + (if b7 then 128 else 0)
      (x / 2 ^ 0 % 2 == 1) = b0 ∧ (x / 2 ^ 1 % 2 == 1) = b1 ∧ (x / 2 ^ 2 % 2 == 1) = b2 ∧ (x / 2 ^ 3 % 2 == 1) = b3 ∧ (x / 2 ^ 4 % 2 == 1) = b4 ∧ (x / 2 ^ 5 % 2 == 1) = b5 ∧ (x / 2 ^ 6 % 2 == 1) = b6 ∧ (x / 2 ^ 7 % 2 == 1) = b7 := by decide +kernel
  obtain ⟨h0, h1, h2, h3, h4, h5, h6, h7⟩ := h (g 0) (g 1) (g 2) (g 3) (g 4) (g 5) (g 6) (g 7)
  match j, hj with
  | 0, _ => exact h0
  | 1, _ => exact h1
  | 2, _ => exact h2
  | 3, _ => exact h3
  | 4, _ => exact h4
  | 5, _ => exact h5
  | 6, _ => exact h6
  | 7, _ => exact h7
theorem byteOf_congr {f g : Nat → Bool} (h : ∀ j, j < 8 → f j = g j) : byteOf f = byteOf g := by
  unfold byteOf
  rw [h 0 (by omega), h 1 (by omega), h 2 (by omega), h 3 (by omega), h 4 (by omega), h 5 (by omega), h 6 (by omega), h 7 (by omega)]
theorem byteOf_or (g : Nat → Bool) (k : Nat) (hk : k < 8) : byteOf g ||| 2 ^ k = byteOf fun j => g j || j == k := by
  have h : ∀ (b0 b1 b2 b3 b4 b5 b6 b7 : Bool) (k : Fin 8), 
      ((if b0 then 1 else 0) + (if b1 then 2 else 0) + (if b2 then 4 else 0) + (if b3 then 8 else 0) + (if b4 then 16 else 0) + (if b5 then 32 else 0) + (if b6 then 64 else 0) + (if b7 then 128 else 0)) ||| 2 ^ k.val =
      (if b0 || 0 == k.val then 1 else 0) + (if b1 || 1 == k.val then 2 else 0) + (if b2 || 2 == k.val then 4 else 0) + (if b3 || 3 == k.val then 8 else 0) + (if b4 || 4 == k.val then 16 else 0) + (if b5 || 5 == k.val then 32 else 0) + (if b6 || 6 == k.val then 64 else 0) + (if b7 || 7 == k.val then 128 else 0) := by decide +kernel
  exact h (g 0) (g 1) (g 2) (g 3) (g 4) (g 5) (g 6) (g 7) ⟨k, hk⟩
theorem byteOf_add (g : Nat → Bool) (k : Nat) (hk : k < 8) (hg : g k = false) : byteOf g + 2 ^ k = byteOf fun j => g j || j == k := by
  have h : ∀ (b0 b1 b2 b3 b4 b5 b6 b7 : Bool) (k : Fin 8), (k = 0 → b0 = false) → (k = 1 → b1 = false) → (k = 2 → b2 = false) → (k = 3 → b3 = false) → (k = 4 → b4 = false) → (k = 5 → b5 = false) → (k = 6 → b6 = false) → (k = 7 → b7 = false) → 
      ((if b0 then 1 else 0) + (if b1 then 2 else 0) + (if b2 then 4 else 0) + (if b3 then 8 else 0) + (if b4 then 16 else 0) + (if b5 then 32 else 0) + (if b6 then 64 else 0) + (if b7 then 128 else 0)) + 2 ^ k.val =
      (if b0 || 0 == k.val then 1 else 0) + (if b1 || 1 == k.val then 2 else 0) + (if b2 || 2 == k.val then 4 else 0) + (if b3 || 3 == k.val then 8 else 0) + (if b4 || 4 == k.val then 16 else 0) + (if b5 || 5 == k.val then 32 else 0) + (if b6 || 6 == k.val then 64 else 0) + (if b7 || 7 == k.val then 128 else 0) := by decide +kernel
  refine h (g 0) (g 1) (g 2) (g 3) (g 4) (g 5) (g 6) (g 7) ⟨k, hk⟩ ?_ ?_ ?_ ?_ ?_ ?_ ?_ ?_
  all_goals
    intro e
    have e' := congrArg Fin.val e
    simp at e'
    subst e'
    exact hg
theorem byteOf_self (x : Nat) (hx : x < 256) : byteOf (fun j => x / 2 ^ j % 2 == 1) = x := by
  have h : ∀ x : Fin 256, byteOf (fun j => x.val / 2 ^ j % 2 == 1) = x.val := by decide +kernel
  exact h ⟨x, hx⟩

theorem maskL_len (f : Nat → Bool) : (maskL f).length = 32 := by simp [maskL]
theorem maskL_at (f : Nat → Bool) (i : Nat) (hi : i < 32) : (maskL f)[i]? = some (byteOf fun j => f (8 * i + j)) := by
  simp [maskL, hi]
theorem maskL_is (f : Nat → Bool) : IsM (maskL f) := ⟨maskL_len f, fun x hx => by
  simp only [maskL, List.mem_map] at hx
  obtain ⟨i, _, rfl⟩ := hx
  exact byteOf_lt _⟩
theorem mask_byte (f : Nat → Bool) (i : Nat) (hi : i < 32) : (maskL f).getD i 0 < 256 := by
  rw [List.getD_eq_getElem?_getD, maskL_at _ _ hi, Option.getD_some]
  exact byteOf_lt _
theorem has_mask (f : Nat → Bool) (k : Nat) (hk : k < 256) : hasL (maskL f) k = f k := by
  unfold hasL
  rw [List.getD_eq_getElem?_getD, maskL_at f _ (by omega), Option.getD_some, byteOf_bit _ _ (by omega)]
  congr 1
  omega
theorem maskL_congr {f g : Nat → Bool} (h : ∀ k, k < 256 → f k = g k) : maskL f = maskL g := by
  unfold maskL
  apply List.map_congr_left
  intro i hi
  have := List.mem_range.1 hi
  exact byteOf_congr fun j hj => h _ (by omega)
theorem mask_has {B : List Nat} (h : IsM B) : maskL (hasL B) = B := by
  apply List.ext_getElem?
  intro i
  by_cases hi : i < 32
  · rw [maskL_at _ i hi]
    have hlen : i < B.length := by rw [h.len]; exact hi
    have hb : B[i]? = some B[i] := List.getElem?_eq_getElem hlen
    rw [hb]
    congr 1
    refine (byteOf_congr fun j hj => ?_).trans (byteOf_self B[i] (h.lt _ (List.getElem_mem _)))
    unfold hasL
    rw [show (8 * i + j) / 8 = i by omega, show (8 * i + j) % 8 = j by omega, List.getD_eq_getElem?_getD, hb, Option.getD_some]
  · rw [List.getElem?_eq_none (by rw [maskL_len]; omega), List.getElem?_eq_none (by rw [h.len]; omega)]
theorem mask_set (f : Nat → Bool) (k y : Nat) (hk : k < 256) (hy : y = byteOf fun j => f (8 * (k / 8) + j) || j == k % 8) : (maskL f).set (k / 8) y = maskL fun j => f j || j == k := by
  apply List.ext_getElem?
  intro i
  rw [List.getElem?_set]
  by_cases hi : i < 32
  · rw [maskL_at _ i hi, maskL_at _ i hi, maskL_len]
    split
    · rename_i e
      subst e
      rw [if_pos (by omega), hy]
      congr 1
      refine byteOf_congr fun j hj => ?_
      congr 1
      rw [Bool.eq_iff_iff]
      simp
      omega
    · rename_i e
      congr 1
      refine byteOf_congr fun j hj => ?_
      rw [show (8 * i + j == k) = false by simp; omega, Bool.or_false]
  · rw [List.getElem?_eq_none (by rw [maskL_len]; omega), List.getElem?_eq_none (by rw [maskL_len]; omega)]
    split
    · omega
    · rfl
theorem mask_or (f : Nat → Bool) (k : Nat) (hk : k < 256) : (maskL f).set (k / 8) ((maskL f).getD (k / 8) 0 ||| 2 ^ (k % 8)) = maskL fun j => f j || j == k := by
  refine mask_set f k _ hk ?_
  rw [List.getD_eq_getElem?_getD, maskL_at f _ (by omega), Option.getD_some, byteOf_or _ _ (by omega)]
theorem mask_add (f : Nat → Bool) (k : Nat) (hk : k < 256) (hf : f k = false) : (maskL f).set (k / 8) ((maskL f).getD (k / 8) 0 + 2 ^ (k % 8)) = maskL fun j => f j || j == k := by
  refine mask_set f k _ hk ?_
  rw [List.getD_eq_getElem?_getD, maskL_at f _ (by omega), Option.getD_some, byteOf_add _ _ (by omega)]
  rw [show 8 * (k / 8) + k % 8 = k by omega]
  exact hf
theorem mask_none : maskL (fun _ => false) = List.replicate 32 0 := by decide

theorem cnt_succ (B : List Nat) (n : Nat) : cntL B (n + 1) = cntL B n + if hasL B n then 1 else 0 := by
  unfold cntL
  rw [List.range_succ, List.filter_append, List.length_append]
  cases h : hasL B n <;> simp [h]
theorem cnt_le (B : List Nat) (n : Nat) : cntL B n ≤ n := by
  unfold cntL
  have := List.length_filter_le (hasL B) (List.range n)
  simpa using this

/-- What a byte makes of a number. -/
def elN (n : Nat) : Nat := (167 * n + 13) % 256
def bkF (l : List UInt8) (n : Nat) : Nat := l.foldr (fun c n => elN (n ^^^ c.toNat)) n
def bkN (l : List UInt8) : Nat := bkF l (l.length % 256)
theorem elN_lt (n : Nat) : elN n < 256 := Nat.mod_lt _ (by decide)
theorem elN_inj {a b : Nat} (ha : a < 256) (hb : b < 256) (h : elN a = elN b) : a = b := by unfold elN at h; omega
theorem xor_lt {a : Nat} (c : UInt8) (ha : a < 256) : a ^^^ c.toNat < 256 := Nat.xor_lt_two_pow (n := 8) ha c.toNat_lt
theorem bkF_lt (l : List UInt8) {n : Nat} (hn : n < 256) : bkF l n < 256 := by
  cases l with
  | nil => exact hn
  | cons c l => exact elN_lt _
theorem bkN_lt (l : List UInt8) : bkN l < 256 := bkF_lt l (Nat.mod_lt _ (by decide))
theorem xor_cancel {a b c : Nat} (h : a ^^^ c = b ^^^ c) : a = b := by
  have := congrArg (· ^^^ c) h
  simpa [Nat.xor_assoc] using this
theorem xor_cancel' {a b c : Nat} (h : c ^^^ a = c ^^^ b) : a = b := by
  rw [Nat.xor_comm c a, Nat.xor_comm c b] at h
  exact xor_cancel h
theorem bkF_inj (l : List UInt8) : ∀ {m n : Nat}, m < 256 → n < 256 → bkF l m = bkF l n → m = n := by
  induction l with
  | nil => intro m n _ _ h; exact h
  | cons c l ih =>
    intro m n hm hn h
    have h' : elN (bkF l m ^^^ c.toNat) = elN (bkF l n ^^^ c.toNat) := h
    exact ih hm hn (xor_cancel (elN_inj (xor_lt c (bkF_lt l hm)) (xor_lt c (bkF_lt l hn)) h'))
theorem bkF_append (l r : List UInt8) (n : Nat) : bkF (l ++ r) n = bkF l (bkF r n) := by unfold bkF; rw [List.foldr_append]
theorem bk_apart (l : List UInt8) (k : Nat) (b : UInt8) (hk : k < l.length) : bkN l = bkN (l.set k b) ↔ l = l.set k b := by
  constructor
  · intro h
    have e1 : l = l.take k ++ l[k] :: l.drop (k + 1) := by simp
    have e2 : l.set k b = l.take k ++ b :: l.drop (k + 1) := by rw [List.set_eq_take_append_cons_drop, if_pos hk]
    unfold bkN at h
    rw [List.length_set] at h
    have hm : l.length % 256 < 256 := Nat.mod_lt _ (by decide)
    generalize l.length % 256 = m at *
    rw [e2] at h
    rw [show bkF l m = bkF (l.take k ++ l[k] :: l.drop (k + 1)) m by rw [← e1], bkF_append, bkF_append] at h
    have hd := bkF_lt (l.drop (k + 1)) hm
    have h2 := bkF_inj (l.take k) (elN_lt _) (elN_lt _) (show bkF _ (elN (bkF (l.drop (k + 1)) m ^^^ l[k].toNat)) = bkF _ (elN (bkF (l.drop (k + 1)) m ^^^ b.toNat)) from h)
    have h3 := xor_cancel' (elN_inj (xor_lt _ hd) (xor_lt _ hd) h2)
    rw [e2, ← UInt8.toNat_inj.1 h3]
    exact e1
  · intro h
    rw [← h]
theorem bkF_step (l : List UInt8) (i : Nat) (hi : i < l.length) (m : Nat) : bkF (l.drop (l.length - (i + 1))) m = elN (bkF (l.drop (l.length - i)) m ^^^ (l[l.length - (i + 1)]'(by omega)).toNat) := by
  rw [List.drop_eq_getElem_cons (show l.length - (i + 1) < l.length by omega), show l.length - (i + 1) + 1 = l.length - i by omega]
  rfl
end Go.Proofs.Ytamdhljoamggeaa
