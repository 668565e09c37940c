/- Joined texts: BalP, BalM, BalN, BalR, BalB. -/
import Derived.Test.YtmaohnbddlccdaaGreatChecked
import Derived.WalkKit
import Derived.Laws.BitsLemmas
import Derived.Deep.MidRow
import Derived.Deep.WholeRow
import Derived.Lib.Hide
import Derived.BigQuiet
import Derived.Deep.QuietTactic
import Derived.Lib.QuietBelow
import Derived.Outline
import Derived.Laws.Bits64

/- Masks and buckets, plain: lists of bytes, and what is in them. -/
section
namespace Go.Proofs.YtmaohnbddlccdaaGreat.NB

/-- The byte of eight bits. -/
def byteOf (g : Nat → Bool) : Nat := (if g 0 then 1 else 0) + (if g 1 then 2 else 0) + (if g 2 then 4 else 0) + (if g 3 then 8 else 0) + (if g 4 then 16 else 0) + (if g 5 then 32 else 0) + (if g 6 then 64 else 0) + (if g 7 then 128 else 0)
def maskL (f : Nat → Bool) : List Nat := (List.range 32).map fun i => byteOf fun j => f (8 * i + j)
def hasL (B : List Nat) (k : Nat) : Bool := B.getD (k / 8) 0 / 2 ^ (k % 8) % 2 == 1
def hasI (B : List Nat) (k : Int) : Bool := decide (0 ≤ k) && decide (k < 256) && hasL B k.toNat
def cntL (B : List Nat) (n : Nat) : Nat := ((List.range n).filter (hasL B)).length
structure IsM (B : List Nat) : Prop where
  len : B.length = 32
  lt : ∀ x ∈ B, x < 256

theorem byteOf_lt (g : Nat → Bool) : byteOf g < 256 := by
  unfold byteOf
  repeat' split
  all_goals omega
theorem byteOf_bit (g : Nat → Bool) (j : Nat) (hj : j < 8) : (byteOf g / 2 ^ j % 2 == 1) = g j := by
  have h : ∀ (b0 b1 b2 b3 b4 b5 b6 b7 : Bool), 
      let x := (if b0 then 1 else 0) + (if b1 then 2 else 0) + (if b2 then 4 else 0) + (if b3 then 8 else 0) + (if b4 then 16 else 0) + (if b5 then 32 else 0) + (if b6 then 64 else 0) + (if b7 then 128 else 0)
      (x / 2 ^ 0 % 2 == 1) = b0 ∧ (x / 2 ^ 1 % 2 == 1) = b1 ∧ (x / 2 ^ 2 % 2 == 1) = b2 ∧ (x / 2 ^ 3 % 2 == 1) = b3 ∧ (x / 2 ^ 4 % 2 == 1) = b4 ∧ (x / 2 ^ 5 % 2 == 1) = b5 ∧ (x / 2 ^ 6 % 2 == 1) = b6 ∧ (x / 2 ^ 7 % 2 == 1) = b7 := by decide +kernel
  obtain ⟨h0, h1, h2, h3, h4, h5, h6, h7⟩ := h (g 0) (g 1) (g 2) (g 3) (g 4) (g 5) (g 6) (g 7)
  match j, hj with
  | 0, _ => exact h0
  | 1, _ => exact h1
  | 2, _ => exact h2
  | 3, _ => exact h3
  | 4, _ => exact h4
  | 5, _ => exact h5
  | 6, _ => exact h6
  | 7, _ => exact h7
theorem byteOf_congr {f g : Nat → Bool} (h : ∀ j, j < 8 → f j = g j) : byteOf f = byteOf g := by
  unfold byteOf
  rw [h 0 (by omega), h 1 (by omega), h 2 (by omega), h 3 (by omega), h 4 (by omega), h 5 (by omega), h 6 (by omega), h 7 (by omega)]
theorem byteOf_or (g : Nat → Bool) (k : Nat) (hk : k < 8) : byteOf g ||| 2 ^ k = byteOf fun j => g j || j == k := by
  have h : ∀ (b0 b1 b2 b3 b4 b5 b6 b7 : Bool) (k : Fin 8), 
      ((if b0 then 1 else 0) + (if b1 then 2 else 0) + (if b2 then 4 else 0) + (if b3 then 8 else 0) + (if b4 then 16 else 0) + (if b5 then 32 else 0) + (if b6 then 64 else 0) + (if b7 then 128 else 0)) ||| 2 ^ k.val =
      (if b0 || 0 == k.val then 1 else 0) + (if b1 || 1 == k.val then 2 else 0) + (if b2 || 2 == k.val then 4 else 0) + (if b3 || 3 == k.val then 8 else 0) + (if b4 || 4 == k.val then 16 else 0) + (if b5 || 5 == k.val then 32 else 0) + (if b6 || 6 == k.val then 64 else 0) + (if b7 || 7 == k.val then 128 else 0) := by decide +kernel
  exact h (g 0) (g 1) (g 2) (g 3) (g 4) (g 5) (g 6) (g 7) ⟨k, hk⟩
theorem byteOf_add (g : Nat → Bool) (k : Nat) (hk : k < 8) (hg : g k = false) : byteOf g + 2 ^ k = byteOf fun j => g j || j == k := by
  have h : ∀ (b0 b1 b2 b3 b4 b5 b6 b7 : Bool) (k : Fin 8), (k = 0 → b0 = false) → (k = 1 → b1 = false) → (k = 2 → b2 = false) → (k = 3 → b3 = false) → (k = 4 → b4 = false) → (k = 5 → b5 = false) → (k = 6 → b6 = false) → (k = 7 → b7 = false) → 
      ((if b0 then 1 else 0) + (if b1 then 2 else 0) + (if b2 then 4 else 0) + (if b3 then 8 else 0) + (if b4 then 16 else 0) + (if b5 then 32 else 0) + (if b6 then 64 else 0) + (if b7 then 128 else 0)) + 2 ^ k.val =
      (if b0 || 0 == k.val then 1 else 0) + (if b1 || 1 == k.val then 2 else 0) + (if b2 || 2 == k.val then 4 else 0) + (if b3 || 3 == k.val then 8 else 0) + (if b4 || 4 == k.val then 16 else 0) + (if b5 || 5 == k.val then 32 else 0) + (if b6 || 6 == k.val then 64 else 0) + (if b7 || 7 == k.val then 128 else 0) := by decide +kernel
  refine h (g 0) (g 1) (g 2) (g 3) (g 4) (g 5) (g 6) (g 7) ⟨k, hk⟩ ?_ ?_ ?_ ?_ ?_ ?_ ?_ ?_
  all_goals
    intro e
    have e' := congrArg Fin.val e
    simp at e'
    subst e'
    exact hg
theorem byteOf_self (x : Nat) (hx : x < 256) : byteOf (fun j => x / 2 ^ j % 2 == 1) = x := by
  have h : ∀ x : Fin 256, byteOf (fun j => x.val / 2 ^ j % 2 == 1) = x.val := by decide +kernel
  exact h ⟨x, hx⟩

theorem maskL_len (f : Nat → Bool) : (maskL f).length = 32 := by simp [maskL]
theorem maskL_at (f : Nat → Bool) (i : Nat) (hi : i < 32) : (maskL f)[i]? = some (byteOf fun j => f (8 * i + j)) := by
  simp [maskL, hi]
theorem maskL_is (f : Nat → Bool) : IsM (maskL f) := ⟨maskL_len f, fun x hx => by
  simp only [maskL, List.mem_map] at hx
  obtain ⟨i, _, rfl⟩ := hx
  exact byteOf_lt _⟩
theorem mask_byte (f : Nat → Bool) (i : Nat) (hi : i < 32) : (maskL f).getD i 0 < 256 := by
  rw [List.getD_eq_getElem?_getD, maskL_at _ _ hi, Option.getD_some]
  exact byteOf_lt _
theorem has_mask (f : Nat → Bool) (k : Nat) (hk : k < 256) : hasL (maskL f) k = f k := by
  unfold hasL
  rw [List.getD_eq_getElem?_getD, maskL_at f _ (by omega), Option.getD_some, byteOf_bit _ _ (by omega)]
  congr 1
  omega
theorem maskL_congr {f g : Nat → Bool} (h : ∀ k, k < 256 → f k = g k) : maskL f = maskL g := by
  unfold maskL
  apply List.map_congr_left
  intro i hi
  have := List.mem_range.1 hi
  exact byteOf_congr fun j hj => h _ (by omega)
theorem mask_has {B : List Nat} (h : IsM B) : maskL (hasL B) = B := by
  apply List.ext_getElem?
  intro i
  by_cases hi : i < 32
  · rw [maskL_at _ i hi]
    have hlen : i < B.length := by rw [h.len]; exact hi
    have hb : B[i]? = some B[i] := List.getElem?_eq_getElem hlen
    rw [hb]
    congr 1
    refine (byteOf_congr fun j hj => ?_).trans (byteOf_self B[i] (h.lt _ (List.getElem_mem _)))
    unfold hasL
    rw [show (8 * i + j) / 8 = i by omega, show (8 * i + j) % 8 = j by omega, List.getD_eq_getElem?_getD, hb, Option.getD_some]
  · rw [List.getElem?_eq_none (by rw [maskL_len]; omega), List.getElem?_eq_none (by rw [h.len]; omega)]
theorem mask_set (f : Nat → Bool) (k y : Nat) (hk : k < 256) (hy : y = byteOf fun j => f (8 * (k / 8) + j) || j == k % 8) : (maskL f).set (k / 8) y = maskL fun j => f j || j == k := by
  apply List.ext_getElem?
  intro i
  rw [List.getElem?_set]
  by_cases hi : i < 32
  · rw [maskL_at _ i hi, maskL_at _ i hi, maskL_len]
    split
    · rename_i e
      subst e
      rw [if_pos (by omega), hy]
      congr 1
      refine byteOf_congr fun j hj => ?_
      congr 1
      rw [Bool.eq_iff_iff]
      simp
      omega
    · rename_i e
      congr 1
      refine byteOf_congr fun j hj => ?_
      rw [show (8 * i + j == k) = false by simp; omega, Bool.or_false]
  · rw [List.getElem?_eq_none (by rw [maskL_len]; omega), List.getElem?_eq_none (by rw [maskL_len]; omega)]
    split
    · omega
    · rfl
theorem mask_or (f : Nat → Bool) (k : Nat) (hk : k < 256) : (maskL f).set (k / 8) ((maskL f).getD (k / 8) 0 ||| 2 ^ (k % 8)) = maskL fun j => f j || j == k := by
  refine mask_set f k _ hk ?_
  rw [List.getD_eq_getElem?_getD, maskL_at f _ (by omega), Option.getD_some, byteOf_or _ _ (by omega)]
theorem mask_add (f : Nat → Bool) (k : Nat) (hk : k < 256) (hf : f k = false) : (maskL f).set (k / 8) ((maskL f).getD (k / 8) 0 + 2 ^ (k % 8)) = maskL fun j => f j || j == k := by
  refine mask_set f k _ hk ?_
  rw [List.getD_eq_getElem?_getD, maskL_at f _ (by omega), Option.getD_some, byteOf_add _ _ (by omega)]
  rw [show 8 * (k / 8) + k % 8 = k by omega]
  exact hf
theorem mask_none : maskL (fun _ => false) = List.replicate 32 0 := by decide

theorem cnt_succ (B : List Nat) (n : Nat) : cntL B (n + 1) = cntL B n + if hasL B n then 1 else 0 := by
  unfold cntL
  rw [List.range_succ, List.filter_append, List.length_append]
  cases h : hasL B n <;> simp [h]
theorem cnt_le (B : List Nat) (n : Nat) : cntL B n ≤ n := by
  unfold cntL
  have := List.length_filter_le (hasL B) (List.range n)
  simpa using this

/-- What a byte makes of a number. -/
def elN (n : Nat) : Nat := (167 * n + 13) % 256
def bkF (l : List UInt8) (n : Nat) : Nat := l.foldr (fun c n => elN (n ^^^ c.toNat)) n
def bkN (l : List UInt8) : Nat := bkF l (l.length % 256)
theorem elN_lt (n : Nat) : elN n < 256 := Nat.mod_lt _ (by decide)
theorem elN_inj {a b : Nat} (ha : a < 256) (hb : b < 256) (h : elN a = elN b) : a = b := by unfold elN at h; omega
theorem xor_lt {a : Nat} (c : UInt8) (ha : a < 256) : a ^^^ c.toNat < 256 := Nat.xor_lt_two_pow (n := 8) ha c.toNat_lt
theorem bkF_lt (l : List UInt8) {n : Nat} (hn : n < 256) : bkF l n < 256 := by
  cases l with
  | nil => exact hn
  | cons c l => exact elN_lt _
theorem bkN_lt (l : List UInt8) : bkN l < 256 := bkF_lt l (Nat.mod_lt _ (by decide))
theorem xor_cancel {a b c : Nat} (h : a ^^^ c = b ^^^ c) : a = b := by
  have := congrArg (· ^^^ c) h
  simpa [Nat.xor_assoc] using this
theorem xor_cancel' {a b c : Nat} (h : c ^^^ a = c ^^^ b) : a = b := by
  rw [Nat.xor_comm c a, Nat.xor_comm c b] at h
  exact xor_cancel h
theorem bkF_inj (l : List UInt8) : ∀ {m n : Nat}, m < 256 → n < 256 → bkF l m = bkF l n → m = n := by
  induction l with
  | nil => intro m n _ _ h; exact h
  | cons c l ih =>
    intro m n hm hn h
    have h' : elN (bkF l m ^^^ c.toNat) = elN (bkF l n ^^^ c.toNat) := h
    exact ih hm hn (xor_cancel (elN_inj (xor_lt c (bkF_lt l hm)) (xor_lt c (bkF_lt l hn)) h'))
theorem bkF_append (l r : List UInt8) (n : Nat) : bkF (l ++ r) n = bkF l (bkF r n) := by unfold bkF; rw [List.foldr_append]
theorem bk_apart (l : List UInt8) (k : Nat) (b : UInt8) (hk : k < l.length) : bkN l = bkN (l.set k b) ↔ l = l.set k b := by
  constructor
  · intro h
    have e1 : l = l.take k ++ l[k] :: l.drop (k + 1) := by simp
    have e2 : l.set k b = l.take k ++ b :: l.drop (k + 1) := by rw [List.set_eq_take_append_cons_drop, if_pos hk]
    unfold bkN at h
    rw [List.length_set] at h
    have hm : l.length % 256 < 256 := Nat.mod_lt _ (by decide)
    generalize l.length % 256 = m at *
    rw [e2] at h
    rw [show bkF l m = bkF (l.take k ++ l[k] :: l.drop (k + 1)) m by rw [← e1], bkF_append, bkF_append] at h
    have hd := bkF_lt (l.drop (k + 1)) hm
    have h2 := bkF_inj (l.take k) (elN_lt _) (elN_lt _) (show bkF _ (elN (bkF (l.drop (k + 1)) m ^^^ l[k].toNat)) = bkF _ (elN (bkF (l.drop (k + 1)) m ^^^ b.toNat)) from h)
    have h3 := xor_cancel' (elN_inj (xor_lt _ hd) (xor_lt _ hd) h2)
    rw [e2, ← UInt8.toNat_inj.1 h3]
    exact e1
  · intro h
    rw [← h]
theorem bkF_step (l : List UInt8) (i : Nat) (hi : i < l.length) (m : Nat) : bkF (l.drop (l.length - (i + 1))) m = elN (bkF (l.drop (l.length - i)) m ^^^ (l[l.length - (i + 1)]'(by omega)).toNat) := by
  rw [List.drop_eq_getElem_cons (show l.length - (i + 1) < l.length by omega), show l.length - (i + 1) + 1 = l.length - i by omega]
  rfl
end Go.Proofs.YtmaohnbddlccdaaGreat.NB
end

/- Masks in memory: arrays by value, whole. -/
section
namespace Go.Proofs.YtmaohnbddlccdaaGreat.NB
open Go.RowKit Go.Sort

def cellsM (B : List Nat) : List Value := B.map fun (x : Nat) => Value.int .u8 (x : Int)
def maskV (B : List Nat) : Value := .agg (cellsM B).toArray
theorem cellsM_len (B : List Nat) : (cellsM B).length = B.length := by simp [cellsM]
theorem cellsM_at (B : List Nat) (i : Nat) (h : i < B.length) : (cellsM B)[i]? = some (.int .u8 ((B.getD i 0 : Nat) : Int)) := by
  simp [cellsM, h]
theorem cellsM_one (B : List Nat) : ∀ v ∈ cellsM B, v.oneCell' = true := by
  intro v hv
  obtain ⟨x, _, rfl⟩ := List.mem_map.1 hv
  rfl
theorem infoM : (Tryz.prog.info? 145).map (fun i => (i.zero, i.size)) = some (some (maskV (List.replicate 32 0)), 32) := by kernel_rfl
theorem infoA : (Tryz.prog.info? 144).map (fun i => (i.zero, i.size)) = some (some (maskV (List.replicate 32 0)), 32) := by kernel_rfl

theorem and_one (x j : Nat) (hx : x < 256) : (bits .and .u8 ((x : Int) / 2 ^ j) 1 == 1) = (x / 2 ^ j % 2 == 1) := by
  have hy : x / 2 ^ j < 256 := Nat.lt_of_le_of_lt (Nat.div_le_self _ _) hx
  have e : ((x : Int) / 2 ^ j) = ((x / 2 ^ j : Nat) : Int) := by simp
  have h := bits_mask .u8 8 (by decide) wraps_u8 1 (by decide) ((x / 2 ^ j : Nat) : Int) (Int.natCast_nonneg _) (by exact_mod_cast hy)
  rw [e, show (1 : Int) = 2 ^ 1 - 1 from rfl, h, Bool.eq_iff_iff]
  simp
  omega
theorem or_pow (x j : Nat) (hx : x < 256) (hj : j < 8) : bits .or .u8 (x : Int) (2 ^ j) = ((x ||| 2 ^ j : Nat) : Int) := by
  have h2 : 2 ^ j < 2 ^ 8 := Nat.pow_lt_pow_right (by decide) hj
  have := (bits_nat .u8 8 (by decide) wraps_u8 x (2 ^ j) hx h2).2
  rw [← this]
  simp

theorem has_out (B : List Nat) (k : Int) (hk : ¬ (0 ≤ k ∧ k < 256)) (w : World) :
    Calls Tryz.prog 113 #[maskV B, .int .i64 k] w fun e w' => e = .returned (.bool false) ∧ Below w.heap.size w w' := by
  unfold maskV
  generalize (cellsM B).toArray = C
  have hor : decide (k < 0) = true ∨ (decide (k < 0) = false ∧ decide (256 ≤ k) = true) := by
    simp only [decide_eq_true_eq, decide_eq_false_iff_not]
    omega
  clear hk
  rcases hor with h1 | ⟨h1, h2⟩
  all_goals
    go_enter Tryz.func113, Tryz.ntmps113
    go_wp2
    go_ret
    exact ⟨rfl, (Below.refl _ _).alloc (Nat.le_refl _) _⟩

set_option maxHeartbeats 1000000 in
theorem has_in (B : List Nat) (hB : IsM B) (k : Nat) (hk : k < 256) (w : World) :
    Calls Tryz.prog 113 #[maskV B, .int .i64 (k : Int)] w fun e w' => e = .returned (.bool (hasL B k)) ∧ Below w.heap.size w w' := by
  have hc : (w.alloc (.cells (cellsM B).toArray 145)).cell? ⟨w.heap.size, k / 8, none⟩ = some (.int .u8 ((B.getD (k / 8) 0 : Nat) : Int)) := by
    rw [cell_of_row _ _ (k / 8) _ _ (0, 0) (heap_alloc_new w _), ← cellsM_at B (k / 8) (by rw [hB.len]; omega)]
    simp
  unfold maskV
  generalize (cellsM B).toArray = C at *
  have h1 : decide ((k : Int) < 0) = false := by simp
  have h2 : decide ((256 : Int) ≤ (k : Int)) = false := by simp; omega
  have hx : B.getD (k / 8) 0 < 256 := by
    have : k / 8 < B.length := by rw [hB.len]; omega
    rw [List.getD_eq_getElem?_getD, List.getElem?_eq_getElem this]
    exact hB.lt _ (List.getElem_mem _)
  have HH : Hid (hasL B k = (B.getD (k / 8) 0 / 2 ^ (k % 8) % 2 == 1)) := Lib.hid rfl
  generalize B.getD (k / 8) 0 = x at *
  go_enter Tryz.func113, Tryz.ntmps113
  go_wp2
  go_ret
  rw [HH.out, ← and_one x (k % 8) hx]
  exact ⟨rfl, (Below.refl _ _).alloc (Nat.le_refl _) _⟩

set_option maxRecDepth 100000 in
set_option maxHeartbeats 1000000 in
theorem rhas_out (B : List Nat) (k : Int) (hk : ¬ (0 ≤ k ∧ k < 256)) (w : World) :
    Calls Tryz.prog 132 #[maskV B, .int .i64 k] w fun e w' => e = .returned (.bool false) ∧ Below w.heap.size w w' := by
  unfold maskV
  generalize (cellsM B).toArray = C
  have hor : decide (k < 0) = true ∨ (decide (k < 0) = false ∧ decide (255 < k) = true) := by
    simp only [decide_eq_true_eq, decide_eq_false_iff_not]
    omega
  clear hk
  rcases hor with h1 | ⟨h1, h2⟩
  all_goals
    go_enter Tryz.func132, Tryz.ntmps132
    go_wp2
    go_ret
    exact ⟨rfl, (Below.refl _ _).alloc (Nat.le_refl _) _⟩

set_option maxRecDepth 100000 in
set_option maxHeartbeats 1000000 in
theorem rhas_in (B : List Nat) (hB : IsM B) (k : Nat) (hk : k < 256) (w : World) :
    Calls Tryz.prog 132 #[maskV B, .int .i64 (k : Int)] w fun e w' => e = .returned (.bool (hasL B k)) ∧ Below w.heap.size w w' := by
  have hc : (w.alloc (.cells (cellsM B).toArray 144)).cell? ⟨w.heap.size, k / 8, none⟩ = some (.int .u8 ((B.getD (k / 8) 0 : Nat) : Int)) := by
    rw [cell_of_row _ _ (k / 8) _ _ (0, 0) (heap_alloc_new w _), ← cellsM_at B (k / 8) (by rw [hB.len]; omega)]
    simp
  unfold maskV
  generalize (cellsM B).toArray = C at *
  have h1 : decide ((k : Int) < 0) = false := by simp
  have h2 : decide ((255 : Int) < (k : Int)) = false := by simp; omega
  have hx : B.getD (k / 8) 0 < 256 := by
    have : k / 8 < B.length := by rw [hB.len]; omega
    rw [List.getD_eq_getElem?_getD, List.getElem?_eq_getElem this]
    exact hB.lt _ (List.getElem_mem _)
  have HH : Hid (hasL B k = (B.getD (k / 8) 0 / 2 ^ (k % 8) % 2 == 1)) := Lib.hid rfl
  generalize B.getD (k / 8) 0 = x at *
  go_enter Tryz.func132, Tryz.ntmps132
  go_wp2
  go_loop [5, 6] (fun n i => ∃ j : Nat, j ≤ k % 8 ∧ i = .int .i64 j ∧ n = .int .i64 ((x / 2 ^ j : Nat) : Int)) (fun _ i => 8 - (intOf i).toNat)
  case atStart => exact ⟨0, Nat.zero_le _, rfl, by simp⟩
  case round =>
    obtain ⟨j, hj, rfl, rfl⟩ := hrel
    have hy : x / 2 ^ j < 256 := Nat.lt_of_le_of_lt (Nat.div_le_self _ _) hx
    have HD : Hid (x / 2 ^ (j + 1) = x / 2 ^ j / 2) := Lib.hid (by rw [Nat.pow_succ, Nat.div_div_eq_div_mul])
    by_cases hlt : j < k % 8
    · have hd : decide ((j : Int) < ((k % 8 : Nat) : Int)) = true := by simp; omega
      have hd' : decide ((j : Int) < (k : Int) % 8) = true := by simp; omega
      generalize x / 2 ^ j = y at *
      go_wp2
      go_round
      case rel => exact ⟨j + 1, by omega, by go_num, by rw [HD.out]; go_num⟩
      case measure => simp [intOf]; omega
    · have hd : decide ((j : Int) < ((k % 8 : Nat) : Int)) = false := by simp; omega
      have hd' : decide ((j : Int) < (k : Int) % 8) = false := by simp; omega
      have hjk : j = k % 8 := by omega
      rw [← hjk] at HH
      clear hjk
      generalize x / 2 ^ j = y at *
      go_wp2
      go_ret
      rw [HH.out]
      exact ⟨by show Ending.returned (.bool _) = _; congr 2; rw [Bool.eq_iff_iff]; simp; omega, (Below.refl _ _).alloc (Nat.le_refl _) _⟩

/-- What add makes of the world: one bit more. -/
def Added (b i y : Nat) (w : World) (e : Ending) (w' : World) : Prop := e = .returned (.tuple #[]) ∧ w' = (w.setCell ⟨b, i, none⟩ (.int .u8 (y : Int))).drew

set_option maxRecDepth 100000 in
set_option maxHeartbeats 1000000 in
theorem add_any (b x k : Nat) (hk : k < 256) (hx : x < 256) (w : World) (hc : w.cell? ⟨b, k / 8, none⟩ = some (.int .u8 (x : Int))) (hf : w.frozen? ⟨b, k / 8, none⟩ = false) :
    Calls Tryz.prog 155 #[.pointer (some ⟨b, 0, none⟩), .int .i64 (k : Int)] w (Added b (k / 8) (x ||| 2 ^ (k % 8)) w) := by
  have HO := Lib.hid (or_pow x (k % 8) hx (by omega))
  have HP : Hid ((2 : Int) ^ (k % 8) % 256 = 2 ^ (k % 8)) := Lib.hid (by
    have h2 : 2 ^ (k % 8) < 2 ^ 8 := Nat.pow_lt_pow_right (by decide) (by omega)
    have h3 : (2 : Int) ^ (k % 8) = ((2 ^ (k % 8) : Nat) : Int) := by simp
    rw [h3]
    generalize 2 ^ (k % 8) = y at *
    omega)
  go_enter Tryz.func155, Tryz.ntmps155
  go_wp2
  go_region
  rw [HP.out, HO.out]
  go_end0
  exact ⟨rfl, rfl⟩

/-- An array lies whole in a block. -/
def Lies (w : World) (b : Nat) (vs : List Value) (t : TypeId) : Prop := w.heap[b]? = some (.cells vs.toArray t (0, 0))
theorem Lies.lt {w : World} {b : Nat} {vs : List Value} {t : TypeId} (h : Lies w b vs t) : b < w.heap.size := (Array.getElem?_eq_some_iff.1 h).1
theorem Lies.cell {w : World} {b : Nat} {vs : List Value} {t : TypeId} (h : Lies w b vs t) {i : Nat} {v : Value} (hv : vs[i]? = some v) : w.cell? ⟨b, i, none⟩ = some v := by
  rw [cell_of_row w b i _ _ _ h]; simpa using hv
theorem Lies.frozen {w : World} {b : Nat} {vs : List Value} {t : TypeId} (h : Lies w b vs t) (i : Nat) : w.frozen? ⟨b, i, none⟩ = false := by
  unfold Lies at h
  simp [World.frozen?, h]
theorem Lies.new (w : World) (vs : List Value) (t : TypeId) : Lies (w.alloc (.cells vs.toArray t)) w.heap.size vs t := heap_alloc_new w _
theorem Lies.later {w w' : World} {b B : Nat} {vs : List Value} {t : TypeId} (h : Lies w b vs t) (hb : Below B w w') (hB : b < B) : Lies w' b vs t := (hb.block b hB).trans h
theorem Lies.set {w : World} {b : Nat} {vs : List Value} {t : TypeId} (h : Lies w b vs t) (i : Nat) (v : Value) : Lies (w.setCell ⟨b, i, none⟩ v) b (vs.set i v) t := by
  unfold Lies at *
  simp [World.setCell, Array.getElem?_modify, h]
theorem Lies.apart {w : World} {b : Nat} {vs : List Value} {t : TypeId} (h : Lies w b vs t) {a : Addr} (ha : b ≠ a.block) (v : Value) : Lies (w.setCell a v) b vs t := by
  unfold Lies at *
  rw [Below.heap_setCell _ _ _ _ ha]; exact h
theorem Lies.drew {w : World} {b : Nat} {vs : List Value} {t : TypeId} (h : Lies w b vs t) : Lies w.drew b vs t := h

theorem isAggM : Tryz.prog.underlying 145 = some (.array 32 5) := by kernel_rfl
theorem infoM32 : (Tryz.prog.info? 145).map (·.size) = some 32 := by kernel_rfl
theorem cells_set (B : List Nat) (i x : Nat) : (cellsM B).set i (.int .u8 (x : Int)) = cellsM (B.set i x) := by simp [cellsM, List.map_set]

section
variable {ops : Array Oper} {rest : List Oper} {o : Oper} {a : Act} {w : World} {Q : Exit → Act → World → Prop}
theorem wp_loadM (hgd : o.guard = none) (x : Operand) (ho : o.op = .load 145 x) (b : Nat) (hx : a.eval x = .pointer (some ⟨b, 0, none⟩)) {vs : List Value} {t : TypeId} (hL : Lies w b vs t) (hl : vs.length = 32)
    (h : wpList Tryz.prog ops Q rest (a.put o.dst (.agg vs.toArray)) w) : wpList Tryz.prog ops Q (o :: rest) a w :=
  wpList_load_row hgd _ x ho b hx t _ _ _ hL isAggM rfl (infoM32.trans (by simp [hl])) h
theorem wp_storeM (hgd : o.guard = none) (x y : Operand) (ho : o.op = .store 145 x y) (b : Nat) (cs : List Value) (hx : a.eval x = .pointer (some ⟨b, 0, none⟩)) (hy : a.eval y = .agg cs.toArray) {vs : List Value} {t : TypeId} (hL : Lies w b vs t) (hl : vs.length = 32) (hc : cs.length = 32) (h1 : ∀ v ∈ cs, v.oneCell' = true)
    (h : wpList Tryz.prog ops Q rest (a.put o.dst undef) (w.setRow b cs.toArray)) : wpList Tryz.prog ops Q (o :: rest) a w :=
  wpList_store_row hgd _ x y ho b _ hx hy t _ hL (infoM32.trans (by simp [hc])) (by simp [hl, hc]) (Array.all_eq_true_iff_forall_mem.2 fun v hv => h1 v (by simpa using hv)) h
end
theorem results_cellM {fn : Func} {p : Tmp} (h : fn.results = #[.cell p 145]) {tmps : Array Value} {w : World} {b : Nat} {vs : List Value} {t : TypeId}
    (hp : tmps.getD p undef = .pointer (some ⟨b, 0, none⟩)) (hL : Lies w b vs t) (hl : vs.length = 32) : (results fn tmps).run Tryz.prog w = .ok (.agg vs.toArray) w :=
  results_cell_row h tmps w b t _ _ _ hp hL isAggM rfl (infoM32.trans (by simp [hl]))
theorem Lies.row {w : World} {b : Nat} {vs : List Value} {t : TypeId} (h : Lies w b vs t) (cs : List Value) : Lies (w.setRow b cs.toArray) b cs t := setRow_heap w b _ _ t _ h
theorem below_row {B b : Nat} {w0 w : World} (hb : Below B w0 w) (hB : B ≤ b) (cs : Array Value) : Below B w0 (w.setRow b cs) :=
  hb.trans ⟨rfl, rfl, rfl, by simp [World.setRow], fun k hk => setRow_other w b k cs (by omega)⟩

def OfFirst (f : Nat → Bool) (w : World) (e : Ending) (w' : World) : Prop := e = .returned (maskV (maskL f)) ∧ Below w.heap.size w w'

/-- The rounds of First: the bits below k are in. -/
def InFirst (w : World) (k : Nat) (wr : World) : Prop :=
  Lies wr (w.heap.size + 1) (cellsM (maskL fun j => decide (j < k))) 145 ∧ Lies wr w.heap.size (cellsM (maskL fun _ => false)) 145 ∧ Below w.heap.size w wr
theorem InFirst.start (w : World) (vs : List Value) (hv : vs = cellsM (maskL fun _ => false)) : InFirst w 0 ((w.alloc (.cells vs.toArray 145)).alloc (.cells vs.toArray 145)) := by
  have e : maskL (fun j => decide (j < 0)) = maskL (fun _ => false) := maskL_congr fun k _ => by simp
  have hB : Below w.heap.size w (w.alloc (.cells vs.toArray 145)) := (Below.refl _ _).alloc (Nat.le_refl _) _
  have hL := Lies.new w vs 145
  refine ⟨?_, ?_, hB.alloc hB.size _⟩
  · rw [e, ← hv]
    have h := Lies.new (w.alloc (.cells vs.toArray 145)) vs 145
    simpa using h
  · rw [← hv]
    exact hL.later ((Below.refl _ _).alloc (Nat.le_refl _) _) (by simp)
theorem InFirst.next {w wr : World} {k : Nat} (h : InFirst w k wr) (hk : k < 256) :
    InFirst w (k + 1) (wr.setCell ⟨w.heap.size + 1, k / 8, none⟩ (.int .u8 (((maskL fun j => decide (j < k)).getD (k / 8) 0 ||| 2 ^ (k % 8) : Nat) : Int))).drew := by
  obtain ⟨h1, h2, h3⟩ := h
  have hs := h1.set (k / 8) (.int .u8 (((maskL fun j => decide (j < k)).getD (k / 8) 0 ||| 2 ^ (k % 8) : Nat) : Int))
  rw [cells_set, mask_or _ _ hk, show maskL (fun j => decide (j < k) || j == k) = maskL (fun j => decide (j < k + 1)) from maskL_congr fun j _ => by rw [Bool.eq_iff_iff]; simp; omega] at hs
  exact ⟨hs.drew, (h2.apart (by simp) _).drew, (h3.setCell (by simp) _).drew⟩

set_option maxRecDepth 100000 in
set_option maxHeartbeats 1000000 in
theorem first_any (n : Int) (w : World) :
    Calls Tryz.prog 111 #[.int .i64 n] w (OfFirst (fun k => decide ((k : Int) < n)) w) := by
  go_enter Tryz.func111, Tryz.ntmps111
  go_wp2
  all_goals
    go_loopw [7] (fun i wr => ∃ k : Nat, k ≤ 256 ∧ ((k : Int) ≤ n ∨ k = 0) ∧ i = .int .i64 k ∧ InFirst w k wr) (fun i _ => 256 - (intOf i).toNat)
    case atStart => exact ⟨0, Nat.zero_le _, .inr rfl, rfl, InFirst.start w _ rfl⟩
    case round =>
      obtain ⟨k, hk, hkn, rfl, hrel⟩ := hrel
      by_cases hlt : (k : Int) < n ∧ k < 256
      · have hd1 : decide ((k : Int) < n) = true := by simp; omega
        have hd2 : decide ((k : Int) < 256) = true := by simp; omega
        have hc := hrel.1.cell (cellsM_at _ (k / 8) (by rw [maskL_len]; omega))
        have hf := hrel.1.frozen (k / 8)
        have hx := mask_byte (fun j => decide (j < k)) (k / 8) (by omega)
        have HN := Lib.hid (hrel.next hlt.2)
        have HA := Lib.hid (add_any (w.heap.size + 1) _ k hlt.2 hx wr hc hf)
        clear hc hf hx hrel
        generalize (maskL fun j => decide (j < k)).getD (k / 8) 0 = x at *
        go_wp2_with fail
        refine HA.out.mono ?_
        rintro e w1 ⟨rfl, rfl⟩
        go_wp2
        go_roundw
        case rel => exact ⟨k + 1, by omega, by omega, by go_num, HN.out⟩
        case measure => simp [intOf]; omega
      · have HF : Hid (maskL (fun j => decide (j < k)) = maskL (fun j => decide ((j : Int) < n))) := Lib.hid (maskL_congr fun j hj => by rw [Bool.eq_iff_iff]; simp; omega)
        first
          | (have hd1 : decide ((k : Int) < 256) = false := by (simp; omega))
          | (have hd1 : decide ((k : Int) < n) = false := by (simp; omega))
        obtain ⟨h1, h2, h3⟩ := hrel
        have l32 : (cellsM (maskL fun j => decide (j < k))).length = 32 := by rw [cellsM_len, maskL_len]
        have l32' : (cellsM (maskL fun _ => false)).length = 32 := by rw [cellsM_len, maskL_len]
        have HL := Lib.hid l32
        have HL' := Lib.hid l32'
        clear l32 l32'
        go_wp2_with (first | (refine wp_loadM rfl _ rfl _ rfl h1 HL.out ?_) | (refine wp_storeM rfl _ _ rfl _ _ rfl rfl h2 HL'.out HL.out (cellsM_one _) ?_))
        have hR := h2.row (cellsM (maskL fun j => decide (j < k)))
        have hB := below_row h3 (Nat.le_refl _) (cellsM (maskL fun j => decide (j < k))).toArray
        refine bodyPost_ret (results_cellM (p := 2) Tryz.results111 rfl hR HL.out) rfl ⟨?_, hB⟩
        rw [HF.out]; rfl

theorem has_any (B : List Nat) (hB : IsM B) (k : Int) (w : World) :
    Calls Tryz.prog 113 #[maskV B, .int .i64 k] w fun e w' => e = .returned (.bool (hasI B k)) ∧ Below w.heap.size w w' := by
  by_cases hk : 0 ≤ k ∧ k < 256
  · obtain ⟨n, rfl⟩ := Int.eq_ofNat_of_zero_le hk.1
    have e : hasI B (n : Int) = hasL B n := by unfold hasI; rw [decide_eq_true hk.1, decide_eq_true hk.2]; rfl
    rw [e]
    exact has_in B hB n (by omega) w
  · have e : hasI B k = false := by unfold hasI; rw [Bool.and_eq_false_iff, Bool.and_eq_false_iff]; simp; omega
    rw [e]
    exact has_out B k hk w
theorem rhas_any (B : List Nat) (hB : IsM B) (k : Int) (w : World) :
    Calls Tryz.prog 132 #[maskV B, .int .i64 k] w fun e w' => e = .returned (.bool (hasI B k)) ∧ Below w.heap.size w w' := by
  by_cases hk : 0 ≤ k ∧ k < 256
  · obtain ⟨n, rfl⟩ := Int.eq_ofNat_of_zero_le hk.1
    have e : hasI B (n : Int) = hasL B n := by unfold hasI; rw [decide_eq_true hk.1, decide_eq_true hk.2]; rfl
    rw [e]
    exact rhas_in B hB n (by omega) w
  · have e : hasI B k = false := by unfold hasI; rw [Bool.and_eq_false_iff, Bool.and_eq_false_iff]; simp; omega
    rw [e]
    exact rhas_out B k hk w

end Go.Proofs.YtmaohnbddlccdaaGreat.NB
end

/- Not; the document's Count, of, First, Not. -/
section
namespace Go.Proofs.YtmaohnbddlccdaaGreat.NB
open Go.RowKit Go.Sort

/-- The rounds of Not: the bits below k that the mask hasn't. -/
def InNot (B : List Nat) (w : World) (k : Nat) (wr : World) : Prop :=
  Lies wr (w.heap.size + 2) (cellsM (maskL fun j => decide (j < k) && !hasL B j)) 145 ∧ Lies wr (w.heap.size + 1) (cellsM (maskL fun _ => false)) 145 ∧ Lies wr w.heap.size (cellsM B) 145 ∧ Below w.heap.size w wr
theorem InNot.start (B : List Nat) (w : World) (vs : List Value) (hv : vs = cellsM (maskL fun _ => false)) : InNot B w 0 (((w.alloc (.cells (cellsM B).toArray 145)).alloc (.cells vs.toArray 145)).alloc (.cells vs.toArray 145)) := by
  have e : maskL (fun j => decide (j < 0) && !hasL B j) = maskL (fun _ => false) := maskL_congr fun k _ => by simp
  have b0 : Below w.heap.size w (w.alloc (.cells (cellsM B).toArray 145)) := (Below.refl _ _).alloc (Nat.le_refl _) _
  have L0 := Lies.new w (cellsM B) 145
  obtain ⟨w0, hw0⟩ : ∃ w0, w0 = w.alloc (.cells (cellsM B).toArray 145) := ⟨_, rfl⟩
  have hs : w0.heap.size = w.heap.size + 1 := by rw [hw0]; simp
  rw [← hw0] at b0 L0 ⊢
  have b1 : Below w0.heap.size w0 (w0.alloc (.cells vs.toArray 145)) := (Below.refl _ _).alloc (Nat.le_refl _) _
  have L1 := Lies.new w0 vs 145
  obtain ⟨w1, hw1⟩ : ∃ w1, w1 = w0.alloc (.cells vs.toArray 145) := ⟨_, rfl⟩
  have hs1 : w1.heap.size = w.heap.size + 2 := by rw [hw1]; simp [hs]
  rw [← hw1] at b1 L1 ⊢
  have b2 : Below w1.heap.size w1 (w1.alloc (.cells vs.toArray 145)) := (Below.refl _ _).alloc (Nat.le_refl _) _
  have L2 := Lies.new w1 vs 145
  rw [hs] at L1
  rw [hs1] at L2
  have L0' := (L0.later b1 (by omega)).later b2 (by omega)
  have L1' := L1.later b2 (by omega)
  refine ⟨?_, ?_, L0', (b0.trans (b1.mono (by omega))).trans (b2.mono (by omega))⟩
  · rw [e, ← hv]; exact L2
  · rw [← hv]; exact L1'
theorem InNot.later {B : List Nat} {w wr w' : World} {k : Nat} (h : InNot B w k wr) (hb : Below wr.heap.size wr w') : InNot B w k w' :=
  ⟨h.1.later hb h.1.lt, h.2.1.later hb h.2.1.lt, h.2.2.1.later hb h.2.2.1.lt, h.2.2.2.trans (hb.mono h.2.2.2.size)⟩
theorem InNot.skip {B : List Nat} {w wr : World} {k : Nat} (h : InNot B w k wr) (hh : hasL B k = true) : InNot B w (k + 1) wr := by
  have e : maskL (fun j => decide (j < k + 1) && !hasL B j) = maskL (fun j => decide (j < k) && !hasL B j) := maskL_congr fun j _ => by
    by_cases hj : j = k
    · subst hj; simp [hh]
    · congr 1; rw [Bool.eq_iff_iff]; simp; omega
  unfold InNot
  rw [e]; exact h
theorem InNot.next {B : List Nat} {w wr : World} {k : Nat} (h : InNot B w k wr) (hk : k < 256) (hh : hasL B k = false) :
    InNot B w (k + 1) (wr.setCell ⟨w.heap.size + 2, k / 8, none⟩ (.int .u8 (((maskL fun j => decide (j < k) && !hasL B j).getD (k / 8) 0 ||| 2 ^ (k % 8) : Nat) : Int))).drew := by
  obtain ⟨h1, h2, h3, h4⟩ := h
  have hs := h1.set (k / 8) (.int .u8 (((maskL fun j => decide (j < k) && !hasL B j).getD (k / 8) 0 ||| 2 ^ (k % 8) : Nat) : Int))
  rw [cells_set, mask_or _ _ hk, show maskL (fun j => (decide (j < k) && !hasL B j) || j == k) = maskL (fun j => decide (j < k + 1) && !hasL B j) from maskL_congr fun j _ => by
    by_cases hj : j = k
    · subst hj; simp [hh]
    · rw [show (j == k) = false by simp [hj], Bool.or_false]; congr 1; rw [Bool.eq_iff_iff]; simp; omega] at hs
  exact ⟨hs.drew, (h2.apart (by simp) _).drew, (h3.apart (by simp) _).drew, (h4.setCell (by simp) _).drew⟩

set_option maxRecDepth 100000 in
set_option maxHeartbeats 2000000 in
theorem not_any (B : List Nat) (hB : IsM B) (w : World) :
    Calls Tryz.prog 112 #[maskV B] w (OfFirst (fun k => !hasL B k) w) := by
  have HL : Hid ((cellsM B).length = 32) := Lib.hid (by rw [cellsM_len, hB.len])
  have HZ : Hid ((cellsM (maskL fun _ => false)).length = 32) := Lib.hid (by rw [cellsM_len, maskL_len])
  have HS := Lib.hid (fun (vs : List Value) hv => InNot.start B w vs hv)
  unfold maskV
  generalize hC : (cellsM B).toArray = C at *
  go_enter Tryz.func112, Tryz.ntmps112
  go_wp2
  go_loopw [5] (fun i wr => ∃ k : Nat, k ≤ 256 ∧ i = .int .i64 k ∧ InNot B w k wr) (fun i _ => 256 - (intOf i).toNat)
  case atStart => exact ⟨0, Nat.zero_le _, rfl, HS.out _ rfl⟩
  case round =>
    obtain ⟨k, hk, rfl, hrel⟩ := hrel
    have hL1 := hrel.2.2.1
    by_cases hlt : k < 256
    · have hd : decide ((k : Int) < 256) = true := by simp; omega
      have HA : Hid (Calls Tryz.prog 113 #[.agg (cellsM B).toArray, .int .i64 (k : Int)] wr fun e w' => e = .returned (.bool (hasL B k)) ∧ Below wr.heap.size wr w') := Lib.hid (has_in B hB k hlt wr)
      have HR := Lib.hid hrel
      clear hrel hC
      cases hh : hasL B k
      · rw [hh] at HA
        have HH := Lib.hid hh
        clear hh
        go_wp2_with (refine wp_loadM rfl _ rfl _ rfl hL1 HL.out ?_)
        refine HA.out.mono ?_
        rintro e w1 ⟨rfl, hb1⟩
        have HR1 := Lib.hid (HR.out.later hb1)
        clear hb1 hL1
        have hc := HR1.out.1.cell (cellsM_at _ (k / 8) (by rw [maskL_len]; omega))
        have hf := HR1.out.1.frozen (k / 8)
        have hx := mask_byte (fun j => decide (j < k) && !hasL B j) (k / 8) (by omega)
        have HN := Lib.hid (HR1.out.next hlt HH.out)
        have HD := Lib.hid (add_any (w.heap.size + 2) _ k hlt hx w1 hc hf)
        clear hc hf hx
        generalize (maskL fun j => decide (j < k) && !hasL B j).getD (k / 8) 0 = x at *
        go_wp2_with fail
        refine HD.out.mono ?_
        rintro e w2 ⟨rfl, rfl⟩
        go_wp2
        go_roundw
        case rel => exact ⟨k + 1, by omega, by go_num, HN.out⟩
        case measure => simp [intOf]; omega
      · rw [hh] at HA
        have HH := Lib.hid hh
        clear hh
        go_wp2_with (refine wp_loadM rfl _ rfl _ rfl hL1 HL.out ?_)
        refine HA.out.mono ?_
        rintro e w1 ⟨rfl, hb1⟩
        have HR1 := Lib.hid ((HR.out.later hb1).skip HH.out)
        clear hb1 hL1
        go_wp2
        go_roundw
        case rel => exact ⟨k + 1, by omega, by go_num, HR1.out⟩
        case measure => simp [intOf]; omega
    · obtain rfl : k = 256 := by omega
      have HF : Hid (maskL (fun j => decide (j < 256) && !hasL B j) = maskL (fun j => !hasL B j)) := Lib.hid (maskL_congr fun j hj => by simp [hj])
      obtain ⟨h1, h2, h3, h4⟩ := hrel
      have HX : Hid ((cellsM (maskL fun j => decide (j < 256) && !hasL B j)).length = 32) := Lib.hid (by rw [cellsM_len, maskL_len])
      clear hL1 hC
      go_wp2_with (first | (refine wp_loadM rfl _ rfl _ rfl h1 HX.out ?_) | (refine wp_storeM rfl _ _ rfl _ _ rfl rfl h2 HZ.out HX.out (cellsM_one _) ?_))
      have hR := h2.row (cellsM (maskL fun j => decide (j < 256) && !hasL B j))
      have hB' := below_row h4 (by omega : w.heap.size ≤ w.heap.size + 1) (cellsM (maskL fun j => decide (j < 256) && !hasL B j)).toArray
      refine bodyPost_ret (results_cellM (p := 2) Tryz.results112 rfl hR HX.out) rfl ⟨?_, hB'⟩
      rw [HF.out]; rfl
end Go.Proofs.YtmaohnbddlccdaaGreat.NB
end

/- The document's Count, of, First, Not. -/
section
namespace Go.Proofs.YtmaohnbddlccdaaGreat.NB
open Go.RowKit Go.Sort

structure ArrT (T : TypeId) (n : Nat) : Prop where
  agg : ∃ e, Tryz.prog.underlying T = some (.array n e)
  size : (Tryz.prog.info? T).map (·.size) = some n
theorem arrA : ArrT 144 32 := ⟨⟨5, by kernel_rfl⟩, by kernel_rfl⟩
theorem arrB : ArrT 179 256 := ⟨⟨4, by kernel_rfl⟩, by kernel_rfl⟩
section
variable {ops : Array Oper} {rest : List Oper} {o : Oper} {a : Act} {w : World} {Q : Exit → Act → World → Prop}
theorem wp_loadT {T : TypeId} {n : Nat} (hT : ArrT T n) (hgd : o.guard = none) (x : Operand) (ho : o.op = .load T x) (b : Nat) (hx : a.eval x = .pointer (some ⟨b, 0, none⟩)) {vs : List Value} {t : TypeId} (hL : Lies w b vs t) (hl : vs.length = n)
    (h : wpList Tryz.prog ops Q rest (a.put o.dst (.agg vs.toArray)) w) : wpList Tryz.prog ops Q (o :: rest) a w := by
  obtain ⟨⟨e, he⟩, hs⟩ := hT
  exact wpList_load_row hgd _ x ho b hx t _ _ _ hL he rfl (hs.trans (by simp [hl])) h
theorem wp_storeT {T : TypeId} {n : Nat} (hT : ArrT T n) (hgd : o.guard = none) (x y : Operand) (ho : o.op = .store T x y) (b : Nat) (cs : List Value) (hx : a.eval x = .pointer (some ⟨b, 0, none⟩)) (hy : a.eval y = .agg cs.toArray) {vs : List Value} {t : TypeId} (hL : Lies w b vs t) (hl : vs.length = n) (hc : cs.length = n) (h1 : ∀ v ∈ cs, v.oneCell' = true)
    (h : wpList Tryz.prog ops Q rest (a.put o.dst undef) (w.setRow b cs.toArray)) : wpList Tryz.prog ops Q (o :: rest) a w :=
  wpList_store_row hgd _ x y ho b _ hx hy t _ hL (hT.size.trans (by simp [hc])) (by simp [hl, hc]) (Array.all_eq_true_iff_forall_mem.2 fun v hv => h1 v (by simpa using hv)) h
end
theorem results_cellT {T : TypeId} {n : Nat} (hT : ArrT T n) {fn : Func} {p : Tmp} (h : fn.results = #[.cell p T]) {tmps : Array Value} {w : World} {b : Nat} {vs : List Value} {t : TypeId}
    (hp : tmps.getD p undef = .pointer (some ⟨b, 0, none⟩)) (hL : Lies w b vs t) (hl : vs.length = n) : (results fn tmps).run Tryz.prog w = .ok (.agg vs.toArray) w := by
  obtain ⟨⟨e, he⟩, hs⟩ := hT
  exact results_cell_row h tmps w b t _ _ _ hp hL he rfl (hs.trans (by simp [hl]))

/-- Three blocks that the call made, in order. -/
structure Three (T0 T1 T2 : TypeId) (v0 v1 v2 : List Value) (w wr : World) : Prop where
  l0 : Lies wr w.heap.size v0 T0
  l1 : Lies wr (w.heap.size + 1) v1 T1
  l2 : Lies wr (w.heap.size + 2) v2 T2
  low : Below w.heap.size w wr
section
variable {T0 T1 T2 : TypeId} {v0 v1 v2 : List Value} {w wr w' : World}
theorem Three.start (T0 T1 T2 : TypeId) (v0 v1 v2 : List Value) (w : World) : Three T0 T1 T2 v0 v1 v2 w (((w.alloc (.cells v0.toArray T0)).alloc (.cells v1.toArray T1)).alloc (.cells v2.toArray T2)) := by
  have b0 : Below w.heap.size w (w.alloc (.cells v0.toArray T0)) := (Below.refl _ _).alloc (Nat.le_refl _) _
  have L0 := Lies.new w v0 T0
  obtain ⟨w0, hw0⟩ : ∃ w0, w0 = w.alloc (.cells v0.toArray T0) := ⟨_, rfl⟩
  have hs : w0.heap.size = w.heap.size + 1 := by rw [hw0]; simp
  rw [← hw0] at b0 L0 ⊢
  have b1 : Below w0.heap.size w0 (w0.alloc (.cells v1.toArray T1)) := (Below.refl _ _).alloc (Nat.le_refl _) _
  have L1 := Lies.new w0 v1 T1
  obtain ⟨w1, hw1⟩ : ∃ w1, w1 = w0.alloc (.cells v1.toArray T1) := ⟨_, rfl⟩
  have hs1 : w1.heap.size = w.heap.size + 2 := by rw [hw1]; simp [hs]
  rw [← hw1] at b1 L1 ⊢
  have b2 : Below w1.heap.size w1 (w1.alloc (.cells v2.toArray T2)) := (Below.refl _ _).alloc (Nat.le_refl _) _
  have L2 := Lies.new w1 v2 T2
  rw [hs] at L1
  rw [hs1] at L2
  exact ⟨(L0.later b1 (by omega)).later b2 (by omega), L1.later b2 (by omega), L2, (b0.trans (b1.mono (by omega))).trans (b2.mono (by omega))⟩
theorem Three.later (h : Three T0 T1 T2 v0 v1 v2 w wr) (hb : Below wr.heap.size wr w') : Three T0 T1 T2 v0 v1 v2 w w' :=
  ⟨h.l0.later hb h.l0.lt, h.l1.later hb h.l1.lt, h.l2.later hb h.l2.lt, h.low.trans (hb.mono h.low.size)⟩
theorem Three.set2 (h : Three T0 T1 T2 v0 v1 v2 w wr) (i : Nat) (v : Value) : Three T0 T1 T2 v0 v1 (v2.set i v) w (wr.setCell ⟨w.heap.size + 2, i, none⟩ v) :=
  ⟨h.l0.apart (by simp) _, h.l1.apart (by simp) _, h.l2.set i v, h.low.setCell (by simp) _⟩
end

def cellsB (f : Nat → Bool) : List Value := (List.range 256).map fun k => Value.bool (f k)
theorem cellsB_len (f : Nat → Bool) : (cellsB f).length = 256 := by simp [cellsB]
theorem cellsB_at (f : Nat → Bool) (k : Nat) (hk : k < 256) : (cellsB f)[k]? = some (.bool (f k)) := by simp [cellsB, hk]
theorem cellsB_one (f : Nat → Bool) : ∀ v ∈ cellsB f, v.oneCell' = true := by
  intro v hv
  obtain ⟨x, _, rfl⟩ := List.mem_map.1 hv
  rfl
theorem cellsB_congr {f g : Nat → Bool} (h : ∀ k, k < 256 → f k = g k) : cellsB f = cellsB g := by
  unfold cellsB
  apply List.map_congr_left
  intro i hi
  rw [h i (List.mem_range.1 hi)]
theorem cellsB_set (f : Nat → Bool) (k : Nat) (b : Bool) : (cellsB f).set k (.bool b) = cellsB fun j => if j = k then b else f j := by
  apply List.ext_getElem?
  intro i
  rw [List.getElem?_set, cellsB_len]
  by_cases hi : i < 256
  · rw [cellsB_at _ _ hi, cellsB_at _ _ hi]
    split
    · rename_i e; subst e; rw [if_pos hi, if_pos rfl]
    · rename_i e; rw [if_neg (fun h => e h.symm)]
  · rw [List.getElem?_eq_none (by rw [cellsB_len]; omega), List.getElem?_eq_none (by rw [cellsB_len]; omega)]
    split
    · rw [if_neg (by omega)]
    · rfl

/-- The bits below k of f. -/
def upto (f : Nat → Bool) (k : Nat) : Nat → Bool := fun j => decide (j < k) && f j
theorem upto_skip (f : Nat → Bool) (k : Nat) (hf : f k = false) : maskL (upto f (k + 1)) = maskL (upto f k) := maskL_congr fun j _ => by
  unfold upto
  by_cases hj : j = k
  · subst hj; simp [hf]
  · congr 1; rw [Bool.eq_iff_iff]; simp; omega
theorem upto_next (f : Nat → Bool) (k : Nat) (hk : k < 256) (hf : f k = true) : (maskL (upto f k)).set (k / 8) ((maskL (upto f k)).getD (k / 8) 0 + 2 ^ (k % 8)) = maskL (upto f (k + 1)) := by
  rw [mask_add _ _ hk (by unfold upto; simp)]
  refine maskL_congr fun j _ => ?_
  unfold upto
  by_cases hj : j = k
  · subst hj; simp [hf]
  · rw [show (j == k) = false by simp [hj], Bool.or_false]; congr 1; rw [Bool.eq_iff_iff]; simp; omega
theorem upto_lt (f : Nat → Bool) (k : Nat) (hk : k < 256) : (maskL (upto f k)).getD (k / 8) 0 + 2 ^ (k % 8) < 256 := by
  have h := mask_add (upto f k) k hk (by unfold upto; simp)
  have h2 := congrArg (fun l => l.getD (k / 8) 0) h
  simp only [List.getD_eq_getElem?_getD, List.getElem?_set_self (show k / 8 < (maskL (upto f k)).length by rw [maskL_len]; omega), Option.getD_some] at h2
  rw [List.getD_eq_getElem?_getD, h2, ← List.getD_eq_getElem?_getD]
  exact mask_byte _ _ (by omega)
theorem upto_zero (f : Nat → Bool) : maskL (upto f 0) = maskL fun _ => false := maskL_congr fun j _ => by unfold upto; simp
theorem upto_all (f : Nat → Bool) : maskL (upto f 256) = maskL f := maskL_congr fun j hj => by unfold upto; simp [hj]

set_option maxRecDepth 100000 in
set_option maxHeartbeats 2000000 in
theorem of_any (f : Nat → Bool) (w : World) :
    Calls Tryz.prog 164 #[.agg (cellsB f).toArray] w (OfFirst f w) := by
  have HS : Hid (Three 179 144 144 (cellsB f) (cellsM (List.replicate 32 0)) (cellsM (List.replicate 32 0)) w (((w.alloc (.cells (cellsB f).toArray 179)).alloc (.cells (cellsM (List.replicate 32 0)).toArray 144)).alloc (.cells (cellsM (List.replicate 32 0)).toArray 144))) := Lib.hid (Three.start _ _ _ _ _ _ _)
  have HU := Lib.hid (upto_zero f)
  generalize hC : (cellsB f).toArray = C at *
  have HC := Lib.hid hC
  clear hC
  go_enter Tryz.func164, Tryz.ntmps164
  go_wp2
  go_loopw [4] (fun i wr => ∃ k : Nat, k ≤ 256 ∧ i = .int .i64 k ∧ Three 179 144 144 (cellsB f) (cellsM (List.replicate 32 0)) (cellsM (maskL (upto f k))) w wr) (fun i _ => 256 - (intOf i).toNat)
  case atStart => exact ⟨0, Nat.zero_le _, rfl, by rw [HU.out, mask_none]; exact HS.out⟩
  case round =>
    obtain ⟨k, hk, rfl, hrel⟩ := hrel
    have HR := Lib.hid hrel
    by_cases hlt : k < 256
    · have hd : decide ((k : Int) < 256) = true := by simp; omega
      have hc := hrel.l0.cell (cellsB_at f k hlt)
      clear hrel
      cases hf : f k
      · rw [hf] at hc
        have HK := Lib.hid (upto_skip f k hf)
        clear hf
        go_wp2
        go_roundw
        case rel => exact ⟨k + 1, by omega, by go_num, by rw [HK.out]; exact HR.out⟩
        case measure => simp [intOf]; omega
      · rw [hf] at hc
        have HK := Lib.hid (upto_next f k hlt hf)
        have hx := upto_lt f k hlt
        clear hf
        have hm := HR.out.l2.cell (cellsM_at _ (k / 8) (by rw [maskL_len]; omega))
        have hfr := HR.out.l2.frozen (k / 8)
        have HN := Lib.hid (HR.out.set2 (k / 8) (.int .u8 (((maskL (upto f k)).getD (k / 8) 0 + 2 ^ (k % 8) : Nat) : Int)))
        rw [cells_set, HK.out] at HN
        clear HK
        generalize (maskL (upto f k)).getD (k / 8) 0 = x at *
        go_wp2
        go_loop [5, 6] (fun b i => ∃ j : Nat, j ≤ k % 8 ∧ i = .int .i64 j ∧ b = .int .i64 ((2 ^ j : Nat) : Int)) (fun _ i => 8 - (intOf i).toNat)
        case atStart => exact ⟨0, Nat.zero_le _, rfl, rfl⟩
        case round =>
          obtain ⟨j, hj, rfl, rfl⟩ := hrel
          have hp : 2 ^ j < 256 := Nat.lt_of_lt_of_le (Nat.pow_lt_pow_right (by decide) (show j < 8 by omega)) (by decide)
          have HP : Hid (2 ^ (j + 1) = 2 ^ j * 2) := Lib.hid (Nat.pow_succ ..)
          by_cases hjk : j < k % 8
          · have hd1 : decide ((j : Int) < (k : Int) % 8) = true := by simp; omega
            generalize 2 ^ j = y at *
            go_wp2
            go_round
            case rel => exact ⟨j + 1, by omega, by go_num, by rw [HP.out]; go_num⟩
            case measure => simp [intOf]; omega
          · have hd1 : decide ((j : Int) < (k : Int) % 8) = false := by simp; omega
            obtain rfl : j = k % 8 := by omega
            have hy : ∃ y : Nat, y = 2 ^ (k % 8) := ⟨_, rfl⟩
            obtain ⟨y, hy⟩ := hy
            rw [← hy] at hx hp HN ⊢
            clear hy
            go_wp2
            go_roundw
            case rel => exact ⟨k + 1, by omega, by go_num, by have h := HN.out; rw [Int.natCast_add] at h; exact h⟩
            case measure => simp [intOf]; omega
    · obtain rfl : k = 256 := by omega
      have HF := Lib.hid (upto_all f)
      rw [HF.out] at HR
      have h1 := HR.out.l2
      have h2 := HR.out.l1
      clear hrel
      have HX : Hid ((cellsM (maskL f)).length = 32) := Lib.hid (by rw [cellsM_len, maskL_len])
      have HZ : Hid ((cellsM (List.replicate 32 0)).length = 32) := Lib.hid (by rw [cellsM_len, List.length_replicate])
      go_wp2_with (first | (refine wp_loadT arrA rfl _ rfl _ rfl h1 HX.out ?_) | (refine wp_storeT arrA rfl _ _ rfl _ _ rfl rfl h2 HZ.out HX.out (cellsM_one _) ?_))
      have hR := h2.row (cellsM (maskL f))
      have hB' := below_row HR.out.low (by omega : w.heap.size ≤ w.heap.size + 1) (cellsM (maskL f)).toArray
      exact bodyPost_ret (results_cellT (p := 2) arrA Tryz.results164 rfl hR HX.out) rfl ⟨rfl, hB'⟩

theorem zeroB : ∀ w, (zeroValue 179).run Tryz.prog w = .ok (.agg (cellsB fun _ => false).toArray) w :=
  (zero_of_info (P := Tryz.prog) (show (Tryz.prog.info? 179).map (fun i => (i.zero, i.size)) = some (some (.agg (cellsB fun _ => false).toArray), 256) by kernel_rfl)).1

structure Two (T0 T1 : TypeId) (v0 v1 : List Value) (w wr : World) : Prop where
  l0 : Lies wr w.heap.size v0 T0
  l1 : Lies wr (w.heap.size + 1) v1 T1
  low : Below w.heap.size w wr
section
variable {T0 T1 : TypeId} {v0 v1 : List Value} {w wr w' : World}
theorem Two.start (T0 T1 : TypeId) (v0 v1 : List Value) (w : World) : Two T0 T1 v0 v1 w ((w.alloc (.cells v0.toArray T0)).alloc (.cells v1.toArray T1)) := by
  have b0 : Below w.heap.size w (w.alloc (.cells v0.toArray T0)) := (Below.refl _ _).alloc (Nat.le_refl _) _
  have L0 := Lies.new w v0 T0
  obtain ⟨w0, hw0⟩ : ∃ w0, w0 = w.alloc (.cells v0.toArray T0) := ⟨_, rfl⟩
  have hs : w0.heap.size = w.heap.size + 1 := by rw [hw0]; simp
  rw [← hw0] at b0 L0 ⊢
  have b1 : Below w0.heap.size w0 (w0.alloc (.cells v1.toArray T1)) := (Below.refl _ _).alloc (Nat.le_refl _) _
  have L1 := Lies.new w0 v1 T1
  rw [hs] at L1
  exact ⟨L0.later b1 (by omega), L1, b0.trans (b1.mono (by omega))⟩
theorem Two.later (h : Two T0 T1 v0 v1 w wr) (hb : Below wr.heap.size wr w') : Two T0 T1 v0 v1 w w' :=
  ⟨h.l0.later hb h.l0.lt, h.l1.later hb h.l1.lt, h.low.trans (hb.mono h.low.size)⟩
theorem Two.set1 (h : Two T0 T1 v0 v1 w wr) (i : Nat) (v : Value) : Two T0 T1 v0 (v1.set i v) w (wr.setCell ⟨w.heap.size + 1, i, none⟩ v) :=
  ⟨h.l0.apart (by simp) _, h.l1.set i v, h.low.setCell (by simp) _⟩
end
theorem upB_zero (f : Nat → Bool) : cellsB (upto f 0) = cellsB fun _ => false := cellsB_congr fun j _ => by unfold upto; simp
theorem upB_all (f : Nat → Bool) : cellsB (upto f 256) = cellsB f := cellsB_congr fun j hj => by unfold upto; simp [hj]
theorem upB_next (f : Nat → Bool) (k : Nat) : (cellsB (upto f k)).set k (.bool (f k)) = cellsB (upto f (k + 1)) := by
  rw [cellsB_set]
  refine cellsB_congr fun j _ => ?_
  unfold upto
  by_cases hj : j = k
  · subst hj; simp
  · rw [if_neg hj]; congr 1; rw [Bool.eq_iff_iff]; simp; omega
def ltF (n : Int) : Nat → Bool := fun k => decide ((k : Int) < n)

set_option maxRecDepth 100000 in
set_option maxHeartbeats 2000000 in
theorem rfirst_any (n : Int) (w : World) :
    Calls Tryz.prog 130 #[.int .i64 n] w (OfFirst (ltF n) w) := by
  have HS : Hid (Two 144 179 (cellsM (List.replicate 32 0)) (cellsB fun _ => false) w ((w.alloc (.cells (cellsM (List.replicate 32 0)).toArray 144)).alloc (.cells (cellsB fun _ => false).toArray 179))) := Lib.hid (Two.start _ _ _ _ _)
  have HU := Lib.hid (upB_zero (ltF n))
  have hz := zeroB
  generalize hZ : (cellsB fun _ => false).toArray = Z at hz HS
  have HZ := Lib.hid hZ
  clear hZ
  go_enter Tryz.func130, Tryz.ntmps130
  go_wp2
  clear hz
  go_loopw [4] (fun i wr => ∃ k : Nat, k ≤ 256 ∧ i = .int .i64 k ∧ Two 144 179 (cellsM (List.replicate 32 0)) (cellsB (upto (ltF n) k)) w wr) (fun i _ => 256 - (intOf i).toNat)
  case atStart => exact ⟨0, Nat.zero_le _, rfl, by rw [HU.out]; exact HS.out⟩
  case round =>
    obtain ⟨k, hk, rfl, hrel⟩ := hrel
    have HR := Lib.hid hrel
    by_cases hlt : k < 256
    · have hd : decide ((k : Int) < 256) = true := by simp; omega
      have hc := hrel.l1.cell (cellsB_at _ k hlt)
      have hfr := hrel.l1.frozen k
      clear hrel
      have HN := Lib.hid (HR.out.set1 k (.bool (ltF n k)))
      rw [upB_next] at HN
      have HD : Hid (decide ((k : Int) < n) = ltF n k) := Lib.hid rfl
      go_wp2
      go_roundw
      case rel => exact ⟨k + 1, by omega, by go_num, by rw [HD.out]; exact HN.out⟩
      case measure => simp [intOf]; omega
    · obtain rfl : k = 256 := by omega
      have HF := Lib.hid (upB_all (ltF n))
      rw [HF.out] at HR
      have h1 := HR.out.l1
      clear hrel
      have HX : Hid ((cellsB (ltF n)).length = 256) := Lib.hid (cellsB_len _)
      have HX' : Hid ((cellsM (maskL (ltF n))).length = 32) := Lib.hid (by rw [cellsM_len, maskL_len])
      have HY : Hid ((cellsM (List.replicate 32 0)).length = 32) := Lib.hid (by rw [cellsM_len, List.length_replicate])
      go_wp2_with (first | (refine wp_loadT arrB rfl _ rfl _ rfl h1 HX.out ?_))
      refine (of_any (ltF n) _).mono ?_
      rintro e w1 ⟨rfl, hb⟩
      have HR1 := Lib.hid (HR.out.later hb)
      have h2 := HR1.out.l0
      clear hb h1
      unfold maskV
      go_wp2_with (first | (refine wp_storeT arrA rfl _ _ rfl _ _ rfl rfl h2 HY.out HX'.out (cellsM_one _) ?_))
      have hR := h2.row (cellsM (maskL (ltF n)))
      have hB' := below_row HR1.out.low (Nat.le_refl _) (cellsM (maskL (ltF n))).toArray
      exact bodyPost_ret (results_cellT (p := 2) arrA Tryz.results130 rfl hR HX'.out) rfl ⟨rfl, hB'⟩
end Go.Proofs.YtmaohnbddlccdaaGreat.NB
end

/- The document's Not; buckets; awake. -/
section
namespace Go.Proofs.YtmaohnbddlccdaaGreat.NB
open Go.RowKit Go.Sort

set_option maxRecDepth 100000 in
set_option maxHeartbeats 2000000 in
theorem rnot_any (B : List Nat) (hB : IsM B) (w : World) :
    Calls Tryz.prog 131 #[maskV B] w (OfFirst (fun k => !hasL B k) w) := by
  have HL : Hid ((cellsM B).length = 32) := Lib.hid (by rw [cellsM_len, hB.len])
  have HS : Hid (Three 144 144 179 (cellsM B) (cellsM (List.replicate 32 0)) (cellsB fun _ => false) w (((w.alloc (.cells (cellsM B).toArray 144)).alloc (.cells (cellsM (List.replicate 32 0)).toArray 144)).alloc (.cells (cellsB fun _ => false).toArray 179))) := Lib.hid (Three.start _ _ _ _ _ _ _)
  obtain ⟨f, hf⟩ : ∃ f : Nat → Bool, f = fun k => !hasL B k := ⟨_, rfl⟩
  rw [← hf]
  have HF := Lib.hid hf
  clear hf
  have HU := Lib.hid (upB_zero f)
  have hz := zeroB
  generalize hZ : (cellsB fun _ => false).toArray = Z at hz HS
  have HZ := Lib.hid hZ
  clear hZ
  unfold maskV
  generalize hC : (cellsM B).toArray = C at *
  have HC := Lib.hid hC
  clear hC
  go_enter Tryz.func131, Tryz.ntmps131
  go_wp2
  clear hz
  go_loopw [4] (fun i wr => ∃ k : Nat, k ≤ 256 ∧ i = .int .i64 k ∧ Three 144 144 179 (cellsM B) (cellsM (List.replicate 32 0)) (cellsB (upto f k)) w wr) (fun i _ => 256 - (intOf i).toNat)
  case atStart => exact ⟨0, Nat.zero_le _, rfl, by rw [HU.out]; exact HS.out⟩
  case round =>
    obtain ⟨k, hk, rfl, hrel⟩ := hrel
    have HR := Lib.hid hrel
    by_cases hlt : k < 256
    · have hd : decide ((k : Int) < 256) = true := by simp; omega
      have hL1 := hrel.l0
      clear hrel
      have HA : Hid (Calls Tryz.prog 132 #[.agg (cellsM B).toArray, .int .i64 (k : Int)] wr fun e w' => e = .returned (.bool (hasL B k)) ∧ Below wr.heap.size wr w') := Lib.hid (rhas_in B hB k hlt wr)
      go_wp2_with (refine wp_loadT arrA rfl _ rfl _ rfl hL1 HL.out ?_)
      refine HA.out.mono ?_
      rintro e w1 ⟨rfl, hb⟩
      have HR1 := Lib.hid (HR.out.later hb)
      clear hb hL1
      have hc := HR1.out.l2.cell (cellsB_at _ k hlt)
      have hfr := HR1.out.l2.frozen k
      have HN := Lib.hid (HR1.out.set2 k (.bool (f k)))
      rw [upB_next] at HN
      have HD : Hid ((!hasL B k) = f k) := Lib.hid (by rw [HF.out])
      go_wp2
      go_roundw
      case rel => exact ⟨k + 1, by omega, by go_num, by rw [HD.out]; exact HN.out⟩
      case measure => simp [intOf]; omega
    · obtain rfl : k = 256 := by omega
      have HG := Lib.hid (upB_all f)
      rw [HG.out] at HR
      have h1 := HR.out.l2
      clear hrel
      have HX : Hid ((cellsB f).length = 256) := Lib.hid (cellsB_len _)
      have HX' : Hid ((cellsM (maskL f)).length = 32) := Lib.hid (by rw [cellsM_len, maskL_len])
      have HY : Hid ((cellsM (List.replicate 32 0)).length = 32) := Lib.hid (by rw [cellsM_len, List.length_replicate])
      go_wp2_with (first | (refine wp_loadT arrB rfl _ rfl _ rfl h1 HX.out ?_))
      refine (of_any f _).mono ?_
      rintro e w1 ⟨rfl, hb⟩
      have HR1 := Lib.hid (HR.out.later hb)
      have h2 := HR1.out.l1
      clear hb h1
      unfold maskV
      go_wp2_with (first | (refine wp_storeT arrA rfl _ _ rfl _ _ rfl rfl h2 HY.out HX'.out (cellsM_one _) ?_))
      have hR := h2.row (cellsM (maskL f))
      have hB' := below_row HR1.out.low (by omega : w.heap.size ≤ w.heap.size + 1) (cellsM (maskL f)).toArray
      exact bodyPost_ret (results_cellT (p := 2) arrA Tryz.results131 rfl hR HX'.out) rfl ⟨rfl, hB'⟩

theorem element_any (n : Nat) (hn : n < 256) (w : World) : Calls Tryz.prog 156 #[.int .i64 (n : Int)] w fun e w' => e = .returned (.int .i64 ((elN n : Nat) : Int)) ∧ w = w' := by
  go_enter Tryz.func156, Tryz.ntmps156
  go_wp2
  go_ret
  refine ⟨?_, rfl⟩
  show Ending.returned (.int .i64 _) = _
  congr 2
theorem table_any (n : Nat) (hn : n < 256) (w : World) : Calls Tryz.prog 165 #[.int .i64 (n : Int)] w fun e w' => e = .returned (.int .i64 ((elN n : Nat) : Int)) ∧ w = w' := by
  go_enter Tryz.func165, Tryz.ntmps165
  go_wp2
  go_ret
  refine ⟨?_, rfl⟩
  show Ending.returned (.int .i64 _) = _
  congr 2
theorem i64_xor (a b : Nat) (ha : a < 256) (hb : b < 256) : bits .xor .i64 (a : Int) (b : Int) = ((a ^^^ b : Nat) : Int) := by
  show IntKind.i64.wrap ((BitVec.ofInt 64 (a : Int) ^^^ BitVec.ofInt 64 (b : Int)).toNat : Int) = _
  have e1 : (BitVec.ofInt 64 (a : Int)).toNat = a := by
    rw [BitVec.ofInt_natCast, BitVec.toNat_ofNat]
    exact Nat.mod_eq_of_lt (by omega)
  have e2 : (BitVec.ofInt 64 (b : Int)).toNat = b := by
    rw [BitVec.ofInt_natCast, BitVec.toNat_ofNat]
    exact Nat.mod_eq_of_lt (by omega)
  have h : a ^^^ b < 2 ^ 8 := Nat.xor_lt_two_pow ha hb
  rw [BitVec.toNat_xor, e1, e2, IntKind.wrap_i64]
  omega

def listOf (s : ByteArray) : List UInt8 := s.data.toList
theorem listOf_len (s : ByteArray) : (listOf s).length = s.size := Array.length_toList

theorem bkF_none (l : List UInt8) (m : Nat) : bkF (l.drop (l.length - 0)) m = m := by rw [Nat.sub_zero, List.drop_length]; rfl
theorem bkF_all (l : List UInt8) (m : Nat) : bkF (l.drop (l.length - l.length)) m = bkF l m := by rw [Nat.sub_self]; rfl
theorem listOf_at (s : ByteArray) (i : Nat) (h : i < s.size) : (listOf s)[i]'(by rw [listOf_len]; exact h) = s[i] := rfl
theorem bk_step (s : ByteArray) (j : Nat) (h : j < s.size) (m : Nat) : bkF ((listOf s).drop ((listOf s).length - (j + 1))) m = elN (bkF ((listOf s).drop ((listOf s).length - j)) m ^^^ (s[s.size - 1 - j]'(by omega)).toNat) := by
  rw [bkF_step (listOf s) j (by rw [listOf_len]; exact h) m]
  have e : (listOf s).length - (j + 1) = s.size - 1 - j := by rw [listOf_len]; omega
  congr 3
  refine Eq.trans ?_ (listOf_at s (s.size - 1 - j) (by omega))
  simp only [e]

set_option maxRecDepth 100000 in
set_option maxHeartbeats 1000000 in
theorem bucket_any (s : ByteArray) (hs : s.size ≤ 1000000) (w : World) :
    Calls Tryz.prog 114 #[.string s] w fun e w' => e = .returned (.int .i64 ((bkN (listOf s) : Nat) : Int)) ∧ w = w' := by
  go_enter Tryz.func114, Tryz.ntmps114
  go_wp2
  go_loop [3, 10] (fun n i => ∃ j m : Nat, j ≤ s.size ∧ m < 256 ∧ i = .int .i64 j ∧ n = .int .i64 m ∧ m = bkF ((listOf s).drop ((listOf s).length - j)) ((listOf s).length % 256)) (fun _ i => s.size - (intOf i).toNat)
  case atStart => exact ⟨0, s.size % 256, Nat.zero_le _, Nat.mod_lt _ (by decide), rfl, rfl, by rw [bkF_none, listOf_len]⟩
  case round =>
    obtain ⟨j, m, hj, hm, rfl, rfl, hmj⟩ := hrel
    have HM := Lib.hid hmj
    clear hmj
    by_cases hlt : j < s.size
    · have HS := Lib.hid (bk_step s j hlt ((listOf s).length % 256))
      rw [← HM.out] at HS
      have hi : s.size - 1 - j < s.size := by omega
      have hc : s[s.size - 1 - j].toNat < 256 := UInt8.toNat_lt _
      have hx : m ^^^ s[s.size - 1 - j].toNat < 256 := xor_lt _ hm
      have HX := Lib.hid (i64_xor m _ hm hc)
      go_wp2_with fail
      rw [HX.out]
      refine (element_any _ hx _).mono ?_
      rintro e w' ⟨rfl, rfl⟩
      go_wp2
      go_round
      case rel => exact ⟨j + 1, _, by omega, elN_lt _, by go_num, rfl, HS.out.symm⟩
      case measure => simp [intOf]; omega
    · have hjs : j = s.size := by omega
      have HN : Hid (bkN (listOf s) = m) := Lib.hid (by rw [HM.out, hjs, ← listOf_len, bkF_all]; rfl)
      subst hjs
      go_wp2
      go_ret
      rw [HN.out]
      exact ⟨rfl, rfl⟩

set_option maxRecDepth 100000 in
set_option maxHeartbeats 1000000 in
theorem rbucket_any (s : ByteArray) (hs : s.size ≤ 1000000) (w : World) :
    Calls Tryz.prog 133 #[.string s] w fun e w' => e = .returned (.int .i64 ((bkN (listOf s) : Nat) : Int)) ∧ w = w' := by
  go_enter Tryz.func133, Tryz.ntmps133
  go_wp2
  go_loop [3, 4] (fun n i => ∃ j m : Nat, j ≤ s.size ∧ m < 256 ∧ i = .int .i64 ((s.size : Int) - 1 - j) ∧ n = .int .i64 m ∧ m = bkF ((listOf s).drop ((listOf s).length - j)) ((listOf s).length % 256)) (fun _ i => (intOf i + 1).toNat)
  case atStart => exact ⟨0, s.size % 256, Nat.zero_le _, Nat.mod_lt _ (by decide), by simp, rfl, by rw [bkF_none, listOf_len]⟩
  case round =>
    obtain ⟨j, m, hj, hm, rfl, rfl, hmj⟩ := hrel
    have HM := Lib.hid hmj
    clear hmj
    by_cases hlt : j < s.size
    · have HS := Lib.hid (bk_step s j hlt ((listOf s).length % 256))
      rw [← HM.out] at HS
      have hi : s.size - 1 - j < s.size := by omega
      have hc : s[s.size - 1 - j].toNat < 256 := UInt8.toNat_lt _
      have hx : m ^^^ s[s.size - 1 - j].toNat < 256 := xor_lt _ hm
      have HX := Lib.hid (i64_xor m _ hm hc)
      have ei : (s.size : Int) - 1 - j = ((s.size - 1 - j : Nat) : Int) := by omega
      have hd : decide ((0 : Int) ≤ ((s.size - 1 - j : Nat) : Int)) = true := by simp
      rw [ei]
      have EI := Lib.hid ei
      clear ei
      go_wp2_with fail
      rw [HX.out]
      refine (table_any _ hx _).mono ?_
      rintro e w' ⟨rfl, rfl⟩
      go_wp2
      go_round
      case rel => exact ⟨j + 1, _, by omega, elN_lt _, by have h := EI.out; congr 1; omega, rfl, HS.out.symm⟩
      case measure => simp [intOf] <;> omega
    · have hjs : j = s.size := by omega
      have HN : Hid (bkN (listOf s) = m) := Lib.hid (by rw [HM.out, hjs, ← listOf_len, bkF_all]; rfl)
      subst hjs
      rw [show (s.size : Int) - 1 - s.size = -1 by omega]
      go_wp2
      go_ret
      rw [HN.out]
      exact ⟨rfl, rfl⟩

section
variable {ops : Array Oper} {rest : List Oper} {o : Oper} {a : Act} {w : World} {Q : Exit → Act → World → Prop}
/-- A whole array into the block that was made last. -/
theorem wp_storeN {T : TypeId} {n : Nat} (hT : ArrT T n) (hgd : o.guard = none) (x y : Operand) (ho : o.op = .store T x y) (cs : List Value) (c : Array Value) (t : TypeId) (hx : a.eval x = .pointer (some ⟨w.heap.size, 0, none⟩)) (hy : a.eval y = .agg cs.toArray) (hl : c.size = n) (hc : cs.length = n) (h1 : ∀ v ∈ cs, v.oneCell' = true) (hd : o.dst = none)
    (h : wpList Tryz.prog ops Q rest a (w.alloc (.cells cs.toArray t))) : wpList Tryz.prog ops Q (o :: rest) a (w.alloc (.cells c t)) :=
  wpList_store_row hgd _ x y ho _ _ hx hy t _ (heap_alloc_last w _) (hT.size.trans (by simp [hc])) (by simp [hl, hc]) (Array.all_eq_true_iff_forall_mem.2 fun v hv => h1 v (by simpa using hv)) (by rw [World.setRow_alloc_new, hd]; exact h)
end
theorem arrM : ArrT 145 32 := ⟨⟨5, by kernel_rfl⟩, by kernel_rfl⟩

theorem eqItems_self {P : Program} (d : Nat) (e : TypeId) (he : P.plainKey e = true) (k : IntKind) (hu : P.underlying e = some (.int k)) (xs : Array Value) (W : World) : ∀ (is : List Nat), (∀ i ∈ is, ∃ n : Int, xs[i * P.cellsOf e]? = some (.int k n)) → (Op.eqItems (d + 1) e (P.cellsOf e) xs xs is).run P W = .ok true W
  | [], _ => by simp [Op.eqItems]
  | i :: is, h => by
    obtain ⟨n, hn⟩ := h i (by simp)
    have p := run_part_plain W he hn
    have q := run_equalIn_int W d e k k n n hu
    simp only [Op.eqItems, Sem.run_bind, p, q, Result.andThen_ok]
    simpa using eqItems_self d e he k hu xs W is (fun j hj => h j (by simp [hj]))
theorem guardM : Tryz.prog.eqGuardType Tryz.prog.depth 145 = false := by kernel_rfl
theorem cellsU : Tryz.prog.cellsOf 5 = 1 := by kernel_rfl
theorem plainU : Tryz.prog.plainKey 5 = true := by kernel_rfl
theorem run_eqM (B : List Nat) (h : (cellsM B).length = 32) (W : World) : (binOp .eql 145 (.agg (cellsM B).toArray) (.agg (cellsM B).toArray)).run Tryz.prog W = .ok (.bool true) W := by
  have hi : ∃ i, Tryz.prog.info? 5 = some i := by
    have : (Tryz.prog.info? 5).isSome = true := by kernel_rfl
    exact Option.isSome_iff_exists.1 this
  obtain ⟨i, hi⟩ := hi
  have hu : Tryz.prog.underlying 5 = some (.int .u8) := by kernel_rfl
  rw [run_eql_struct, run_equalIn_array W 9999 _ _ isAggM hi, eqItems_self 9998 5 plainU .u8 hu]
  · rfl
  · intro j hj
    have := List.mem_range.1 hj
    rw [cellsU, Nat.mul_one]
    refine ⟨((B.getD j 0 : Nat) : Int), ?_⟩
    have := cellsM_at B j (by rw [← cellsM_len, h]; omega)
    simpa using this
theorem run_guardM (op : BinOp) (x y : Operand) (xs ys : Array Value) (W : World) : (eqGuard op 145 x y (.agg xs) (.agg ys)).run Tryz.prog W = .ok () W := run_eqGuard_agg W op _ x y xs ys guardM

section
variable {ops : Array Oper} {rest : List Oper} {o : Oper} {a : Act} {w : World} {Q : Exit → Act → World → Prop}
/-- The load of a whole array, guarded or not. -/
theorem wp_loadW {T : TypeId} {n : Nat} (hT : ArrT T n) (hw : Region.wanted o (yielded ops a.tmps) = true) (x : Operand) (ho : o.op = .load T x) (b : Nat) (hx : a.eval x = .pointer (some ⟨b, 0, none⟩)) {vs : List Value} {t : TypeId} (hL : Lies w b vs t) (hl : vs.length = n)
    (h : wpList Tryz.prog ops Q rest (a.put o.dst (.agg vs.toArray)) w) : wpList Tryz.prog ops Q (o :: rest) a w := by
  obtain ⟨⟨e, he⟩, hs⟩ := hT
  exact BigFrame.wpList_want hw fun _ hK => wp_load_row _ x ho b hx t _ _ _ hL he rfl (hs.trans (by simp [hl])) (hK _ _ h)
/-- .. in a region that draws its order and only reads. -/
theorem quiet_load {C : World → Prop} {R : Act → Prop} {T : TypeId} {n : Nat} (hT : ArrT T n) (x : Operand) (ho : o.op = .load T x) (b : Nat) (hx : a.eval x = .pointer (some ⟨b, 0, none⟩)) {vs : List Value} {t : TypeId} (hL : ∀ w, C w → Lies w b vs t) (hl : vs.length = n)
    (h : R (a.put o.dst (.agg vs.toArray))) : o.quiet Tryz.prog a C R := by
  obtain ⟨⟨e, he⟩, hs⟩ := hT
  refine ⟨.agg vs.toArray, fun w hw => ?_, h⟩
  unfold Oper.quietAt execOp
  simp only [ho, hx, Instr.loadAt, Instr.sureAddr, Sem.run_bind, Sem.run_pure, Result.andThen_ok, run_loadVar_row w b t T vs.toArray (0, 0) _ (hL w hw) he rfl (hs.trans (by simp [hl]))]
  exact ⟨rfl, rfl⟩
end

end Go.Proofs.YtmaohnbddlccdaaGreat.NB
end
