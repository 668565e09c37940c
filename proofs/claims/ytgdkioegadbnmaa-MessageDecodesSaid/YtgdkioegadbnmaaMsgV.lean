/- The document's Decode of a message: on lists. -/
import Derived.Test.YtgdkioegadbnmaaMsgP
namespace Go.Proofs.Ytgdkioegadbnmaa

/-- The bytes behind the ninth, and thirty noughts. -/
def restD (b : List UInt8) : List UInt8 := b.drop 9 ++ List.replicate 30 0
def atD (l : List UInt8) (k n : Nat) : Nat := numL ((l.drop k).take n)
def nameD (r : List UInt8) : ByteArray := ⟨((r.drop 22).take (min (atD r 21 1) (r.length - 22))).toArray⟩
/-- The message that the document's own reading tells. -/
def refD (b : List UInt8) : MsgV :=
  if atD b 0 1 = 1 then ⟨(atD b 0 1 : Nat), (atD b 1 4 : Nat), (atD b 5 4 : Nat), (atD (restD b) 0 4 : Nat), (atD (restD b) 4 1 : Nat), 0, 0, ⟨#[]⟩, 0, 0, false⟩
  else if atD b 0 1 = 3 then ⟨(atD b 0 1 : Nat), (atD b 1 4 : Nat), (atD b 5 4 : Nat), (atD (restD b) 0 4 : Nat), 0, 0, 0, ⟨#[]⟩, 0, 0, atD (restD b) 4 1 == 1⟩
  else if atD b 0 1 = 2 then ⟨(atD b 0 1 : Nat), (atD b 1 4 : Nat), (atD b 5 4 : Nat), (atD (restD b) 0 4 : Nat), 0, atD (restD b) 4 4, (atD (restD b) 8 1 : Nat), nameD (restD b), (atD (restD b) 9 6 : Nat), (atD (restD b) 15 6 : Nat), false⟩
  else ⟨(atD b 0 1 : Nat), (atD b 1 4 : Nat), (atD b 5 4 : Nat), 0, 0, 0, 0, ⟨#[]⟩, 0, 0, false⟩

theorem at_lt (l : List UInt8) (k n : Nat) : atD l k n < 256 ^ n := by
  unfold atD
  refine Nat.lt_of_lt_of_le (numL_lt _) (Nat.pow_le_pow_right (by omega) ?_)
  rw [List.length_take]; omega
theorem at_be {x s : Nat} (h : x < 256 ^ s) (t : List UInt8) : atD (beL x s ++ t) 0 s = x := by
  unfold atD
  rw [List.drop_zero, List.take_left' (beL_length x s), numL_beL, Nat.mod_eq_of_lt h]
theorem at_skip (x s : Nat) (t : List UInt8) (k n : Nat) : atD (beL x s ++ t) (s + k) n = atD t k n := by
  unfold atD
  rw [← List.drop_drop, List.drop_left' (beL_length x s)]
theorem at_skip' {x s : Nat} {t : List UInt8} {j n : Nat} (h : s ≤ j) : atD (beL x s ++ t) j n = atD t (j - s) n := by
  rw [show j = s + (j - s) by omega, at_skip, show s + (j - s) - s = j - s by omega]
theorem drop_skip (x s : Nat) (t : List UInt8) (k : Nat) : (beL x s ++ t).drop (s + k) = t.drop k := by
  rw [← List.drop_drop, List.drop_left' (beL_length x s)]
theorem drop_skip' {x s : Nat} {t : List UInt8} {j : Nat} (h : s ≤ j) : (beL x s ++ t).drop j = t.drop (j - s) := by
  rw [show j = s + (j - s) by omega, drop_skip, show s + (j - s) - s = j - s by omega]

theorem refD_addr (b : List UInt8) : (refD b).addr < 4294967296 := by
  have h := at_lt (restD b) 4 4
  unfold refD
  split
  · exact Nat.zero_lt_succ _
  · split
    · exact Nat.zero_lt_succ _
    · split
      · exact h
      · exact Nat.zero_lt_succ _

theorem refD_enc (m : MsgV) (h : rightM m = true) (ha : m.addr < 4294967296) : refD (encM m) = m := by
  obtain ⟨hk, hl, hs, h⟩ := (right_iff m).1 h
  have e0 : atD (encM m) 0 1 = m.kind.toNat := at_be (by omega) _
  have e1 : atD (encM m) 1 4 = m.life.toNat := by
    unfold encM
    rw [at_skip' (by omega)]
    exact at_be (by omega) _
  have e2 : atD (encM m) 5 4 = m.seen.toNat := by
    unfold encM
    rw [at_skip' (by omega), at_skip' (by omega)]
    exact at_be (by omega) _
  have e3 : restD (encM m) = tailE m ++ List.replicate 30 0 := by
    unfold restD encM
    rw [drop_skip' (by omega), drop_skip' (by omega), drop_skip' (by omega), List.drop_zero]
  unfold refD
  rw [e0, e1, e2, e3, Int.toNat_of_nonneg (by omega), Int.toNat_of_nonneg (by omega), Int.toNat_of_nonneg (by omega)]
  obtain ⟨ki, li, se, xi, stt, ad, bi, cl, po, at_, ok⟩ := m
  simp only [KM] at h
  simp only at hk hl hs ha
  rcases h with ⟨rfl, e4, e5, rfl, rfl, rfl, rfl, rfl, rfl⟩ | ⟨rfl, e4, rfl, rfl, rfl, rfl, rfl, rfl⟩ | ⟨rfl, e4, rfl, e7, e8, e9, e10, rfl⟩ | ⟨hk', rfl, rfl, rfl, rfl, rfl, rfl, rfl, rfl⟩
  · simp only [Int.reduceToNat, if_true, tailE, List.append_assoc]
    rw [at_be (by omega), at_skip' (by omega), at_be (by omega), Int.toNat_of_nonneg (by omega), Int.toNat_of_nonneg (by omega)]
  · have hb : (bitI ok).toNat < 256 ^ 1 := by cases ok <;> decide
    have hb2 : ((bitI ok).toNat == 1) = ok := by cases ok <;> rfl
    simp only [Int.reduceToNat, Nat.reduceEqDiff, if_false, if_true, show ¬ ((3 : Int) = 1) by omega, tailE, List.append_assoc]
    rw [at_be (by omega), at_skip' (by omega), at_be hb, Int.toNat_of_nonneg (by omega), hb2]
  · have hcl := len_data cl
    have hn : nameD (beL xi.toNat 4 ++ (beL ad 4 ++ (beL bi.toNat 1 ++ (beL po.toNat 6 ++ (beL at_.toNat 6 ++ (beL cl.size 1 ++ (cl.data.toList ++ List.replicate 30 0))))))) = cl := by
      unfold nameD
      rw [at_skip' (by omega), at_skip' (by omega), at_skip' (by omega), at_skip' (by omega), at_skip' (by omega), at_be (by omega)]
      rw [drop_skip' (by omega), drop_skip' (by omega), drop_skip' (by omega), drop_skip' (by omega), drop_skip' (by omega), drop_skip' (by omega)]
      simp only [Nat.reduceSub, List.drop_zero, List.length_append, beL_length, List.length_replicate]
      rw [show min cl.size (4 + (4 + (1 + (6 + (6 + (1 + (cl.data.toList.length + 30)))))) - 22) = cl.data.toList.length by omega, List.take_left]
    simp only [Int.reduceToNat, Nat.reduceEqDiff, if_false, if_true, show ¬ ((2 : Int) = 1) by omega, show ¬ ((2 : Int) = 3) by omega, tailE, List.append_assoc]
    rw [hn]
    rw [at_be (by omega), at_skip' (by omega), at_be (by omega)]
    rw [at_skip' (by omega), at_skip' (by omega), at_be (by omega)]
    rw [at_skip' (by omega), at_skip' (by omega), at_skip' (by omega), at_be (by omega)]
    rw [at_skip' (by omega), at_skip' (by omega), at_skip' (by omega), at_skip' (by omega), at_be (by omega)]
    rw [Int.toNat_of_nonneg (by omega), Int.toNat_of_nonneg (by omega), Int.toNat_of_nonneg (by omega), Int.toNat_of_nonneg (by omega)]
  · have h1 : ¬ ki.toNat = 1 := by omega
    have h2 : ¬ ki.toNat = 2 := by omega
    have h3 : ¬ ki.toNat = 3 := by omega
    simp only [h1, h2, h3, if_false]

/-- Both readings decode alike. -/
theorem decM_ref (b : List UInt8) : decM b = decBy refD b :=
  decBy_same (fun _ h ha => decF_enc ((right_iff _).1 h) ha) refD_enc walk_addr refD_addr b
theorem decM_out {b : List UInt8} (h : b.length < 9 ∨ 100 < b.length) : decM b = (zeroM, 2) := by
  rcases decM_or b with h1 | ⟨n, h1⟩
  · exact h1
  · obtain ⟨h2, h3, _⟩ := decM_ok h1
    have hl := enc_length n
    have hr := (right_iff n).1 h2
    have hc : n.kind = 2 → n.client.size ≤ 32 := fun hk => by
      rcases hr.2.2.2 with h4 | h4 | h4 | h4
      · omega
      · omega
      · exact h4.2.2.2.2.1
      · omega
    rw [h3] at hl
    unfold sizeM at hl
    split at hl
    · omega
    · split at hl
      · omega
      · split at hl
        · rename_i h5; have := hc h5; omega
        · omega
end Go.Proofs.Ytgdkioegadbnmaa
