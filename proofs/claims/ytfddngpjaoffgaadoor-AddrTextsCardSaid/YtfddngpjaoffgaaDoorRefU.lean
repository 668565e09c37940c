/- lessorref01.Parse. -/
import Derived.Test.YtfddngpjaoffgaaDoorRefT
namespace Go.Proofs.YtfddngpjaoffgaaDoor
open Go.RowKit

/-- One byte. -/
def rstep (n p : Nat) (b : UInt8) : Option (Nat × Nat) :=
  if b.toNat = 46 then (if 4294967295 < n * 256 + p then none else some (n * 256 + p, 0))
  else if 48 ≤ b.toNat ∧ b.toNat ≤ 57 then (if 255 < p * 10 + (b.toNat - 48) then none else some (n, p * 10 + (b.toNat - 48)))
  else none
def rfold : List UInt8 → Nat → Nat → Option (Nat × Nat)
  | [], n, p => some (n, p)
  | b :: l, n, p =>
    match rstep n p b with
    | some (n', p') => rfold l n' p'
    | none => none

theorem rfold_some {b : UInt8} {l : List UInt8} {n p n' p' : Nat} (h : rstep n p b = some (n', p')) : rfold (b :: l) n p = rfold l n' p' := by simp only [rfold, h]
theorem rfold_none {b : UInt8} {l : List UInt8} {n p : Nat} (h : rstep n p b = none) : rfold (b :: l) n p = none := by simp only [rfold, h]

/-- Figures alone. -/
def dig : List UInt8 → Nat → Option Nat
  | [], p => some p
  | b :: l, p => if b.toNat ≠ 46 ∧ 48 ≤ b.toNat ∧ b.toNat ≤ 57 ∧ p * 10 + (b.toNat - 48) ≤ 255 then dig l (p * 10 + (b.toNat - 48)) else none

theorem rfold_dig : ∀ (l r : List UInt8) (n p q : Nat), dig l p = some q → rfold (l ++ r) n p = rfold r n q
  | [], r, n, p, q, h => by
    unfold dig at h
    cases h
    rfl
  | b :: l, r, n, p, q, h => by
    unfold dig at h
    split at h
    · rename_i hc
      rw [List.cons_append, rfold_some (n' := n) (p' := p * 10 + (b.toNat - 48)), rfold_dig l r n _ q h]
      unfold rstep
      rw [if_neg hc.1, if_pos ⟨hc.2.1, hc.2.2.1⟩, if_neg (by omega)]
    · cases h

theorem dig_itoa (n : Nat) (hn : n < 256) : dig (itoaS n).data.toList 0 = some n := by
  have h : ∀ m : Fin 256, dig (itoaS m.val).data.toList 0 = some m.val := by decide +kernel
  exact h ⟨n, hn⟩
theorem dig_part (a j : Nat) : dig (partS a j).data.toList 0 = some (a / dv j % 256) := dig_itoa _ (Nat.mod_lt _ (by decide))

theorem rfold_point {r : List UInt8} {n p : Nat} (h : n * 256 + p ≤ 4294967295) : rfold (46 :: r) n p = rfold r (n * 256 + p) 0 := by
  rw [rfold_some (n' := n * 256 + p) (p' := 0)]
  unfold rstep
  rw [if_pos (by decide), if_neg (by omega)]

theorem rfold_text (a : Nat) : rfold (textL a) 0 0 = some ((a / 16777216 % 256 * 256 + a / 65536 % 256) * 256 + a / 256 % 256, a % 256) := by
  have h0 := dig_part a 0
  have h1 := dig_part a 1
  have h2 := dig_part a 2
  have h3 := dig_part a 3
  simp only [dv, Nat.div_one] at h0 h1 h2 h3
  rw [textL_eq, rfold_dig _ _ _ _ _ h0, rfold_point (by omega), rfold_dig _ _ _ _ _ h1, rfold_point (by omega), rfold_dig _ _ _ _ _ h2, rfold_point (by omega)]
  rw [← List.append_nil (partS a 3).data.toList, rfold_dig _ _ _ _ _ h3]
  simp only [rfold, Nat.zero_mul, Nat.zero_add]

theorem addr_sum (a : Nat) (ha : a < 4294967296) : ((a / 16777216 % 256 * 256 + a / 65536 % 256) * 256 + a / 256 % 256) * 256 + a % 256 = a := by omega
theorem parsed_none {s : ByteArray} (h : rfold s.data.toList 0 0 = none) : Parsed s 0 2 := by
  refine .inr ⟨fun a _ ht => ?_, rfl, rfl⟩
  rw [← ht, show (textS a).data.toList = textL a from rfl, rfold_text] at h
  cases h
theorem parsed_bad {s : ByteArray} {n p : Nat} (h : rfold s.data.toList 0 0 = some (n, p)) (hb : 4294967295 < n * 256 + p ∨ textS (n * 256 + p) ≠ s) : Parsed s 0 2 := by
  refine .inr ⟨fun a ha ht => ?_, rfl, rfl⟩
  rw [← ht, show (textS a).data.toList = textL a from rfl, rfold_text] at h
  obtain ⟨h1, h2⟩ := Prod.mk.inj (Option.some.inj h)
  have hs : n * 256 + p = a := by rw [← h1, ← h2]; exact addr_sum a ha
  rw [hs] at hb
  rcases hb with hb | hb
  · omega
  · exact hb ht

set_option maxRecDepth 100000 in
set_option maxHeartbeats 1000000 in
theorem rparse_any (s : ByteArray) (w : World) :
    Calls Tryd.prog 10 #[.string s] w fun e w' => ∃ c code, e = .returned (.tuple #[.int .u32 (c : Nat), .int .i64 code]) ∧ Parsed s c code ∧ Below w.heap.size w w' := by
  by_cases h15 : 15 < s.size
  · go_enter Tryd.func10, Tryd.ntmps10
    go_wp2
    go_ret2
    refine ⟨0, 2, rfl, .inr ⟨fun a _ ht => ?_, rfl, rfl⟩, Below.refl _ _⟩
    have := textL_length a
    have h2 : s.size = (textL a).length := by rw [← ht, Lib.size_eq]; rfl
    omega
  · go_enter Tryd.func10, Tryd.ntmps10
    go_wp2
    go_loopw [4, 5, 6] (fun nv pv iv wr => ∃ k n p : Nat, k ≤ s.size ∧ iv = .int .i64 k ∧ nv = .int .i64 n ∧ pv = .int .i64 p ∧ n ≤ 4294967295 ∧ p ≤ 255 ∧ rfold (s.data.toList.drop k) n p = rfold s.data.toList 0 0 ∧ Below w.heap.size w wr) (fun _ _ iv _ => s.size - (intOf iv).toNat)
    case atStart => exact ⟨0, 0, 0, Nat.zero_le _, rfl, rfl, rfl, by omega, by omega, rfl, Below.refl _ _⟩
    case round =>
      obtain ⟨k, n, p, hk, rfl, rfl, rfl, hn, hp, hf, hB⟩ := hrel
      have HF := Lib.hid hf
      clear hf
      by_cases hlt : k < s.size
      · have hdrop : s.data.toList.drop k = s[k] :: s.data.toList.drop (k + 1) := by
          have h1 : k < s.data.toList.length := by rw [← Lib.size_eq]; exact hlt
          rw [List.drop_eq_getElem_cons h1]
          rfl
        have HD := Lib.hid hdrop
        clear hdrop
        have err : rstep n p s[k] = none → Parsed s 0 2 := fun h => by
          apply parsed_none
          rw [← HF.out, HD.out, rfold_none h]
        have HE := Lib.hid err
        clear err
        by_cases h46 : s[k].toNat = 46
        · have e46 : (((s[k].toNat : Nat) : Int) == 46) = true := by rw [h46]; rfl
          by_cases hov : 4294967295 < n * 256 + p
          · go_wp2
            go_ret2
            exact ⟨0, 2, rfl, HE.out (by unfold rstep; rw [if_pos h46, if_pos hov]), hB⟩
          · go_wp2
            go_roundw
            case rel => exact ⟨k + 1, n * 256 + p, 0, by omega, by go_num, by go_num, rfl, by omega, by omega, by rw [← HF.out, HD.out, rfold_some (by unfold rstep; rw [if_pos h46, if_neg hov])], hB⟩
            case measure => simp [intOf]; omega
        · have e46 : (((s[k].toNat : Nat) : Int) == 46) = false := by rw [beq_eq_false_iff_ne]; omega
          by_cases hlo : 48 ≤ s[k].toNat
          · by_cases hhi : s[k].toNat ≤ 57
            · by_cases hov : 255 < p * 10 + (s[k].toNat - 48)
              · go_wp2
                go_ret2
                exact ⟨0, 2, rfl, HE.out (by unfold rstep; rw [if_neg h46, if_pos ⟨hlo, hhi⟩, if_pos hov]), hB⟩
              · go_wp2
                go_roundw
                case rel => exact ⟨k + 1, n, p * 10 + (s[k].toNat - 48), by omega, by go_num, rfl, by congr 1; omega, by omega, by omega, by rw [← HF.out, HD.out, rfold_some (by unfold rstep; rw [if_neg h46, if_pos ⟨hlo, hhi⟩, if_neg hov])], hB⟩
                case measure => simp [intOf]; omega
            · go_wp2
              go_ret2
              exact ⟨0, 2, rfl, HE.out (by unfold rstep; rw [if_neg h46, if_neg (fun h => hhi h.2)]), hB⟩
          · go_wp2
            go_ret2
            exact ⟨0, 2, rfl, HE.out (by unfold rstep; rw [if_neg h46, if_neg (fun h => hlo h.1)]), hB⟩
      · have hnil : s.data.toList.drop k = [] := List.drop_of_length_le (by rw [← Lib.size_eq]; omega)
        have hr : rfold s.data.toList 0 0 = some (n, p) := by rw [← HF.out, hnil]; rfl
        have HR := Lib.hid hr
        clear hr hnil
        by_cases hov : 4294967295 < n * 256 + p
        · go_wp2
          go_ret2
          exact ⟨0, 2, rfl, parsed_bad HR.out (.inl hov), hB⟩
        · have HT := Lib.hid (rtext_any (n * 256 + p) (by omega) wr)
          have hc : ((n * 256 + p : Nat) : Int) = (n : Int) * 256 + p := by omega
          rw [hc] at HT
          clear hc
          by_cases heq : textS (n * 256 + p) = s
          · have hne : ((textS (n * 256 + p)).toList == s.toList) = true := (toList_beq _ _).2 heq
            have HQ := Lib.hid heq
            clear heq
            go_wp2_with fail
            refine HT.out.mono ?_
            rintro e w2 ⟨rfl, hB2⟩
            go_wp2
            go_ret2
            exact ⟨n * 256 + p, 0, by go_num, .inl ⟨HQ.out, by omega, rfl⟩, hB.trans (hB2.mono hB.size)⟩
          · have hne : ((textS (n * 256 + p)).toList == s.toList) = false := by rw [← Bool.not_eq_true]; exact fun h => heq ((toList_beq _ _).1 h)
            have HQ := Lib.hid heq
            clear heq
            go_wp2_with fail
            refine HT.out.mono ?_
            rintro e w2 ⟨rfl, hB2⟩
            go_wp2
            go_ret2
            exact ⟨0, 2, rfl, parsed_bad HR.out (.inr HQ.out), hB.trans (hB2.mono hB.size)⟩
end Go.Proofs.YtfddngpjaoffgaaDoor
