/- An address's text is parsed as it; so Parse answers by the texts of the addresses alone. -/
import Derived.Test.YtfddngpjaoffgaaDoorAddrV
namespace Go.Proofs.YtfddngpjaoffgaaDoor
open Go.RowKit

/-- Without a point. -/
def noPoint (l : List UInt8) : Bool := l.all (fun b => b != 46)

theorem index_point : ∀ (l r : List UInt8), noPoint l = true → Lib.index (l ++ 46 :: r) [46] = (l.length : Nat)
  | [], r, _ => by rw [Lib.index_one]; simp [Lib.indexByte]
  | b :: l, r, h => by
    unfold noPoint at h
    rw [List.all_cons, Bool.and_eq_true] at h
    have ih := index_point l r h.2
    rw [Lib.index_one] at ih ⊢
    have hb : (b == 46) = false := by have := h.1; simpa using this
    rw [List.cons_append]
    unfold Lib.indexByte
    rw [hb, ih]
    simp

theorem index_none : ∀ (l : List UInt8), noPoint l = true → Lib.index l [46] = -1
  | [], _ => by rw [Lib.index_one]; rfl
  | b :: l, h => by
    unfold noPoint at h
    rw [List.all_cons, Bool.and_eq_true] at h
    have ih := index_none l h.2
    rw [Lib.index_one] at ih ⊢
    have hb : (b == 46) = false := by have := h.1; simpa using this
    unfold Lib.indexByte
    rw [hb, ih]
    simp

theorem cut_point (k : Nat) (l r : List UInt8) (h : noPoint l = true) : Lib.splitK [46] 0 (k + 1) (l ++ 46 :: r) = l :: Lib.splitK [46] 0 k r := by
  rw [Lib.splitK, index_point l r h]
  rw [if_neg (by simp)]
  congr 1
  · simp
  · rw [show (((l.length : Nat) : Int).toNat + [(46 : UInt8)].length) = l.length + 1 by simp, ← List.drop_drop]
    simp

theorem cut_none (k : Nat) (l : List UInt8) (h : noPoint l = true) : Lib.splitK [46] 0 k l = [l] := by
  cases k with
  | zero => rfl
  | succ k => rw [Lib.splitK, index_none l h, if_pos (by decide)]

theorem itoa_good (n : Nat) (hn : n < 256) : noPoint (itoaS n).data.toList = true ∧ Lib.parseUintB 8 (itoaS n).data.toList = .ok n ∧ 0 < (itoaS n).data.toList.length := by
  have h : ∀ m : Fin 256, noPoint (itoaS m.val).data.toList = true ∧ Lib.parseUintB 8 (itoaS m.val).data.toList = .ok m.val ∧ 0 < (itoaS m.val).data.toList.length := by decide +kernel
  exact h ⟨n, hn⟩

theorem part_good (a j : Nat) : noPoint (partS a j).data.toList = true ∧ octet (partS a j) = some (a / dv j % 256) ∧ 0 < (partS a j).data.toList.length := by
  obtain ⟨h1, h2, h3⟩ := itoa_good (a / dv j % 256) (Nat.mod_lt _ (by decide))
  refine ⟨h1, ?_, h3⟩
  unfold octet partS
  rw [h2]

theorem data_inj {x y : ByteArray} (h : x.data.toList = y.data.toList) : x = y := by
  obtain ⟨⟨l⟩⟩ := x
  obtain ⟨⟨m⟩⟩ := y
  simp at h
  rw [h]

theorem map_data_inj : ∀ {xs ys : List ByteArray}, xs.map (·.data.toList) = ys.map (·.data.toList) → xs = ys
  | [], [], _ => rfl
  | [], _ :: _, h => by simp at h
  | _ :: _, [], h => by simp at h
  | x :: xs, y :: ys, h => by
    rw [List.map_cons, List.map_cons, List.cons.injEq] at h
    rw [data_inj h.1, map_data_inj h.2]

theorem cuts_text (a : Nat) : cuts (textS a) = [partS a 0, partS a 1, partS a 2, partS a 3] := by
  obtain ⟨n0, -, l0⟩ := part_good a 0
  obtain ⟨n1, -, l1⟩ := part_good a 1
  obtain ⟨n2, -, l2⟩ := part_good a 2
  obtain ⟨n3, -, l3⟩ := part_good a 3
  have hsz : 7 ≤ (textS a).size := by
    rw [Lib.size_eq]
    show 7 ≤ (textL a).length
    rw [textL_eq]
    simp only [List.length_append, List.length_cons]
    omega
  apply map_data_inj
  unfold cuts
  rw [show min 5 ((textS a).size + 1) - 1 = 4 by omega, Lib.splitB_data]
  show Lib.splitK [46] 0 4 (textL a) = _
  rw [textL_eq, cut_point 3 _ _ n0, cut_point 2 _ _ n1, cut_point 1 _ _ n2, cut_none 1 _ n3]
  rfl

theorem fold_text (a : Nat) (ha : a < 4294967296) : foldP (cuts (textS a)) 0 = some a := by
  rw [cuts_text, foldP_cons_some (part_good a 0).2.1, foldP_cons_some (part_good a 1).2.1, foldP_cons_some (part_good a 2).2.1, foldP_cons_some (part_good a 3).2.1]
  simp only [foldP, dv]
  congr 1
  omega

/-- Two addresses with one text are one. -/
theorem text_inj {a b : Nat} (ha : a < 4294967296) (hb : b < 4294967296) (h : textS a = textS b) : a = b := by
  have h1 := fold_text a ha
  rw [h, fold_text b hb] at h1
  exact (Option.some.inj h1).symm

/-- What Parse must answer: the address of the text, or none. -/
def Parsed (s : ByteArray) (c : Nat) (code : Int) : Prop :=
  (textS c = s ∧ c < 4294967296 ∧ code = 0) ∨ ((∀ a, a < 4294967296 → textS a ≠ s) ∧ c = 0 ∧ code = 2)

theorem ParseRes.parsed {s : ByteArray} {c : Nat} {code : Int} (h : ParseRes s c code) : Parsed s c code := by
  rcases h with ⟨a, _, ht, ha, rfl, rfl⟩ | ⟨h, rfl, rfl⟩
  · exact .inl ⟨ht, ha, rfl⟩
  · refine .inr ⟨fun a ha ht => ?_, rfl, rfl⟩
    refine h a ?_ ht
    rw [← ht]
    exact fold_text a ha

theorem Parsed.det {s : ByteArray} {c d : Nat} {x y : Int} (h : Parsed s c x) (k : Parsed s d y) : c = d ∧ x = y := by
  rcases h with ⟨h1, h2, rfl⟩ | ⟨h, rfl, rfl⟩ <;> rcases k with ⟨k1, k2, rfl⟩ | ⟨k, rfl, rfl⟩
  · exact ⟨text_inj h2 k2 (h1.trans k1.symm), rfl⟩
  · exact absurd h1 (k c h2)
  · exact absurd k1 (h d k2)
  · exact ⟨rfl, rfl⟩

theorem Parsed.of_text {a c : Nat} {x : Int} (ha : a < 4294967296) (h : Parsed (textS a) c x) : c = a ∧ x = 0 := h.det (.inl ⟨rfl, ha, rfl⟩)
end Go.Proofs.YtfddngpjaoffgaaDoor
