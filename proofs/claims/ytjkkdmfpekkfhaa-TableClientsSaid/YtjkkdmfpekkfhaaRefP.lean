/- lessorref01.Pool: a walk, and what it answers. -/
import Derived.Test.YtjkkdmfpekkfhaaRefR
namespace Go.Proofs.Ytjkkdmfpekkfhaa
open Go.RowKit

theorem has_int (A : Option Addr) (c : Nat) (l : List (Nat × Nat)) (z : Int) (hz : 0 ≤ z) (w : World) (hr : Rg w w.heap.size A l) (hl : l.length ≤ 1000) :
    Calls Try.prog 45 #[.slice A l.length c, .int .i64 z] w fun e w' => e = .returned (.bool (hasB l z.toNat)) ∧ w = w' := by
  obtain ⟨a, rfl⟩ := Int.eq_ofNat_of_zero_le hz
  exact has_any A c l a w hr hl

theorem next_int (A : Option Addr) (c : Nat) (l : List (Nat × Nat)) (z : Int) (hz : 0 ≤ z) (w : World) (hr : Rg w w.heap.size A l) (hl : l.length ≤ 1000) :
    Calls Try.prog 44 #[.slice A l.length c, .int .i64 z] w fun e w' => ∃ b : Int, e = .returned (.int .i64 b) ∧ Least l z.toNat b ∧ w = w' := by
  obtain ⟨a, rfl⟩ := Int.eq_ofNat_of_zero_le hz
  exact next_any A c l a w hr hl

/-- What was found below t. -/
structure Inv (l ol : List (Nat × Nat)) (t : Nat) : Prop where
  can : Canon ol
  mem : ∀ b, b ∈ addrsOf ol ↔ b ∈ addrsOf l ∧ b < t
  gap : ol ≠ [] → t ∉ addrsOf l
  top : ∀ x ∈ ol, x.2 + 1 ≤ t

theorem inv_start (l : List (Nat × Nat)) : Inv l [] 0 := ⟨Canon.nil, fun b => by simp [addrsOf], fun h => absurd rfl h, by simp⟩

theorem inv_next {l ol : List (Nat × Nat)} {t a h : Nat} (hi : Inv l ol t) (hta : t ≤ a) (hah : a ≤ h) (hin : ∀ b, a ≤ b → b ≤ h → b ∈ addrsOf l) (hle : ∀ b, b ∈ addrsOf l → t ≤ b → a ≤ b) (hout : h + 1 ∉ addrsOf l) : Inv l (ol ++ [(a, h)]) (h + 1) := by
  have hat : ∀ x ∈ ol, x.2 + 1 < a := by
    intro x hx
    have h1 := hi.top x hx
    have h2 : t ≠ a := by
      rintro rfl
      exact hi.gap (List.ne_nil_of_mem hx) (hin t (Nat.le_refl _) hah)
    omega
  refine ⟨⟨?_, ?_⟩, ?_, fun _ => hout, ?_⟩
  · intro x hx
    rcases List.mem_append.1 hx with hx | hx
    · exact hi.can.val x hx
    · simp at hx; subst hx; exact hah
  · rw [List.pairwise_append]
    refine ⟨hi.can.sep, by simp, fun x hx y hy => ?_⟩
    simp at hy; subst hy; exact hat x hx
  · intro b
    rw [addrsOf_snoc, List.mem_append, mem_seg, hi.mem]
    constructor
    · rintro (⟨h1, h2⟩ | ⟨h1, h2⟩)
      · exact ⟨h1, by omega⟩
      · exact ⟨hin b h1 (by simp at h2; omega), by simp at h2; omega⟩
    · rintro ⟨h1, h2⟩
      by_cases hbt : b < t
      · exact .inl ⟨h1, hbt⟩
      · exact .inr ⟨hle b h1 (by omega), by simp; omega⟩
  · intro x hx
    rcases List.mem_append.1 hx with hx | hx
    · have := hat x hx; omega
    · simp at hx; subst hx; exact Nat.le_refl _

/-- More than 256 addresses. -/
def Many (l : List (Nat × Nat)) : Prop := ∃ L : List Nat, L.Pairwise (· < ·) ∧ 256 < L.length ∧ ∀ a ∈ L, a ∈ addrsOf l

theorem many_of {l ol : List (Nat × Nat)} {t a h : Nat} (hi : Inv l ol t) (hta : t ≤ a) (hin : ∀ b, a ≤ b → b ≤ h → b ∈ addrsOf l) (hn : 256 < (addrsOf ol).length + (h + 1 - a)) : Many l := by
  refine ⟨addrsOf ol ++ seg a (h + 1), ?_, by rw [List.length_append, seg_length]; exact hn, ?_⟩
  · rw [List.pairwise_append]
    refine ⟨hi.can.sorted, seg_sorted _ _, fun x hx y hy => ?_⟩
    have := ((hi.mem x).1 hx).2
    have := (mem_seg.1 hy).1
    omega
  · intro b hb
    rcases List.mem_append.1 hb with hb | hb
    · exact ((hi.mem b).1 hb).1
    · have := mem_seg.1 hb
      exact hin b this.1 (by omega)

def RefRes (l ol : List (Nat × Nat)) (code : Int) : Prop :=
  ((∃ x ∈ l, x.2 < x.1) ∧ ol = [] ∧ code = 1) ∨
  ((∀ x ∈ l, x.1 ≤ x.2) ∧ ((Many l ∧ ol = [] ∧ code = 3) ∨ (Canon ol ∧ (∀ a, a ∈ addrsOf ol ↔ a ∈ addrsOf l) ∧ (addrsOf ol).length ≤ 256 ∧ code = 0)))

theorem sorted_sub : ∀ (L M : List Nat), L.Pairwise (· < ·) → M.Pairwise (· < ·) → (∀ a ∈ L, a ∈ M) → L.length ≤ M.length := by
  intro L
  induction L with
  | nil => intro M _ _ _; simp
  | cons x L ih =>
    intro M hL hM hs
    obtain ⟨h1, h2⟩ := List.pairwise_cons.1 hL
    have hx := hs x (by simp)
    obtain ⟨s, r, rfl⟩ := List.append_of_mem hx
    have hM' := List.pairwise_append.1 hM
    have hr := List.pairwise_cons.1 hM'.2.1
    have := ih r h2 hr.2 fun a ha => by
      have hxa := h1 a ha
      rcases List.mem_append.1 (hs a (by simp [ha])) with hm | hm
      · have := hM'.2.2 a hm x (by simp); omega
      · rcases List.mem_cons.1 hm with rfl | hm
        · omega
        · exact hm
    simp
    omega

theorem res_agree {l ol om : List (Nat × Nat)} {c d : Int} (h : PoolRes l ol c) (k : RefRes l om d) : ol = om ∧ c = d := by
  rcases h with ⟨⟨x, hx, hb⟩, rfl, rfl⟩ | ⟨l', hv, hp, hs, h⟩
  · rcases k with ⟨_, rfl, rfl⟩ | ⟨hv, _⟩
    · exact ⟨rfl, rfl⟩
    · exact absurd (hv x hx) (by omega)
  · obtain ⟨c1, c2⟩ := join_canon (fun x hx => hv x (hp.mem_iff.1 hx)) hs
    have hmem : ∀ a, a ∈ addrsOf (joinL l') ↔ a ∈ addrsOf l := fun a => by
      rw [c2, mem_addrs, mem_addrs]
      constructor
      · rintro ⟨x, hx, hh⟩; exact ⟨x, hp.mem_iff.1 hx, hh⟩
      · rintro ⟨x, hx, hh⟩; exact ⟨x, hp.mem_iff.2 hx, hh⟩
    rcases k with ⟨⟨x, hx, hb⟩, _⟩ | ⟨_, k⟩
    · exact absurd (hv x hx) (by omega)
    · rcases k with ⟨⟨L, L1, L2, L3⟩, rfl, rfl⟩ | ⟨k1, k2, k3, rfl⟩
      · have := sorted_sub L _ L1 c1.sorted (fun a ha => (hmem a).2 (L3 a ha))
        rcases h with ⟨_, rfl, rfl⟩ | ⟨h1, _, _⟩
        · exact ⟨rfl, rfl⟩
        · omega
      · have e : joinL l' = om := canon_unique _ _ c1 k1 fun a => (hmem a).trans (k2 a).symm
        rw [e] at h
        rcases h with ⟨h1, _, _⟩ | ⟨_, rfl, rfl⟩
        · omega
        · exact ⟨rfl, rfl⟩

end Go.Proofs.Ytjkkdmfpekkfhaa
