/- Joined texts: RefR, RefP, RefQ, RefC, RefA. -/
import Derived.Test.YtablffjhipgfbaaMrgAddrN
import Derived.BigQuiet
import Derived.Deep.QuietTactic
import Derived.Laws.AppendOwnNone

/- lessorref01's readers: has, next, Count, At, Index: walks. -/
section
namespace Go.Proofs.Ytablffjhipgfbaa
open Go.RowKit

def hasB (l : List (Nat × Nat)) (a : Nat) : Bool := decide (a ∈ addrsOf l)

theorem not_mem_snoc {l : List (Nat × Nat)} {k : Nat} {x : Nat × Nat} {a : Nat} (hx : l[k]? = some x) (h : a ∉ addrsOf (l.take k)) (hn : ¬ (x.1 ≤ a ∧ a ≤ x.2)) : a ∉ addrsOf (l.take (k + 1)) := by
  rw [addrsOf_take l k x hx, List.mem_append, mem_seg]
  rintro (h1 | h1)
  · exact h h1
  · exact hn ⟨h1.1, by omega⟩

/-- b is the least address from t on; -1: there is none. -/
def Least (l : List (Nat × Nat)) (t : Nat) (b : Int) : Prop :=
  (b = -1 ∧ ∀ a, a ∈ addrsOf l → a < t) ∨ ∃ n : Nat, b = n ∧ t ≤ n ∧ n ∈ addrsOf l ∧ ∀ a, a ∈ addrsOf l → t ≤ a → n ≤ a

theorem least_nil (t : Nat) : Least [] t (-1) := .inl ⟨rfl, by simp [addrsOf]⟩

/-- One range more. -/
theorem least_snoc {l : List (Nat × Nat)} {x : Nat × Nat} {t : Nat} {b : Int} (h : Least l t b) :
    (max x.1 t ≤ x.2 ∧ (b < 0 ∨ ((max x.1 t : Nat) : Int) < b) → Least (l ++ [x]) t ((max x.1 t : Nat) : Int)) ∧ (¬ (max x.1 t ≤ x.2 ∧ (b < 0 ∨ ((max x.1 t : Nat) : Int) < b)) → Least (l ++ [x]) t b) := by
  have mem : ∀ a, a ∈ addrsOf (l ++ [x]) ↔ a ∈ addrsOf l ∨ (x.1 ≤ a ∧ a ≤ x.2) := by
    intro a
    rw [addrsOf_snoc, List.mem_append, mem_seg]
    constructor
    · rintro (h | h)
      · exact .inl h
      · exact .inr ⟨h.1, by omega⟩
    · rintro (h | h)
      · exact .inl h
      · exact .inr ⟨h.1, by omega⟩
  constructor
  · rintro ⟨h1, h2⟩
    refine .inr ⟨max x.1 t, rfl, by omega, (mem _).2 (.inr ⟨by omega, h1⟩), fun a ha hta => ?_⟩
    rcases (mem a).1 ha with ha | ha
    · rcases h with ⟨_, h⟩ | ⟨n, rfl, _, _, h⟩
      · have := h a ha; omega
      · have := h a ha hta
        rcases h2 with h2 | h2
        · omega
        · omega
    · omega
  · intro hn
    rcases h with ⟨rfl, h⟩ | ⟨n, rfl, h1, h2, h3⟩
    · refine .inl ⟨rfl, fun a ha => ?_⟩
      rcases (mem a).1 ha with ha | ha
      · exact h a ha
      · have : ¬ max x.1 t ≤ x.2 := fun hm => hn ⟨hm, .inl (by omega)⟩
        omega
    · refine .inr ⟨n, rfl, h1, (mem n).2 (.inl h2), fun a ha hta => ?_⟩
      rcases (mem a).1 ha with ha | ha
      · exact h3 a ha hta
      · have : ¬ ((max x.1 t : Nat) : Int) < n := fun hm => hn ⟨by omega, .inr hm⟩
        omega

end Go.Proofs.Ytablffjhipgfbaa
end

/- lessorref01.Pool: a walk, and what it answers. -/
section
namespace Go.Proofs.Ytablffjhipgfbaa
open Go.RowKit

/-- What was found below t. -/
structure Inv (l ol : List (Nat × Nat)) (t : Nat) : Prop where
  can : Canon ol
  mem : ∀ b, b ∈ addrsOf ol ↔ b ∈ addrsOf l ∧ b < t
  gap : ol ≠ [] → t ∉ addrsOf l
  top : ∀ x ∈ ol, x.2 + 1 ≤ t

theorem inv_start (l : List (Nat × Nat)) : Inv l [] 0 := ⟨Canon.nil, fun b => by simp [addrsOf], fun h => absurd rfl h, by simp⟩

theorem inv_next {l ol : List (Nat × Nat)} {t a h : Nat} (hi : Inv l ol t) (hta : t ≤ a) (hah : a ≤ h) (hin : ∀ b, a ≤ b → b ≤ h → b ∈ addrsOf l) (hle : ∀ b, b ∈ addrsOf l → t ≤ b → a ≤ b) (hout : h + 1 ∉ addrsOf l) : Inv l (ol ++ [(a, h)]) (h + 1) := by
  have hat : ∀ x ∈ ol, x.2 + 1 < a := by
    intro x hx
    have h1 := hi.top x hx
    have h2 : t ≠ a := by
      rintro rfl
      exact hi.gap (List.ne_nil_of_mem hx) (hin t (Nat.le_refl _) hah)
    omega
  refine ⟨⟨?_, ?_⟩, ?_, fun _ => hout, ?_⟩
  · intro x hx
    rcases List.mem_append.1 hx with hx | hx
    · exact hi.can.val x hx
    · simp at hx; subst hx; exact hah
  · rw [List.pairwise_append]
    refine ⟨hi.can.sep, by simp, fun x hx y hy => ?_⟩
    simp at hy; subst hy; exact hat x hx
  · intro b
    rw [addrsOf_snoc, List.mem_append, mem_seg, hi.mem]
    constructor
    · rintro (⟨h1, h2⟩ | ⟨h1, h2⟩)
      · exact ⟨h1, by omega⟩
      · exact ⟨hin b h1 (by simp at h2; omega), by simp at h2; omega⟩
    · rintro ⟨h1, h2⟩
      by_cases hbt : b < t
      · exact .inl ⟨h1, hbt⟩
      · exact .inr ⟨hle b h1 (by omega), by simp; omega⟩
  · intro x hx
    rcases List.mem_append.1 hx with hx | hx
    · have := hat x hx; omega
    · simp at hx; subst hx; exact Nat.le_refl _

/-- More than 256 addresses. -/
def Many (l : List (Nat × Nat)) : Prop := ∃ L : List Nat, L.Pairwise (· < ·) ∧ 256 < L.length ∧ ∀ a ∈ L, a ∈ addrsOf l

theorem many_of {l ol : List (Nat × Nat)} {t a h : Nat} (hi : Inv l ol t) (hta : t ≤ a) (hin : ∀ b, a ≤ b → b ≤ h → b ∈ addrsOf l) (hn : 256 < (addrsOf ol).length + (h + 1 - a)) : Many l := by
  refine ⟨addrsOf ol ++ seg a (h + 1), ?_, by rw [List.length_append, seg_length]; exact hn, ?_⟩
  · rw [List.pairwise_append]
    refine ⟨hi.can.sorted, seg_sorted _ _, fun x hx y hy => ?_⟩
    have := ((hi.mem x).1 hx).2
    have := (mem_seg.1 hy).1
    omega
  · intro b hb
    rcases List.mem_append.1 hb with hb | hb
    · exact ((hi.mem b).1 hb).1
    · have := mem_seg.1 hb
      exact hin b this.1 (by omega)

def RefRes (l ol : List (Nat × Nat)) (code : Int) : Prop :=
  ((∃ x ∈ l, x.2 < x.1) ∧ ol = [] ∧ code = 1) ∨
  ((∀ x ∈ l, x.1 ≤ x.2) ∧ ((Many l ∧ ol = [] ∧ code = 3) ∨ (Canon ol ∧ (∀ a, a ∈ addrsOf ol ↔ a ∈ addrsOf l) ∧ (addrsOf ol).length ≤ 256 ∧ code = 0)))

theorem sorted_sub : ∀ (L M : List Nat), L.Pairwise (· < ·) → M.Pairwise (· < ·) → (∀ a ∈ L, a ∈ M) → L.length ≤ M.length := by
  intro L
  induction L with
  | nil => intro M _ _ _; simp
  | cons x L ih =>
    intro M hL hM hs
    obtain ⟨h1, h2⟩ := List.pairwise_cons.1 hL
    have hx := hs x (by simp)
    obtain ⟨s, r, rfl⟩ := List.append_of_mem hx
    have hM' := List.pairwise_append.1 hM
    have hr := List.pairwise_cons.1 hM'.2.1
    have := ih r h2 hr.2 fun a ha => by
      have hxa := h1 a ha
      rcases List.mem_append.1 (hs a (by simp [ha])) with hm | hm
      · have := hM'.2.2 a hm x (by simp); omega
      · rcases List.mem_cons.1 hm with rfl | hm
        · omega
        · exact hm
    simp
    omega

theorem res_agree {l ol om : List (Nat × Nat)} {c d : Int} (h : PoolRes l ol c) (k : RefRes l om d) : ol = om ∧ c = d := by
  rcases h with ⟨⟨x, hx, hb⟩, rfl, rfl⟩ | ⟨l', hv, hp, hs, h⟩
  · rcases k with ⟨_, rfl, rfl⟩ | ⟨hv, _⟩
    · exact ⟨rfl, rfl⟩
    · exact absurd (hv x hx) (by omega)
  · obtain ⟨c1, c2⟩ := join_canon (fun x hx => hv x (hp.mem_iff.1 hx)) hs
    have hmem : ∀ a, a ∈ addrsOf (joinL l') ↔ a ∈ addrsOf l := fun a => by
      rw [c2, mem_addrs, mem_addrs]
      constructor
      · rintro ⟨x, hx, hh⟩; exact ⟨x, hp.mem_iff.1 hx, hh⟩
      · rintro ⟨x, hx, hh⟩; exact ⟨x, hp.mem_iff.2 hx, hh⟩
    rcases k with ⟨⟨x, hx, hb⟩, _⟩ | ⟨_, k⟩
    · exact absurd (hv x hx) (by omega)
    · rcases k with ⟨⟨L, L1, L2, L3⟩, rfl, rfl⟩ | ⟨k1, k2, k3, rfl⟩
      · have := sorted_sub L _ L1 c1.sorted (fun a ha => (hmem a).2 (L3 a ha))
        rcases h with ⟨_, rfl, rfl⟩ | ⟨h1, _, _⟩
        · exact ⟨rfl, rfl⟩
        · omega
      · have e : joinL l' = om := canon_unique _ _ c1 k1 fun a => (hmem a).trans (k2 a).symm
        rw [e] at h
        rcases h with ⟨h1, _, _⟩ | ⟨_, rfl, rfl⟩
        · omega
        · exact ⟨rfl, rfl⟩

end Go.Proofs.Ytablffjhipgfbaa
end

/- lessorref01.Pool: the walk. -/
section
namespace Go.Proofs.Ytablffjhipgfbaa
open Go.RowKit

theorem drewN_add (w : World) (a b : Nat) : (w.drewN a).drewN b = w.drewN (a + b) := World.drewN_drewN w a b

theorem rg_move {w wn w3 : World} {A : Option Addr} {l : List (Nat × Nat)} (hR : Rg wn w.heap.size A l) (h0 : Below w.heap.size w wn) (h3 : Below w.heap.size w w3) : Rg w3 w.heap.size A l :=
  hR.keep fun _ hp => (h3.cell hp).trans (h0.cell hp).symm

theorem canon_len : ∀ (ol : List (Nat × Nat)), Canon ol → ol.length ≤ (addrsOf ol).length := by
  intro ol
  induction ol with
  | nil => intro _; simp
  | cons x r ih =>
    intro h
    have h1 := ih h.tail
    have h2 := h.val x (by simp)
    show r.length + 1 ≤ (seg x.1 (x.2 + 1) ++ addrsOf r).length
    rw [List.length_append, seg_length]
    omega

end Go.Proofs.Ytablffjhipgfbaa
end

/- lessorref01.Count: a walk. -/
section
namespace Go.Proofs.Ytablffjhipgfbaa
open Go.RowKit

theorem wr_small (z : Int) (h1 : -1000000000000 ≤ z) (h2 : z ≤ 1000000000000) : wrap64 z = z := IntWalk.wrap64_in _ ⟨by omega, by omega⟩

theorem seg_count {x : Nat × Nat} (h : x.1 ≤ x.2) : ((seg x.1 (x.2 + 1)).length : Int) = (x.2 : Int) - (x.1 : Int) + 1 := by
  rw [seg_length]; omega

theorem addrs_take_le (l : List (Nat × Nat)) (k : Nat) : (addrsOf (l.take k)).length ≤ (addrsOf l).length := (addrsOf_take_prefix l k).length_le

end Go.Proofs.Ytablffjhipgfbaa
end

/- lessorref01.At and Index: walks. -/
section
namespace Go.Proofs.Ytablffjhipgfbaa
open Go.RowKit

theorem seg_get {lo hi j : Nat} (h : j < hi - lo) : (seg lo hi)[j]? = some (lo + j) := by
  simp [seg, h]

theorem addrs_get {l : List (Nat × Nat)} {k j : Nat} {x : Nat × Nat} (hx : l[k]? = some x) (hj : x.1 + j ≤ x.2) : (addrsOf l)[(addrsOf (l.take k)).length + j]? = some (x.1 + j) := by
  obtain ⟨r, hr⟩ := addrsOf_take_prefix l (k + 1)
  rw [← hr, addrsOf_take l k x hx, List.append_assoc, List.getElem?_append_right (by omega), List.getElem?_append_left (by rw [seg_length]; omega)]
  rw [show (addrsOf (l.take k)).length + j - (addrsOf (l.take k)).length = j by omega]
  exact seg_get (by omega)

theorem atL_hit {l : List (Nat × Nat)} {k : Nat} {x : Nat × Nat} {q : Int} (hx : l[k]? = some x) (h1 : ((addrsOf (l.take k)).length : Int) ≤ q) (h2 : q - ((addrsOf (l.take k)).length : Int) < (x.2 : Int) - (x.1 : Int) + 1) :
    atL (addrsOf l) q = ((x.1 + (q - ((addrsOf (l.take k)).length : Int)).toNat), 0) := by
  have h := addrs_get (j := (q - ((addrsOf (l.take k)).length : Int)).toNat) hx (by omega)
  unfold atL
  rw [if_neg (by omega), show q.toNat = (addrsOf (l.take k)).length + (q - ((addrsOf (l.take k)).length : Int)).toNat by omega, h]

theorem atL_over {av : List Nat} {q : Int} (h : (av.length : Int) ≤ q) : atL av q = (0, 4) := by
  unfold atL
  rw [if_neg (by omega), List.getElem?_eq_none (by omega)]

theorem atL_under {av : List Nat} {q : Int} (h : q < 0) : atL av q = (0, 4) := by
  unfold atL
  rw [if_pos h]

end Go.Proofs.Ytablffjhipgfbaa
end
