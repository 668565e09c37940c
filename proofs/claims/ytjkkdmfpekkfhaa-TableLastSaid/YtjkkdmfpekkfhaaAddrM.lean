/- Plain mathematics of pools: what joining makes of sorted ranges; a pool is known by its addresses. -/
import Derived.Test.YtjkkdmfpekkfhaaAddrP
namespace Go.Proofs.Ytjkkdmfpekkfhaa

theorem mem_seg {lo hi a : Nat} : a ∈ seg lo hi ↔ lo ≤ a ∧ a < hi := by
  unfold seg
  rw [List.mem_map]
  constructor
  · rintro ⟨i, hi, rfl⟩
    have := List.mem_range.1 hi
    omega
  · rintro ⟨h1, h2⟩
    exact ⟨a - lo, List.mem_range.2 (by omega), by omega⟩

theorem mem_addrs {l : List (Nat × Nat)} {a : Nat} : a ∈ addrsOf l ↔ ∃ x ∈ l, x.1 ≤ a ∧ a ≤ x.2 := by
  unfold addrsOf
  rw [List.mem_flatMap]
  constructor
  · rintro ⟨x, hx, h⟩
    rw [mem_seg] at h
    exact ⟨x, hx, h.1, by omega⟩
  · rintro ⟨x, hx, h⟩
    exact ⟨x, hx, mem_seg.2 ⟨h.1, by omega⟩⟩

/-- A list of ranges in increasing order, no two of which overlap or touch. -/
structure Canon (l : List (Nat × Nat)) : Prop where
  val : ∀ x ∈ l, x.1 ≤ x.2
  sep : l.Pairwise fun x y => x.2 + 1 < y.1

theorem Canon.nil : Canon [] := ⟨by simp, .nil⟩
theorem Canon.tail {x : Nat × Nat} {r : List (Nat × Nat)} (h : Canon (x :: r)) : Canon r := ⟨fun y hy => h.val y (by simp [hy]), (List.pairwise_cons.1 h.sep).2⟩

theorem seg_sorted (lo hi : Nat) : (seg lo hi).Pairwise (· < ·) := by
  unfold seg
  rw [List.pairwise_map]
  exact (List.pairwise_lt_range).imp (fun h => by omega)

theorem Canon.sorted {l : List (Nat × Nat)} (h : Canon l) : (addrsOf l).Pairwise (· < ·) := by
  induction l with
  | nil => exact .nil
  | cons x r ih =>
    show (seg x.1 (x.2 + 1) ++ addrsOf r).Pairwise (· < ·)
    rw [List.pairwise_append]
    refine ⟨seg_sorted _ _, ih h.tail, fun a ha b hb => ?_⟩
    rw [mem_seg] at ha
    obtain ⟨y, hy, h1, _⟩ := mem_addrs.1 hb
    have := (List.pairwise_cons.1 h.sep).1 y hy
    omega

theorem canon_step {out : List (Nat × Nat)} {r : Nat × Nat} (h : Canon out) (hr : r.1 ≤ r.2) (hlow : ∀ x ∈ out, x.1 ≤ r.1) :
    Canon (joinStep out r) ∧ (∀ x ∈ joinStep out r, x.1 ≤ r.1) ∧ ∀ a, a ∈ addrsOf (joinStep out r) ↔ a ∈ addrsOf out ∨ (r.1 ≤ a ∧ a ≤ r.2) := by
  rcases nil_or_snoc out with rfl | ⟨pre, p, rfl⟩
  · have e : joinStep [] r = [r] := rfl
    rw [e]
    refine ⟨⟨fun x hx => by simp at hx; subst hx; exact hr, by simp⟩, fun x hx => by simp at hx; subst hx; exact Nat.le_refl _, fun a => ?_⟩
    rw [mem_addrs, mem_addrs]
    simp
  · have hp := h.val p (by simp)
    have hpl := hlow p (by simp)
    have hsep := List.pairwise_append.1 h.sep
    have e : joinStep (pre ++ [p]) r = if reachesB p.2 r.1 then pre ++ [(p.1, max p.2 r.2)] else pre ++ [p] ++ [r] := by simp [joinStep]
    rw [e]
    split
    · rename_i hre
      have hre' : r.1 ≤ p.2 + 1 := by simp [reachesB] at hre; omega
      refine ⟨⟨?_, ?_⟩, ?_, fun a => ?_⟩
      · intro x hx
        rcases List.mem_append.1 hx with hx | hx
        · exact h.val x (by simp [hx])
        · simp at hx; subst hx; simp; omega
      · rw [List.pairwise_append]
        refine ⟨hsep.1, by simp, fun x hx y hy => ?_⟩
        have := hsep.2.2 x hx p (by simp)
        simp at hy; subst hy; exact this
      · intro x hx
        rcases List.mem_append.1 hx with hx | hx
        · exact hlow x (by simp [hx])
        · simp at hx; subst hx; exact hpl
      · rw [mem_addrs, mem_addrs]
        constructor
        · rintro ⟨x, hx, h1, h2⟩
          rcases List.mem_append.1 hx with hx | hx
          · exact .inl ⟨x, by simp [hx], h1, h2⟩
          · simp at hx; subst hx
            simp only at h1 h2
            by_cases hap : a ≤ p.2
            · exact .inl ⟨p, by simp, h1, hap⟩
            · exact .inr ⟨by omega, by omega⟩
        · rintro (⟨x, hx, h1, h2⟩ | ⟨h1, h2⟩)
          · rcases List.mem_append.1 hx with hx | hx
            · exact ⟨x, by simp [hx], h1, h2⟩
            · simp at hx; subst hx
              exact ⟨(x.1, max x.2 r.2), by simp, h1, by simp only; omega⟩
          · exact ⟨(p.1, max p.2 r.2), by simp, by simp only; omega, by simp only; omega⟩
    · rename_i hre
      have hre' : p.2 + 1 < r.1 := by simp [reachesB] at hre; omega
      refine ⟨⟨?_, ?_⟩, ?_, fun a => ?_⟩
      · intro x hx
        rcases List.mem_append.1 hx with hx | hx
        · exact h.val x hx
        · simp at hx; subst hx; exact hr
      · rw [List.pairwise_append]
        refine ⟨h.sep, by simp, fun x hx y hy => ?_⟩
        simp at hy; subst hy
        rcases List.mem_append.1 hx with hx | hx
        · have := hsep.2.2 x hx p (by simp); omega
        · simp at hx; subst hx; omega
      · intro x hx
        rcases List.mem_append.1 hx with hx | hx
        · exact hlow x hx
        · simp at hx; subst hx; exact Nat.le_refl _
      · rw [mem_addrs, mem_addrs]
        constructor
        · rintro ⟨x, hx, h1, h2⟩
          rcases List.mem_append.1 hx with hx | hx
          · exact .inl ⟨x, hx, h1, h2⟩
          · simp at hx; subst hx; exact .inr ⟨h1, h2⟩
        · rintro (⟨x, hx, h1, h2⟩ | ⟨h1, h2⟩)
          · exact ⟨x, List.mem_append.2 (.inl hx), h1, h2⟩
          · exact ⟨r, by simp, h1, h2⟩

theorem canon_foldl (l : List (Nat × Nat)) : ∀ out, Canon out → (∀ x ∈ l, x.1 ≤ x.2) → SortedLow l → (∀ x ∈ out, ∀ y ∈ l, x.1 ≤ y.1) →
    Canon (l.foldl joinStep out) ∧ ∀ a, a ∈ addrsOf (l.foldl joinStep out) ↔ a ∈ addrsOf out ∨ a ∈ addrsOf l := by
  induction l with
  | nil => intro out h _ _ _; exact ⟨h, fun a => by simp [addrsOf]⟩
  | cons r l ih =>
    intro out h hv hs hlow
    obtain ⟨h1, h2, h3⟩ := canon_step (r := r) h (hv r (by simp)) (fun x hx => hlow x hx r (by simp))
    have hs' := List.pairwise_cons.1 hs
    obtain ⟨g1, g2⟩ := ih (joinStep out r) h1 (fun x hx => hv x (by simp [hx])) hs'.2 (fun x hx y hy => Nat.le_trans (h2 x hx) (hs'.1 y hy))
    refine ⟨g1, fun a => (g2 a).trans ?_⟩
    rw [h3 a]
    have e : a ∈ addrsOf (r :: l) ↔ (r.1 ≤ a ∧ a ≤ r.2) ∨ a ∈ addrsOf l := by
      rw [mem_addrs, mem_addrs]; simp
    rw [e]
    simp only [or_assoc]

theorem join_canon {l : List (Nat × Nat)} (hv : ∀ x ∈ l, x.1 ≤ x.2) (hs : SortedLow l) : Canon (joinL l) ∧ ∀ a, a ∈ addrsOf (joinL l) ↔ a ∈ addrsOf l := by
  obtain ⟨h1, h2⟩ := canon_foldl l [] Canon.nil hv hs (by simp)
  exact ⟨h1, fun a => (h2 a).trans (by simp [addrsOf])⟩

/-- A canonical list is known by its addresses. -/
theorem canon_unique : ∀ (l m : List (Nat × Nat)), Canon l → Canon m → (∀ a, a ∈ addrsOf l ↔ a ∈ addrsOf m) → l = m := by
  intro l
  induction l with
  | nil =>
    intro m _ hm h
    cases m with
    | nil => rfl
    | cons y m => exact absurd ((h y.1).2 (mem_addrs.2 ⟨y, by simp, Nat.le_refl _, hm.val y (by simp)⟩)) (by simp [addrsOf])
  | cons x l ih =>
    intro m hl hm h
    cases m with
    | nil => exact absurd ((h x.1).1 (mem_addrs.2 ⟨x, by simp, Nat.le_refl _, hl.val x (by simp)⟩)) (by simp [addrsOf])
    | cons y m =>
      have hx := hl.val x (by simp)
      have hy := hm.val y (by simp)
      have sx := (List.pairwise_cons.1 hl.sep).1
      have sy := (List.pairwise_cons.1 hm.sep).1
      have inx : ∀ a, a ∈ addrsOf (x :: l) ↔ (x.1 ≤ a ∧ a ≤ x.2) ∨ a ∈ addrsOf l := fun a => by rw [mem_addrs, mem_addrs]; simp
      have iny : ∀ a, a ∈ addrsOf (y :: m) ↔ (y.1 ≤ a ∧ a ≤ y.2) ∨ a ∈ addrsOf m := fun a => by rw [mem_addrs, mem_addrs]; simp
      have bx : ∀ a, a ∈ addrsOf l → x.2 + 1 < a := fun a ha => by
        obtain ⟨z, hz, h1, _⟩ := mem_addrs.1 ha
        have := sx z hz; omega
      have by' : ∀ a, a ∈ addrsOf m → y.2 + 1 < a := fun a ha => by
        obtain ⟨z, hz, h1, _⟩ := mem_addrs.1 ha
        have := sy z hz; omega
      have e1 : x.1 = y.1 := by
        have a1 := (iny x.1).1 ((h x.1).1 ((inx x.1).2 (.inl ⟨Nat.le_refl _, hx⟩)))
        have a2 := (inx y.1).1 ((h y.1).2 ((iny y.1).2 (.inl ⟨Nat.le_refl _, hy⟩)))
        rcases a1 with a1 | a1
        · rcases a2 with a2 | a2
          · omega
          · have := bx _ a2; omega
        · have b1 := by' _ a1
          rcases a2 with a2 | a2
          · omega
          · have := bx _ a2; omega
      have e2 : x.2 = y.2 := by
        rcases Nat.lt_trichotomy x.2 y.2 with hlt | heq | hgt
        · have := (inx (x.2 + 1)).1 ((h _).2 ((iny (x.2 + 1)).2 (.inl ⟨by omega, by omega⟩)))
          rcases this with a | a
          · omega
          · have := bx _ a; omega
        · exact heq
        · have := (iny (y.2 + 1)).1 ((h _).1 ((inx (y.2 + 1)).2 (.inl ⟨by omega, by omega⟩)))
          rcases this with a | a
          · omega
          · have := by' _ a; omega
      have e : x = y := Prod.ext e1 e2
      subst e
      rw [ih m hl.tail hm.tail fun a => ?_]
      constructor
      · intro ha
        have b := bx _ ha
        rcases (iny a).1 ((h a).1 ((inx a).2 (.inr ha))) with c | c
        · omega
        · exact c
      · intro ha
        have b := by' _ ha
        rcases (inx a).1 ((h a).2 ((iny a).2 (.inr ha))) with c | c
        · omega
        · exact c

/-- What is the same of any two answers that were made of the same addresses. -/
theorem pool_det {l m ol om : List (Nat × Nat)} {c d : Int} (hl : PoolRes l ol c) (hm : PoolRes m om d) (h : ∀ x, x ∈ l ↔ x ∈ m) : ol = om ∧ c = d := by
  rcases hl with ⟨⟨x, hx, hb⟩, rfl, rfl⟩ | ⟨l', hv, hp, hs, hl⟩
  · rcases hm with ⟨_, rfl, rfl⟩ | ⟨m', mv, _⟩
    · exact ⟨rfl, rfl⟩
    · exact absurd (mv x ((h x).1 hx)) (by omega)
  · rcases hm with ⟨⟨y, hy, hb⟩, _⟩ | ⟨m', mv, mp, ms, hm⟩
    · exact absurd (hv y ((h y).2 hy)) (by omega)
    · obtain ⟨c1, c2⟩ := join_canon (fun x hx => hv x (hp.mem_iff.1 hx)) hs
      obtain ⟨d1, d2⟩ := join_canon (fun x hx => mv x (mp.mem_iff.1 hx)) ms
      have e : joinL l' = joinL m' := canon_unique _ _ c1 d1 fun a => by
        rw [c2, d2, mem_addrs, mem_addrs]
        constructor
        · rintro ⟨x, hx, hh⟩; exact ⟨x, mp.mem_iff.2 ((h x).1 (hp.mem_iff.1 hx)), hh⟩
        · rintro ⟨x, hx, hh⟩; exact ⟨x, hp.mem_iff.2 ((h x).2 (mp.mem_iff.1 hx)), hh⟩
      rw [e] at hl
      rcases hl with ⟨h1, rfl, rfl⟩ | ⟨h1, rfl, rfl⟩ <;> rcases hm with ⟨h2, rfl, rfl⟩ | ⟨h2, rfl, rfl⟩
      · exact ⟨rfl, rfl⟩
      · omega
      · omega
      · exact ⟨rfl, rfl⟩

/-- What is answered without an error is canonical, and has at most 256 addresses. -/
theorem pool_ok {l ol : List (Nat × Nat)} (h : PoolRes l ol 0) : Canon ol ∧ (addrsOf ol).length ≤ 256 ∧ ∀ a, a ∈ addrsOf ol ↔ a ∈ addrsOf l := by
  rcases h with ⟨_, _, h⟩ | ⟨l', hv, hp, hs, ⟨_, _, h⟩ | ⟨hn, rfl, _⟩⟩
  · cases h
  · cases h
  · obtain ⟨c1, c2⟩ := join_canon (fun x hx => hv x (hp.mem_iff.1 hx)) hs
    refine ⟨c1, hn, fun a => (c2 a).trans ?_⟩
    rw [mem_addrs, mem_addrs]
    constructor
    · rintro ⟨x, hx, hh⟩; exact ⟨x, hp.mem_iff.1 hx, hh⟩
    · rintro ⟨x, hx, hh⟩; exact ⟨x, hp.mem_iff.2 hx, hh⟩

/-- The pool of a pool is this pool. -/
theorem pool_self {ol om : List (Nat × Nat)} {c : Int} (h : Canon ol) (hn : (addrsOf ol).length ≤ 256) (hp : PoolRes ol om c) : om = ol ∧ c = 0 := by
  rcases hp with ⟨⟨x, hx, hb⟩, _⟩ | ⟨l', hv, hp, hs, hr⟩
  · exact absurd (h.val x hx) (by omega)
  · obtain ⟨c1, c2⟩ := join_canon (fun x hx => hv x (hp.mem_iff.1 hx)) hs
    have e : joinL l' = ol := canon_unique _ _ c1 h fun a => by
      rw [c2, mem_addrs, mem_addrs]
      constructor
      · rintro ⟨x, hx, hh⟩; exact ⟨x, hp.mem_iff.1 hx, hh⟩
      · rintro ⟨x, hx, hh⟩; exact ⟨x, hp.mem_iff.2 hx, hh⟩
    rw [e] at hr
    rcases hr with ⟨h1, _, _⟩ | ⟨_, h1, h2⟩
    · omega
    · exact ⟨h1, h2⟩

theorem pool_len {l ol : List (Nat × Nat)} {c : Int} (h : PoolRes l ol c) : ol.length ≤ l.length := by
  rcases h with ⟨_, rfl, _⟩ | ⟨l', hv, hp, hs, ⟨_, rfl, _⟩ | ⟨_, rfl, _⟩⟩
  · simp
  · simp
  · rw [← hp.length_eq]; exact joinL_len l'

theorem pool_bad {l ol : List (Nat × Nat)} {c : Int} (h : PoolRes l ol c) (hc : c ≠ 0) : ol = [] := by
  rcases h with ⟨_, h, _⟩ | ⟨l', hv, hp, hs, ⟨_, h, _⟩ | ⟨_, _, h⟩⟩
  · exact h
  · exact h
  · exact absurd h hc

theorem pool_code {l ol : List (Nat × Nat)} {c : Int} (h : PoolRes l ol c) : c = 0 ∨ c = 1 ∨ c = 3 := by
  rcases h with ⟨_, _, h⟩ | ⟨l', hv, hp, hs, ⟨_, _, h⟩ | ⟨_, _, h⟩⟩
  · exact .inr (.inl h)
  · exact .inr (.inr h)
  · exact .inl h

end Go.Proofs.Ytjkkdmfpekkfhaa
