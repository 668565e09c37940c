/- A map whose keys are integers, as a function of its keys. (Names no function of the program: the kind is a letter.) -/
import Derived.Test.YtekladmddfibaaaMapG
import Derived.Below
import Derived.Deep.Draws
namespace Go.Proofs.Ytekladmddfibaaa
open Go.Maps Go.RowKit

/-- A kind of maps from κ to X. -/
structure FnKd (P : Program) (κ X : Type) where
  K : MapKd P (κ × X)
  kof : κ → Int
  vof : X → Value
  inj : ∀ a b, kof a = kof b → a = b
  hk : ∀ p, K.key p = kof p.1
  hv : ∀ p, K.val p = vof p.2
def putF {κ X : Type} [DecidableEq κ] (f : κ → Option X) (k : κ) (x : X) : κ → Option X := fun j => if j = k then some x else f j
/-- Block b is a map that holds f; its keys are below 2^32. -/
structure FnKd.Holds {P : Program} {κ X : Type} (F : FnKd P κ X) (w : World) (b : Nat) (f : κ → Option X) : Prop where
  ex : ∃ S, F.K.Has w b S ∧ (∀ p ∈ S, 0 ≤ F.kof p.1 ∧ F.kof p.1 < 4294967296) ∧ ∀ k x, f k = some x ↔ (k, x) ∈ S
section
variable {P : Program} {κ X : Type} {F : FnKd P κ X} {w w' : World} {b : Nat} {f : κ → Option X}
theorem FnKd.Holds.made (F : FnKd P κ X) (w : World) : F.Holds (w.alloc (.map #[] 0)) w.heap.size (fun _ => none) := ⟨[], MapKd.Has.made w, by simp, fun k x => by simp⟩
theorem FnKd.Holds.lt (h : F.Holds w b f) : b < w.heap.size := by
  obtain ⟨S, h1, _⟩ := h.ex
  exact h1.lt
theorem FnKd.Holds.block (h : F.Holds w b f) (hb : w'.heap[b]? = w.heap[b]?) : F.Holds w' b f := by
  obtain ⟨S, h1, h2, h3⟩ := h.ex
  exact ⟨S, h1.block hb, h2, h3⟩
theorem FnKd.Holds.drewN (h : F.Holds w b f) (m : Nat) : F.Holds (w.drewN m) b f := h.block rfl
theorem FnKd.Holds.drew (h : F.Holds w b f) : F.Holds w.drew b f := h.block rfl
theorem FnKd.Holds.later {B : Nat} (h : F.Holds w b f) (hb : Below B w w') (hB : b < B) : F.Holds w' b f := h.block (hb.block b hB)
theorem FnKd.Holds.kept {row : Option Nat} (h : F.Holds w b f) (hg : w.grownBy w' row) (hne : some b ≠ row) : F.Holds w' b f := by
  obtain ⟨S, h1, h2, h3⟩ := h.ex
  exact ⟨S, h1.kept hg hne, h2, h3⟩
theorem FnKd.find {S : List (κ × X)} (h3 : ∀ k x, f k = some x ↔ (k, x) ∈ S) (k : κ) : (F.K.findM S (F.kof k)).map Prod.snd = f k := by
  unfold MapKd.findM
  cases hf : S.find? (fun p => decide (F.K.key p = F.kof k)) with
  | none =>
    cases hk : f k with
    | none => rfl
    | some x =>
      have := List.find?_eq_none.1 hf (k, x) ((h3 k x).1 hk)
      rw [F.hk] at this
      simp at this
  | some p =>
    have h1 := List.mem_of_find?_eq_some hf
    have h2 := List.find?_some hf
    rw [F.hk] at h2
    have h4 : p.1 = k := F.inj _ _ (of_decide_eq_true h2)
    have h5 : (k, p.2) ∈ S := by rw [← h4]; exact h1
    exact ((h3 k p.2).2 h5).symm
theorem FnKd.is {S : List (κ × X)} (h3 : ∀ k x, f k = some x ↔ (k, x) ∈ S) (k : κ) : F.K.isM S (F.kof k) = (f k).isSome := by
  unfold MapKd.isM
  rw [Bool.eq_iff_iff, List.any_eq_true]
  constructor
  · rintro ⟨p, hp, h⟩
    rw [F.hk] at h
    have h4 : p.1 = k := F.inj _ _ (of_decide_eq_true h)
    have h5 : (k, p.2) ∈ S := by rw [← h4]; exact hp
    rw [(h3 k p.2).2 h5]
    rfl
  · intro h
    obtain ⟨x, hx⟩ := Option.isSome_iff_exists.1 h
    refine ⟨(k, x), (h3 k x).1 hx, ?_⟩
    rw [F.hk]
    exact decide_eq_true rfl
/-- What is read at a key. -/
def FnKd.valF (F : FnKd P κ X) : Option X → Value
  | some x => F.vof x
  | none => F.K.zero
theorem FnKd.at_ {S : List (κ × X)} (h3 : ∀ k x, f k = some x ↔ (k, x) ∈ S) (k : κ) : F.K.at_ S (F.kof k) = F.valF (f k) := by
  have h := FnKd.find (F := F) h3 k
  unfold MapKd.at_
  cases hf : F.K.findM S (F.kof k) with
  | none => rw [hf] at h; rw [← h]; rfl
  | some p => rw [hf] at h; rw [← h]; exact F.hv p
theorem FnKd.Holds.look (h : F.Holds w b f) (k : κ) (hn : (Lit.int F.K.q (F.kof k)).wf = true) : (Instr.lookup F.K.t (.map (some b)) (.int F.K.q (F.kof k)) false).run P w = .ok (F.valF (f k)) w := by
  obtain ⟨S, h1, _, h3⟩ := h.ex
  rw [h1.look _ hn, FnKd.at_ h3]
theorem FnKd.Holds.look_ok (h : F.Holds w b f) (k : κ) (hn : (Lit.int F.K.q (F.kof k)).wf = true) : (Instr.lookup F.K.t (.map (some b)) (.int F.K.q (F.kof k)) true).run P w = .ok (.tuple #[F.valF (f k), .bool (f k).isSome]) w := by
  obtain ⟨S, h1, _, h3⟩ := h.ex
  rw [h1.look_ok _ hn, FnKd.at_ h3, FnKd.is h3]
theorem FnKd.len_few : ∀ (S : List (κ × X)) (n : Int), n ≤ 4294967296 → (S.Pairwise fun p q => F.kof p.1 < F.kof q.1) → (∀ p ∈ S, n ≤ F.kof p.1 ∧ F.kof p.1 < 4294967296) → (S.length : Int) + n ≤ 4294967296
  | [], n, h, _, _ => by simpa using h
  | p :: r, n, h, hp, hr => by
    obtain ⟨h1, h2⟩ := List.pairwise_cons.1 hp
    obtain ⟨h3, h4⟩ := hr p (by simp)
    have := FnKd.len_few r (F.kof p.1 + 1) (by omega) h2 fun q hq => ⟨h1 q hq, (hr q (by simp [hq])).2⟩
    rw [List.length_cons]
    omega
theorem FnKd.put_mem {S : List (κ × X)} {p q : κ × X} : q ∈ F.K.putM S p ↔ q = p ∨ (q ∈ S ∧ q.1 ≠ p.1) := by
  unfold MapKd.putM
  rw [MapKd.mem_insM, List.mem_filter, F.hk, decide_eq_true_eq, F.hk]
  constructor
  · rintro (h | ⟨h, h2⟩)
    · exact .inl h
    · exact .inr ⟨h, fun e => h2 (by rw [e])⟩
  · rintro (h | ⟨h, h2⟩)
    · exact .inl h
    · exact .inr ⟨h, fun e => h2 (F.inj _ _ e)⟩
/-- What is put. -/
theorem FnKd.Holds.put [DecidableEq κ] (h : F.Holds w b f) (k : κ) (x : X) (hwf : (Lit.int F.K.q (F.kof k)).wf = true) (h0 : 0 ≤ F.kof k) (hn : F.kof k < 4294967296) : ∃ w', (Instr.mapUpdate F.K.t (.map (some b)) (.int F.K.q (F.kof k)) (F.vof x)).run P w = .ok () w' ∧ F.Holds w' b (putF f k x) ∧ w.grownBy w' (some b) := by
  obtain ⟨S, h1, h2, h3⟩ := h.ex
  have hl := FnKd.len_few (F := F) S 0 (by omega) (h1.2.up.imp fun {p q} e => by rwa [F.hk, F.hk] at e) h2
  obtain ⟨w', r1, r2, r3⟩ := h1.store (by unfold maxLen; omega) (k, x) (by rw [F.hk]; exact hwf)
  rw [F.hk, F.hv] at r1
  refine ⟨w', r1, ⟨F.K.putM S (k, x), r2, fun p hp => ?_, fun j y => ?_⟩, r3⟩
  · rcases FnKd.put_mem.1 hp with rfl | ⟨hp, _⟩
    · exact ⟨h0, hn⟩
    · exact h2 p hp
  · rw [FnKd.put_mem, Prod.mk.injEq]
    unfold putF
    by_cases hj : j = k
    · rw [if_pos hj]
      constructor
      · intro e
        exact .inl ⟨hj, (Option.some.inj e).symm⟩
      · rintro (⟨_, e⟩ | ⟨_, e⟩)
        · rw [e]
        · exact absurd hj e
    · rw [if_neg hj, h3]
      constructor
      · intro e
        exact .inr ⟨e, hj⟩
      · rintro (⟨e, _⟩ | ⟨e, _⟩)
        · exact absurd e hj
        · exact e
end
end Go.Proofs.Ytekladmddfibaaa
