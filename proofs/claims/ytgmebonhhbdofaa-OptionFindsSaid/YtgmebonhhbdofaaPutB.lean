/- option.Put. -/
import Derived.Test.YtgmebonhhbdofaaPutR
import Derived.Test.YtgmebonhhbdofaaOptK
namespace Go.Proofs.Ytgmebonhhbdofaa
open Go.RowKit Go.Shelf
attribute [local go_sem] Oper.semAt_some

/-- What becomes of an option that is not removed. -/
def outP (data : List UInt8) (at_ : Int) (p : Nat × OptV) : Int × List UInt8 := if (p.1 : Int) = at_ then (p.2.code, data) else p.2.abs

theorem put_kept (L : List OptV) (code : Int) (data : List UInt8) (k : Nat) (hk : k ≤ L.length) :
    putF code data ((absL L).take k) = ((kept L (firstL (absL L) code) code k).map (outP data (firstL (absL L) code)), decide (0 ≤ firstL (absL L) code ∧ firstL (absL L) code < k)) := by
  have hfc := first_cases (absL L) code
  generalize firstL (absL L) code = at_ at *
  induction k with
  | zero =>
    have : decide (0 ≤ at_ ∧ at_ < ((0 : Nat) : Int)) = false := by simp
    rw [this]
    simp [putF, kept]
  | succ k ih =>
    obtain ⟨x, hx⟩ : ∃ x, L[k]? = some x := ⟨_, List.getElem?_eq_getElem (by omega)⟩
    rw [take_snoc_of _ _ _ (absL_at hx), putF_snoc, ih (by omega)]
    simp only [kept, hx]
    by_cases hc : x.code = code
    · have hat : ∃ k0 : Nat, at_ = k0 ∧ k0 ≤ k := by
        rcases hfc with ⟨_, h2⟩ | ⟨k0, y, h1, h2, h3, h4⟩
        · exact absurd hc (h2 x.abs (List.mem_of_getElem? (absL_at hx)))
        · refine ⟨k0, h1, ?_⟩
          rcases Nat.lt_or_ge k k0 with h | h
          · refine absurd hc (h4 x.abs ?_)
            rw [List.mem_iff_getElem?]
            exact ⟨k, by rw [List.getElem?_take, if_pos h]; exact absL_at hx⟩
          · exact h
      obtain ⟨k0, rfl, hk0⟩ := hat
      by_cases he : k0 = k
      · subst he
        have hrem : remB (k0 : Int) code k0 x = false := by simp [remB]
        rw [hrem]
        have d1 : decide (0 ≤ (k0 : Int) ∧ (k0 : Int) < ((k0 : Nat) : Int)) = false := by simp
        have d2 : decide (0 ≤ (k0 : Int) ∧ (k0 : Int) < ((k0 + 1 : Nat) : Int)) = true := by simp; omega
        rw [d1, d2]
        simp [putStep, OptV.abs, hc, outP]
      · have hrem : remB (k0 : Int) code k x = true := by simp [remB, hc]; omega
        rw [hrem]
        have d1 : decide (0 ≤ (k0 : Int) ∧ (k0 : Int) < ((k : Nat) : Int)) = true := by simp; omega
        have d2 : decide (0 ≤ (k0 : Int) ∧ (k0 : Int) < ((k + 1 : Nat) : Int)) = true := by simp; omega
        rw [d1, d2]
        simp [putStep, OptV.abs, hc]
    · have hrem : remB at_ code k x = false := by simp [remB, hc]
      have hne : (k : Int) ≠ at_ := by
        rcases hfc with ⟨h1, _⟩ | ⟨k0, y, h1, h2, h3, h4⟩
        · omega
        · intro e
          obtain rfl : k = k0 := by omega
          rw [absL_at hx] at h2
          obtain rfl := Option.some.inj h2
          exact hc h3
      rw [hrem]
      have d1 : decide (0 ≤ at_ ∧ at_ < ((k + 1 : Nat) : Int)) = decide (0 ≤ at_ ∧ at_ < ((k : Nat) : Int)) := by
        rw [decide_eq_decide]; omega
      rw [d1]
      simp [putStep, OptV.abs, hc, outP, hne]

theorem put_all (L : List OptV) (code : Int) (data : List UInt8) : putL (absL L) code data = (kept L (firstL (absL L) code) code L.length).map (outP data (firstL (absL L) code)) ++ (if firstL (absL L) code < 0 then [(code, data)] else []) := by
  have h := put_kept L code data L.length (Nat.le_refl _)
  rw [List.take_of_length_le (by rw [absL_length]; exact Nat.le_refl _)] at h
  unfold putL
  rw [h]
  rcases first_cases (absL L) code with ⟨h1, _⟩ | ⟨k0, y, h1, h2, _, _⟩
  · rw [h1]; simp
  · have hlt := (List.getElem?_eq_some_iff.1 h2).1
    rw [absL_length] at hlt
    rw [h1]
    have d : decide (0 ≤ (k0 : Int) ∧ (k0 : Int) < ((L.length : Nat) : Int)) = true := by simp; omega
    rw [d, if_neg (show ¬ (k0 : Int) < 0 by omega), List.append_nil]
    rfl

/-- A block of another type is written. -/
theorem Kb.setAny {n : Nat} {V V' : World} (h : Kb n V V') {b i : Nat} {cs : Array Value} {t : TypeId} {f : Nat × Nat} (hv : V'.heap[b]? = some (.cells cs t f)) (ht : t ≠ 5) (hb : n ≤ b) (u : Value) : Kb n V (V'.setCell ⟨b, i, none⟩ u) := by
  refine ⟨h.1.setCell hb u, fun k c f' hk => ?_⟩
  have h2 := h.2 k c f' hk
  refine (heap_setCell_other V' ⟨b, i, none⟩ k u (fun e => ?_)).trans h2
  subst e
  rw [hv] at h2
  injection h2 with h2
  injection h2 with _ ht'
  exact ht ht'

theorem ownAll_own (lo : Nat) : Own (fun (L : List OptV) V => OwnAll V lo L) := by
  intro L X Y row h hg hr x hx
  refine (h x hx).kept hg ?_
  rcases (h x hx).2 with ⟨e, _⟩ | ⟨g, cap, cur, e1, _, e3, _⟩
  · rw [e]; exact .inl rfl
  · rw [e1]
    refine .inr (fun e => ?_)
    obtain ⟨o, ho, hc⟩ := hr g (by rw [← e]; rfl)
    rw [e3] at ho
    cases ho
    simp [Obj.isCells] at hc

/-- What the body of Put keeps to. -/
def PutI (w W0 : World) (M ob : Nat) (L : List OptV) (at_ : Int) (data : List UInt8) (pre : List (Pl L)) (V : World) : Prop :=
  (∃ Lo : List OptV, absL Lo = pre.map (fun p => outP data at_ p.1) ∧ (∃ v, Boxed V ob 22 v ∧ V.ownsRow M 44 2 v Lo.length (ocells Lo) ∧ True) ∧ OwnAll V M Lo) ∧ Kq M ob W0 V ∧ Below w.heap.size w V

theorem putI_own (w W0 : World) {M ob : Nat} (L : List OptV) (at_ : Int) (data : List UInt8) (hw : w.heap.size ≤ M) (hM : M ≤ W0.heap.size) : OwnFrom M (PutI w W0 M ob L at_ data) := by
  rintro s X Y row ⟨⟨Lo, h1, h2, h3⟩, h4, h5⟩ hg hr
  refine ⟨⟨Lo, h1, holdsRow_own (β := List OptV) M ob _ _ 2 (fun s => s.length) (fun s => ocells s) (fun _ _ => True) Lo X Y row h2 hg (fun r e => (hr r e).2), ownAll_own M Lo X Y row h3 hg (fun r e => (hr r e).2)⟩, h4.grown hg (by have := h4.1; omega) (fun g e => .inl (hr g e).1), h5.grown hg h5.size (fun g e => by have := (hr g e).1; omega)⟩

end Go.Proofs.Ytgmebonhhbdofaa
