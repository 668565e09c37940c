/- Arguments that are rows of slices of bytes, opened. -/
import Derived.Test.YtdeahiccgjldbaaRowByt
import Derived.Test.YtdeahiccgjldbaaFrmM
namespace Go.Proofs.Ytdeahiccgjldbaa
open Go.ChangeShapes Go.WideShapes Go.ChangeAt Go.RowKit Go.Deep

theorem readL : Try.prog.readableRec 41 = true ∧ 41 < Try.prog.types.size := ⟨by kernel_rfl, of_decide_eq_true (by kernel_rfl)⟩

section
variable {H : Type} {enc : TypeId × Value → H}

theorem open_slices {W : World} {fuel : Nat} {v : Value} {x : DataW H × List MemPlace} (h : DataW.trod enc Try.prog W 0 (fun _ => true) true fuel 41 [v] = some x) :
    ∃ A c L, v = .slice A L.length c ∧ Ls W W.heap.size A L ∧ L.length ≤ maxLen ∧ L.length ≤ c := by
  rcases open_slice Try.underlying41 h with ⟨hc, _⟩ | ⟨a, len, cap, m, k, D, Pl, hc, _, hl, hm, hmm, _, hall⟩
  · obtain rfl : v = .slice none 0 0 := by simpa using hc
    exact ⟨none, 0, [], rfl, Ls.nil, Nat.zero_le _, Nat.le_refl _⟩
  · obtain rfl : v = .slice (some a) len cap := by simpa using hc
    simp at hmm
    subst hmm
    rw [cellsS] at hall
    have each : ∀ i, i < len → ∃ y : SlV, W.cell? (a.add i) = some y.v ∧ By W W.heap.size y.ad y.data ∧ y.data.length ≤ y.cap := by
      intro i hi
      obtain ⟨cs', h1, h2⟩ := hall i (by omega)
      obtain ⟨_, hlen, hat⟩ := World.cells?_some h1
      match cs', hlen with
      | [v0], _ =>
        have h3 := hat 0 (by omega)
        obtain ⟨A', c', l', k2, hby, _, hcap⟩ := open_bytes h2
        subst k2
        exact ⟨⟨A', c', l'⟩, by simpa [Addr.add] using h3, hby, hcap⟩
    obtain ⟨f, hf⟩ := choose_lt each
    refine ⟨some a, m, (List.range len).map f, by simp, ⟨fun i x hx => ?_, fun x hx => ?_, fun x hx => ?_⟩, by simp; omega, by simpa using hl⟩
    · have hi : i < len := by have := (List.getElem?_eq_some_iff.1 hx).1; simpa using this
      obtain rfl : f i = x := by simpa [hi] using hx
      obtain ⟨b, o, rfl, hb⟩ := spot_none (hf 0 (by omega)).1
      have hc' := (hf i hi).1
      rw [add_at] at hc'
      exact ⟨b, o, rfl, hb, hc'⟩
    · obtain ⟨i, hi, rfl⟩ := List.mem_map.1 hx
      exact (hf i (List.mem_range.1 hi)).2.1
    · obtain ⟨i, hi, rfl⟩ := List.mem_map.1 hx
      exact (hf i (List.mem_range.1 hi)).2.2
end
end Go.Proofs.Ytdeahiccgjldbaa
