/- A row of elements, sorted by the library's sort of elements of some cells: what the row holds ahead of it, and behind it. (Names no function and no type of the program.) -/
import Derived.Test.YtmaohnbddlccdaaGreatMrgBasM
import Derived.Shelf.SlSortCmp.WholeK
import Derived.Shelf.SlSortCmp.NoneTotal
namespace Go.Proofs.YtmaohnbddlccdaaGreat
open Go.RowKit Go.Sort Go.Shelf

section
variable {P : Program} {V : Type} [Inhabited V] {E : Elem P V} {w0 w : World} {l : List V}
theorem arr_at (l : List V) (i : Nat) (h : i < l.length) : l.toArray[i]! = l[i] := by
  rw [getElem!_pos _ i (by simpa using h)]; simp
theorem flat_cells (E : Elem P V) (l : List V) : (flatK E.cells E.m l.toArray).toList = ecells E l := by
  have hm := E.hm
  apply List.ext_getElem
  · rw [Array.length_toList, size_flatK, ecells_length]
    simp
  · intro t h1 h2
    rw [Array.length_toList, size_flatK, List.size_toArray] at h1
    have hi : t / E.m < l.length := Nat.div_lt_of_lt_mul (by rw [Nat.mul_comm]; exact h1)
    have hk : t % E.m < E.m := Nat.mod_lt _ hm
    have hk2 : t % E.m < (E.cells l[t / E.m]).length := by rw [E.len]; exact hk
    have hx := ecells_at E l (t / E.m) (t % E.m) l[t / E.m] ((E.cells l[t / E.m])[t % E.m]) (List.getElem?_eq_getElem hi) (List.getElem?_eq_getElem hk2)
    rw [show t / E.m * E.m + t % E.m = t by rw [Nat.mul_comm]; exact Nat.div_add_mod t E.m] at hx
    rw [(List.getElem?_eq_some_iff.1 hx).2]
    have hf := get_flatK E.cells E.m l.toArray t (by simpa using h1)
    rw [getElem!_pos (flatK E.cells E.m l.toArray) t (by rw [size_flatK]; simpa using h1), arr_at l _ hi, getElem!_pos (E.cells l[t / E.m]) (t % E.m) hk2] at hf
    rw [Array.getElem_toList]
    exact hf
/-- Ahead of the sort. -/
theorem RowE.holds {p : Option Addr} {c : Nat} (h : RowE E w0 w (.slice p l.length c) l) (hl : 0 < l.length) : ∃ g, p = some ⟨g, 0, none⟩ ∧ w0.heap.size ≤ g ∧ g < w.heap.size ∧ HoldsK E.cells E.m w g 0 l.toArray := by
  obtain ⟨hx, h2⟩ := h.own
  rcases h2 with ⟨h3, h4⟩ | ⟨g, cap, cur, he, hb, hh, hn, hc, hs, ht⟩
  · omega
  · injection he with he1 he2 he3
    subst he1
    refine ⟨g, rfl, hb, (Array.getElem?_eq_some_iff.1 hh).1, fun t hlt => ?_⟩
    have hlt2 : t < l.length * E.m := by
      have := hlt
      rw [size_flatK] at this
      simpa using this
    have hcell : cur[t]? = some (flatK E.cells E.m l.toArray)[t]! := by
      rw [← Array.getElem?_toList, getElem!_pos _ t hlt, ← Array.getElem_toList (by rw [Array.length_toList]; exact hlt)]
      have e1 : (ecells E l)[t]? = some (flatK E.cells E.m l.toArray).toList[t] := by
        rw [← flat_cells E l]
        exact List.getElem?_eq_getElem (by rw [Array.length_toList]; exact hlt)
      rw [← e1, ← ht, List.getElem?_take, if_pos hlt2]
    rw [Nat.zero_add]
    refine ⟨(cell_of_row w g t _ _ _ hh).trans hcell, ?_⟩
    simp [World.frozen?, hh]
/-- Behind it. -/
theorem RowE.sorted {g c : Nat} (h : RowE E w0 w (.slice (some ⟨g, 0, none⟩) l.length c) l) (n : Nat) (d : Array V) (os : Array Obj) (hd : d.size = l.length) :
    RowE E w0 (sortWorldK E.cells E.m w g 0 n d os) (.slice (some ⟨g, 0, none⟩) d.toList.length c) d.toList := by
  obtain ⟨hx, h2⟩ := h.own
  have hdl : d.toList.length = l.length := by rw [Array.length_toList, hd]
  rcases h2 with ⟨h3, _⟩ | ⟨g', cap, cur, he, hb, hh, hn, hc, hs, ht⟩
  · cases h3
  · injection he with he1 he2 he3
    injection he1 with he1
    injection he1 with he1 _ _
    subst he1 he3
    have hg := (Array.getElem?_eq_some_iff.1 hh).1
    have hheap : ∀ j, j < w.heap.size → (sortWorldK E.cells E.m w g 0 n d os).heap[j]? = (w.heap.modify g (onCells (Go.Sort.putCells id 0 (flatK E.cells E.m d))))[j]? := by
      intro j hj
      show ((w.heap.modify g _) ++ os)[j]? = _
      rw [Array.getElem?_append_left (by simpa using hj)]
    have hfl : (flatK E.cells E.m d).toList = ecells E d.toList := by
      have := flat_cells E d.toList
      rwa [Array.toArray_toList] at this
    have hfs : (flatK E.cells E.m d).size = l.length * E.m := by rw [size_flatK, hd]
    have hle : l.length * E.m ≤ c * E.m := Nat.mul_le_mul_right _ hn
    refine ⟨⟨by rw [ecells_length], .inr ⟨g, c, Go.Sort.putCells id 0 (flatK E.cells E.m d) cur, rfl, hb, ?_, by rw [hdl]; exact hn, hc, by unfold Go.Sort.putCells; rw [Array.size_mapIdx, hs], ?_⟩⟩, ?_⟩
    · rw [hheap g hg, Array.getElem?_modify, if_pos rfl, hh]
      rfl
    · rw [hdl, ← hfl]
      apply List.ext_getElem
      · unfold Go.Sort.putCells
        simp only [List.length_take, Array.length_toList, Array.size_mapIdx, hs, hfs]
        exact Nat.min_eq_left hle
      · intro t h1 h2
        rw [Array.length_toList] at h2
        rw [List.getElem_take, Array.getElem_toList, Array.getElem_toList]
        unfold Go.Sort.putCells
        rw [Array.getElem_mapIdx, if_pos ⟨Nat.zero_le _, by rw [Nat.zero_add]; exact h2⟩, Nat.sub_zero, getElem!_pos _ t h2]
        rfl
    · refine h.low.trans ⟨rfl, rfl, rfl, ?_, fun j hj => ?_⟩
      · simp [sortWorldK, grow, putRowK, putRow, mapBlock]
      · rw [hheap j (Nat.lt_of_lt_of_le hj h.low.size), Array.getElem?_modify, if_neg (by omega)]
end
end Go.Proofs.YtmaohnbddlccdaaGreat
