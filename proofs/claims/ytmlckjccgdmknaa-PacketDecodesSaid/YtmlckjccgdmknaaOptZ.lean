/- Noughts appended to a row of bytes (append of a make). -/
import Derived.Test.YtmlckjccgdmknaaOptK
import Derived.Test.YtmlckjccgdmknaaOptN
import Derived.Lib.AppendZeros
namespace Go.Proofs.Ytmlckjccgdmknaa
open Go.RowKit

theorem zeros_list (n : Nat) : (Builtin.zeroCells #[.int .u8 0] n).toList = bcells (List.replicate n 0) := by
  have e : bV 0 = .int .u8 0 := rfl
  simp only [bcells, List.map_replicate, e]
  apply List.ext_getElem?
  intro j
  by_cases hj : j < n
  · simp [Builtin.zeroCells, hj, Nat.mod_one]
  · simp [Builtin.zeroCells, hj]

theorem run_zeros (w : World) (base ty g m cap n : Nat) (xs : List Value) (hown : w.ownsRow base 5 1 (.slice (some ⟨g, 0, none⟩) m cap) m xs) (hsz : m + n ≤ 1048576) (hbase : base ≤ w.heap.size) :
    ∃ A' c' w', (Builtin.append_ #[24, 3] ty #[.slice (some ⟨g, 0, none⟩) m cap, .int .i64 (n : Int)]).run Try.prog w = .ok (.slice A' (m + n) c') w' ∧
      w'.ownsRow base 5 1 (.slice A' (m + n) c') (m + n) (xs ++ bcells (List.replicate n 0)) ∧ w.grownBy w' (some g) := by
  obtain ⟨i, hi, hz0, hz1, hz2⟩ := info_parts Try.infoB
  have hw : IntKind.i64.wrap (n : Int) = n := by rw [IntKind.wrap_i64]; omega
  have hneg : ¬ ((n : Int) < 0) := by omega
  have h48i : ¬ (281474976710656 < (n : Int)) := by omega
  rcases hown.2 with ⟨h', _⟩ | ⟨g', cap', cur, h', hbg, hg, hnc, hcm, hcs, htake⟩
  · simp at h'
  simp only [Value.slice.injEq, Option.some.injEq, Addr.mk.injEq, and_true, true_and] at h'
  obtain ⟨rfl, rfl⟩ := h'
  have hlen := hown.1
  by_cases hn : n = 0
  · subst hn
    refine ⟨some ⟨g, 0, none⟩, cap, w, ?_, by simpa [bcells] using hown, World.grownBy.refl w _⟩
    have hw0 : IntKind.i64.wrap 0 = 0 := by decide
    simp [Builtin.append_, run_underlying Try.underlying24, run_underlying Try.underlying3, sizeOf, typeInfo, hi, hz2, asInt, asIntOf, hnc, storeCells, hw0]
  · by_cases hroom : m + n ≤ cap
    · have hst := run_storeCells_at Try.prog g m 5 (bcells (List.replicate n 0)) 0 cur w hg (by rw [bcells_length]; simp; omega) (bcells_one _)
      simp only [Nat.add_zero] at hst
      rw [← zeros_list] at hst
      refine ⟨some ⟨g, 0, none⟩, cap, w.setRow g (cur.toList.take m ++ bcells (List.replicate n 0) ++ cur.toList.drop (m + (bcells (List.replicate n 0)).length)).toArray, ?_, ⟨?_, .inr ⟨g, cap, _, rfl, hbg, setRow_heap w g cur _ _ _ hg, hroom, hcm, ?_, ?_⟩⟩, ⟨rfl, rfl, rfl, by simp, fun k _ hk => setRow_other w g k _ (fun e => hk (by simp [e]))⟩⟩
      · have hz : (Value.int IntKind.u8 0).cells = #[.int .u8 0] := rfl
        rw [← zeros_list]
        simp [Builtin.append_, run_underlying Try.underlying24, run_underlying Try.underlying3, sizeOf, typeInfo, zeroValue, hi, hz0, hz1, hz2, asInt, asIntOf, hw, hneg, hn, h48i, hroom, Addr.add_lit, hz, hst]
      · rw [List.length_append, bcells_length, hlen]; simp
      · simp only [List.size_toArray, List.length_append, List.length_take, List.length_drop, Array.length_toList, bcells_length, List.length_replicate]
        omega
      · rw [Nat.mul_one] at htake hcs ⊢
        rw [htake]
        have h1 : (xs ++ bcells (List.replicate n 0)).length = m + n := by rw [List.length_append, bcells_length, hlen]; simp
        rw [← h1]
        exact List.take_left
    · have hz : (Value.int IntKind.u8 0).cells = #[.int .u8 0] := rfl
      have h63' : ¬ (9223372036854775807 < (m : Int) + (n : Int)) := by omega
      have h48' : ¬ (281474976710656 < Builtin.nextslicecap (m + n) cap) := by
        have := growslice_fits (need := m + n) (old := cap) (bytes := 1) (by omega) (by omega)
        omega
      have hfo := run_firstCells_some (P := Try.prog) w.drew 1 m ⟨g, 0, none⟩ m cap xs hlen (fun j u hu => hown.cells (g := g) rfl j u hu)
      have hge := grownCap_ge w (m + n) cap 5
      refine ⟨some ⟨w.heap.size, 0, none⟩, grownCap w (m + n) cap 5, w.drew.alloc (.cells (xs.toArray ++ Builtin.zeroCells #[.int .u8 0] n ++ Builtin.zeroCells #[.int .u8 0] (grownCap w (m + n) cap 5 - (m + n))) 5), ?_, ⟨?_, .inr ⟨w.heap.size, grownCap w (m + n) cap 5, _, rfl, hbase, heap_alloc_new w.drew _, hge, grownCap_le_maxLen _ _ _ _ (by unfold maxLen; omega), ?_, ?_⟩⟩, ?_⟩
      · simp [Builtin.append_, run_underlying Try.underlying24, run_underlying Try.underlying3, sizeOf, typeInfo, zeroValue, hi, hz0, hz1, hz2, asInt, asIntOf, hw, hneg, hn, h48i, hroom, h63', h48', Question.forced, hfo, hz, newRow, grownCap]
      · rw [List.length_append, bcells_length, hlen]; simp
      · simp [Builtin.zeroCells]
        omega
      · rw [Nat.mul_one, Array.toList_append, Array.toList_append, zeros_list]
        have h1 : (xs ++ bcells (List.replicate n 0)).length = m + n := by rw [List.length_append, bcells_length, hlen]; simp
        exact List.take_left' h1
      · have hgr := World.grownBy_alloc w.drew (.cells (xs.toArray ++ Builtin.zeroCells #[.int .u8 0] n ++ Builtin.zeroCells #[.int .u8 0] (grownCap w (m + n) cap 5 - (m + n))) 5) (some g)
        exact ⟨hgr.os, hgr.tape, hgr.output, hgr.size, hgr.block⟩
end Go.Proofs.Ytmlckjccgdmknaa
