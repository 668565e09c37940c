/- Arguments that are texts, bytes, and arrays of bytes. -/
import Derived.Test.YtamdhljoamggeaaRowNum
import Derived.Test.YtamdhljoamggeaaBalM
import Derived.Laws.Cover2
namespace Go.Proofs.Ytamdhljoamggeaa
open Go.ChangeShapes Go.WideShapes Go.ChangeAt Go.RowKit
theorem readS : Try.prog.readableRec 9 = true ∧ 9 < Try.prog.types.size := ⟨by kernel_rfl, of_decide_eq_true (by kernel_rfl)⟩
theorem readU : Try.prog.readableRec 5 = true ∧ 5 < Try.prog.types.size := ⟨by kernel_rfl, of_decide_eq_true (by kernel_rfl)⟩
theorem readA : Try.prog.readableRec 25 = true ∧ 25 < Try.prog.types.size := ⟨by kernel_rfl, of_decide_eq_true (by kernel_rfl)⟩
theorem cellsA : Try.prog.cellsOf 25 = 32 := by kernel_rfl
theorem cellsU1 : Try.prog.cellsOf 5 = 1 := by kernel_rfl

section
variable {H : Type} {enc : TypeId × Value → H}
theorem bytes_of_cells (l : List Value) (h : ∀ i, i < l.length → ∃ n : Int, l[i]? = some (.int .u8 n) ∧ 0 ≤ n ∧ n < 256) : ∃ B : List Nat, l = cellsM B ∧ ∀ x ∈ B, x < 256 := by
  induction l with
  | nil => exact ⟨[], rfl, by simp⟩
  | cons v l ih =>
    obtain ⟨n, hn, h0, h1⟩ := h 0 (by simp)
    obtain ⟨B, hB, hlt⟩ := ih (fun i hi => by
      obtain ⟨m, hm, g0, g1⟩ := h (i + 1) (by simp; omega)
      exact ⟨m, by simpa using hm, g0, g1⟩)
    obtain ⟨k, rfl⟩ := Int.eq_ofNat_of_zero_le h0
    simp only [List.getElem?_cons_zero, Option.some.injEq] at hn
    refine ⟨k :: B, by rw [hn, hB]; rfl, ?_⟩
    intro x hx
    rcases List.mem_cons.1 hx with rfl | hx
    · omega
    · exact hlt x hx
theorem open_mask {W : World} {b0 : Nat} {r : Reach} {v : Value} {d : DataW H} {ps : List MemPlace} (hv : Value.okWide Try.prog W r b0 25 v) (h : DataW.Trod enc Try.prog W 0 (fun _ => true) true 25 v d ps) :
    ∃ B, v = maskV B ∧ IsM B := by
  have hu : Try.prog.underlying 25 = some (.array 32 5) := by kernel_rfl
  have hu8 : Try.prog.underlying 5 = some (.int .u8) := by kernel_rfl
  simp only [Value.okWide, hu] at hv
  obtain ⟨cs, rfl, hsz, _⟩ := hv
  obtain ⟨fuel, hf⟩ := h
  obtain ⟨xs, n, _, _, hc, hlen, hg⟩ := DataW.trod_array hu hf
  have hl : cs.toList.length = 32 := by rw [cellsA] at hc; simpa [Value.cells] using hc
  obtain ⟨B, hB, hlt⟩ := bytes_of_cells cs.toList (fun i hi => by
    have g := hg i (by omega)
    rw [cellsU1, Nat.mul_one] at g
    have hx : xs[i]? = some xs[i] := List.getElem?_eq_getElem (by omega)
    rw [hx] at g
    obtain ⟨m, e1, _, w1⟩ := DataW.trod_int hu8 g
    have e2 := congrArg (fun l : List Value => l[0]?) e1
    simp [Value.cells] at e2
    simp [Lit.wf, IntKind.min, IntKind.max, IntKind.bits, IntKind.signed] at w1
    exact ⟨m, by simpa using e2, by omega, by omega⟩)
  refine ⟨B, ?_, ⟨?_, hlt⟩⟩
  · unfold maskV
    rw [← hB]
  · rw [← cellsM_len, ← hB]; exact hl
end
end Go.Proofs.Ytamdhljoamggeaa
