/- An argument that is three numbers, opened. -/
import Derived.Test.YtmlckjccgdmknaaRowPkt
namespace Go.Proofs.Ytmlckjccgdmknaa
open Go.Joins Go.ChangeShapes Go.WideShapes Go.ChangeAt Go.RowKit Go.Deep

theorem readA : Try.prog.readableRec 42 = true ∧ 42 < Try.prog.types.size := ⟨by kernel_rfl, of_decide_eq_true (by kernel_rfl)⟩
theorem cells3 : Try.prog.cellsOf 42 = 3 := by kernel_rfl

section
variable {H : Type} {enc : TypeId × Value → H}

theorem open_i64b {W : World} {t : TypeId} (ht : Try.prog.underlying t = some (.int .i64)) {fuel : Nat} {v : Value} {x : DataW H × List MemPlace} (h : DataW.trod enc Try.prog W 0 (fun _ => true) true fuel t [v] = some x) : ∃ n : Int, v = .int .i64 n ∧ n < 9223372036854775808 := by
  obtain ⟨n0, e0, _, w0⟩ := DataW.trod_int ht h
  simp [Lit.wf, IntKind.min, IntKind.max, IntKind.bits, IntKind.signed] at w0
  exact ⟨n0, List.singleton_inj.1 e0, by omega⟩

theorem open_three {W : World} {b0 : Nat} {r : Reach} {v : Value} {d : DataW H} {ps : List MemPlace} (hv : Value.okWide Try.prog W r b0 42 v) (h : DataW.Trod enc Try.prog W 0 (fun _ => true) true 42 v d ps) :
    ∃ x0 x1 x2 : Int, v = .agg #[.int .i64 x0, .int .i64 x1, .int .i64 x2] ∧ x0 < 9223372036854775808 ∧ x1 < 9223372036854775808 ∧ x2 < 9223372036854775808 := by
  simp only [Value.okWide, Try.underlying42] at hv
  obtain ⟨cs, rfl, hsz, _⟩ := hv
  obtain ⟨l⟩ := cs
  obtain ⟨fuel, hf⟩ := h
  match l, hsz.trans cells3 with
  | [v0, v1, v2], _ =>
    obtain ⟨xs, n, _, _, _, hlen, hg⟩ := DataW.trod_array Try.underlying42 hf
    match xs, hlen with
    | [y0, y1, y2], _ =>
      have g0 := hg 0 (by decide)
      have g1 := hg 1 (by decide)
      have g2 := hg 2 (by decide)
      simp [Value.cells, cellsI] at g0 g1 g2
      obtain ⟨n0, rfl, b0⟩ := open_i64b Try.underlying3 g0
      obtain ⟨n1, rfl, b1⟩ := open_i64b Try.underlying3 g1
      obtain ⟨n2, rfl, b2⟩ := open_i64b Try.underlying3 g2
      exact ⟨n0, n1, n2, rfl, b0, b1, b2⟩
end
end Go.Proofs.Ytmlckjccgdmknaa
