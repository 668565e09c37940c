/- An argument that is a packet, opened. -/
import Derived.Test.YtmlckjccgdmknaaRowOpt
import Derived.Test.YtmlckjccgdmknaaPktM
import Derived.Lib.SmallJoins
namespace Go.Proofs.Ytmlckjccgdmknaa
open Go.Joins Go.ChangeShapes Go.WideShapes Go.ChangeAt Go.RowKit Go.Deep

theorem readP : Try.prog.readableRec 27 = true ∧ 27 < Try.prog.types.size := ⟨by kernel_rfl, of_decide_eq_true (by kernel_rfl)⟩
theorem cellsU : Try.prog.cellsOf 22 = 1 := by kernel_rfl
theorem cellsA : Try.prog.cellsOf 23 = 1 := by kernel_rfl
theorem cellsL : Try.prog.cellsOf 25 = 1 := by kernel_rfl
theorem cellsP : Try.prog.cellsOf 27 = 10 := by kernel_rfl

section
variable {H : Type} {enc : TypeId × Value → H}

theorem open_u32 {W : World} {t : TypeId} (ht : Try.prog.underlying t = some (.int .u32)) {fuel : Nat} {v : Value} {x : DataW H × List MemPlace} (h : DataW.trod enc Try.prog W 0 (fun _ => true) true fuel t [v] = some x) : ∃ n : Nat, v = .int .u32 (n : Int) ∧ n < 4294967296 := by
  obtain ⟨n0, e0, _, w0⟩ := DataW.trod_int ht h
  simp [Lit.wf, IntKind.min, IntKind.max, IntKind.bits, IntKind.signed] at w0
  refine ⟨n0.toNat, ?_, by omega⟩
  rw [List.singleton_inj.1 e0, Int.toNat_of_nonneg w0.1]
theorem open_i64 {W : World} {t : TypeId} (ht : Try.prog.underlying t = some (.int .i64)) {fuel : Nat} {v : Value} {x : DataW H × List MemPlace} (h : DataW.trod enc Try.prog W 0 (fun _ => true) true fuel t [v] = some x) : ∃ n : Int, v = .int .i64 n := by
  obtain ⟨n0, e0, _, _⟩ := DataW.trod_int ht h
  exact ⟨n0, List.singleton_inj.1 e0⟩

theorem open_packet {W : World} {b0 : Nat} {r : Reach} {v : Value} {d : DataW H} {ps : List MemPlace} (hv : Value.okWide Try.prog W r b0 27 v) (h : DataW.Trod enc Try.prog W 0 (fun _ => true) true 27 v d ps) :
    ∃ p : PktV, v = p.v ∧ Pk W W.heap.size p ∧ PkR p ∧ p.L.length ≤ maxLen ∧ (∀ x ∈ p.L, x.data.length ≤ maxLen) ∧ p.hw.length ≤ maxLen := by
  obtain ⟨cs, rfl, hsz⟩ := okWide_struct Try.underlying27 hv
  obtain ⟨l⟩ := cs
  obtain ⟨fuel, hf⟩ := h
  match l, hsz.trans cellsP with
  | [v0, v1, v2, v3, v4, v5, v6, v7, v8, v9], _ =>
    obtain ⟨xs, n, _, hx, _, hlen, hg⟩ := DataW.trod_struct Try.underlying27 hf
    match xs, hlen with
    | [y0, y1, y2, y3, y4, y5, y6, y7, y8, y9], _ =>
      have g0 := hg 0 _ rfl
      simp [Value.cells, cellsI] at g0
      have g1 := hg 1 _ rfl
      simp [Value.cells, cellsU] at g1
      have g2 := hg 2 _ rfl
      simp [Value.cells, cellsI] at g2
      have g3 := hg 3 _ rfl
      simp [Value.cells, cellsI] at g3
      have g4 := hg 4 _ rfl
      simp [Value.cells, cellsA] at g4
      have g5 := hg 5 _ rfl
      simp [Value.cells, cellsA] at g5
      have g6 := hg 6 _ rfl
      simp [Value.cells, cellsA] at g6
      have g7 := hg 7 _ rfl
      simp [Value.cells, cellsA] at g7
      have g8 := hg 8 _ rfl
      simp [Value.cells, cellsS] at g8
      have g9 := hg 9 _ rfl
      simp [Value.cells, cellsL] at g9
      obtain ⟨n0, rfl⟩ := open_i64 Try.underlying3 g0
      obtain ⟨n1, rfl, b1⟩ := open_u32 Try.underlying22 g1
      obtain ⟨n2, rfl⟩ := open_i64 Try.underlying3 g2
      obtain ⟨n3, rfl⟩ := open_i64 Try.underlying3 g3
      obtain ⟨n4, rfl, b4⟩ := open_u32 Try.underlying23 g4
      obtain ⟨n5, rfl, b5⟩ := open_u32 Try.underlying23 g5
      obtain ⟨n6, rfl, b6⟩ := open_u32 Try.underlying23 g6
      obtain ⟨n7, rfl, b7⟩ := open_u32 Try.underlying23 g7
      obtain ⟨A8, c8, l8, rfl, hby8, hl8, _⟩ := open_bytes g8
      obtain ⟨A9, c9, L9, rfl, hop9, hl9, hd9⟩ := open_options g9
      exact ⟨⟨n0, n1, n2, n3, n4, n5, n6, n7, A8, c8, l8, A9, c9, L9⟩, rfl, ⟨hby8, hop9⟩, ⟨b1, b4, b5, b6, b7⟩, hl9, hd9, hl8⟩
end
end Go.Proofs.Ytmlckjccgdmknaa
