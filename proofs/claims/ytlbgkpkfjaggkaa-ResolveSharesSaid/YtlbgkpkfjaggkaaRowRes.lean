/- Arguments that are leases, messages, a case of three numbers, an address, two numbers, opened. -/
import Derived.Test.YtlbgkpkfjaggkaaRowNum
import Derived.Test.YtlbgkpkfjaggkaaTriM
import Derived.Test.YtlbgkpkfjaggkaaMesM
import Derived.Lib.SmallJoins
namespace Go.Proofs.Ytlbgkpkfjaggkaa
open Go.Joins Go.ChangeShapes Go.WideShapes Go.ChangeAt Go.RowKit Go.Deep

theorem readLe : Try.prog.readableRec 25 = true ∧ 25 < Try.prog.types.size := ⟨by kernel_rfl, of_decide_eq_true (by kernel_rfl)⟩
theorem readMs : Try.prog.readableRec 27 = true ∧ 27 < Try.prog.types.size := ⟨by kernel_rfl, of_decide_eq_true (by kernel_rfl)⟩
theorem readCs : Try.prog.readableRec 29 = true ∧ 29 < Try.prog.types.size := ⟨by kernel_rfl, of_decide_eq_true (by kernel_rfl)⟩
theorem readAd : Try.prog.readableRec 23 = true ∧ 23 < Try.prog.types.size := ⟨by kernel_rfl, of_decide_eq_true (by kernel_rfl)⟩
theorem readA2 : Try.prog.readableRec 37 = true ∧ 37 < Try.prog.types.size := ⟨by kernel_rfl, of_decide_eq_true (by kernel_rfl)⟩
theorem cellsA : Try.prog.cellsOf 23 = 1 := by kernel_rfl
theorem cellsI : Try.prog.cellsOf 3 = 1 := by kernel_rfl
theorem cellsT : Try.prog.cellsOf 9 = 1 := by kernel_rfl
theorem cellsB2 : Try.prog.cellsOf 4 = 1 := by kernel_rfl
theorem cellsM : Try.prog.cellsOf 25 = 8 := by kernel_rfl
theorem cellsMs : Try.prog.cellsOf 27 = 11 := by kernel_rfl
theorem cellsC : Try.prog.cellsOf 29 = 3 := by kernel_rfl
theorem cells2 : Try.prog.cellsOf 37 = 2 := by kernel_rfl

section
variable {H : Type} {enc : TypeId × Value → H}

theorem open_u32 {W : World} {t : TypeId} (ht : Try.prog.underlying t = some (.int .u32)) {fuel : Nat} {v : Value} {x : DataW H × List MemPlace} (h : DataW.trod enc Try.prog W 0 (fun _ => true) true fuel t [v] = some x) : ∃ n : Nat, v = .int .u32 (n : Int) ∧ n < 4294967296 := by
  obtain ⟨n0, e0, _, w0⟩ := DataW.trod_int ht h
  simp [Lit.wf, IntKind.min, IntKind.max, IntKind.bits, IntKind.signed] at w0
  refine ⟨n0.toNat, ?_, by omega⟩
  rw [List.singleton_inj.1 e0, Int.toNat_of_nonneg w0.1]
theorem open_i64 {W : World} {t : TypeId} (ht : Try.prog.underlying t = some (.int .i64)) {fuel : Nat} {v : Value} {x : DataW H × List MemPlace} (h : DataW.trod enc Try.prog W 0 (fun _ => true) true fuel t [v] = some x) : ∃ n : Int, v = .int .i64 n := by
  obtain ⟨n0, e0, _, _⟩ := DataW.trod_int ht h
  exact ⟨n0, List.singleton_inj.1 e0⟩
theorem open_str {W : World} {t : TypeId} (ht : Try.prog.underlying t = some .string) {fuel : Nat} {v : Value} {x : DataW H × List MemPlace} (h : DataW.trod enc Try.prog W 0 (fun _ => true) true fuel t [v] = some x) : ∃ s : ByteArray, v = .string s := by
  obtain ⟨s, e0, _⟩ := DataW.trod_string ht h
  exact ⟨s, List.singleton_inj.1 e0⟩
theorem open_lease {W : World} {b0 : Nat} {r : Reach} {v : Value} {d : DataW H} {ps : List MemPlace} (hv : Value.okWide Try.prog W r b0 25 v) (h : DataW.Trod enc Try.prog W 0 (fun _ => true) true 25 v d ps) :
    ∃ m : LV, v = m.v ∧ m.addr < 4294967296 := by
  obtain ⟨cs, rfl, hsz⟩ := okWide_struct Try.underlying25 hv
  obtain ⟨l⟩ := cs
  obtain ⟨fuel, hf⟩ := h
  match l, hsz.trans cellsM with
  | [v0, v1, v2, v3, v4, v5, v6, v7], _ =>
    obtain ⟨xs, n, _, hx, _, hlen, hg⟩ := DataW.trod_struct Try.underlying25 hf
    match xs, hlen with
    | [y0, y1, y2, y3, y4, y5, y6, y7], _ =>
      have g0 := hg 0 _ rfl
      simp [Value.cells, cellsA] at g0
      have g1 := hg 1 _ rfl
      simp [Value.cells, cellsI] at g1
      have g2 := hg 2 _ rfl
      simp [Value.cells, cellsT] at g2
      have g3 := hg 3 _ rfl
      simp [Value.cells, cellsI] at g3
      have g4 := hg 4 _ rfl
      simp [Value.cells, cellsI] at g4
      have g5 := hg 5 _ rfl
      simp [Value.cells, cellsI] at g5
      have g6 := hg 6 _ rfl
      simp [Value.cells, cellsI] at g6
      have g7 := hg 7 _ rfl
      simp [Value.cells, cellsI] at g7
      obtain ⟨n0, rfl, b0⟩ := open_u32 Try.underlying23 g0
      obtain ⟨n1, rfl⟩ := open_i64 Try.underlying3 g1
      obtain ⟨n2, rfl⟩ := open_str Try.underlying9 g2
      obtain ⟨n3, rfl⟩ := open_i64 Try.underlying3 g3
      obtain ⟨n4, rfl⟩ := open_i64 Try.underlying3 g4
      obtain ⟨n5, rfl⟩ := open_i64 Try.underlying3 g5
      obtain ⟨n6, rfl⟩ := open_i64 Try.underlying3 g6
      obtain ⟨n7, rfl⟩ := open_i64 Try.underlying3 g7
      refine ⟨⟨n0, n1, n2.data.toList, n3, n4, n5, n6, n7⟩, ?_, b0⟩
      simp [LV.v, LV.cells, LV.cb]
theorem open_boo {W : World} {t : TypeId} (ht : Try.prog.underlying t = some .bool) {fuel : Nat} {v : Value} {x : DataW H × List MemPlace} (h : DataW.trod enc Try.prog W 0 (fun _ => true) true fuel t [v] = some x) : ∃ b : Bool, v = .bool b := by
  obtain ⟨b, e0, _⟩ := DataW.trod_bool ht h
  exact ⟨b, List.singleton_inj.1 e0⟩
theorem open_message {W : World} {b0 : Nat} {r : Reach} {v : Value} {d : DataW H} {ps : List MemPlace} (hv : Value.okWide Try.prog W r b0 27 v) (h : DataW.Trod enc Try.prog W 0 (fun _ => true) true 27 v d ps) :
    ∃ m : MsgV, v = m.v ∧ m.addr < 4294967296 := by
  obtain ⟨cs, rfl, hsz⟩ := okWide_struct Try.underlying27 hv
  obtain ⟨l⟩ := cs
  obtain ⟨fuel, hf⟩ := h
  match l, hsz.trans cellsMs with
  | [v0, v1, v2, v3, v4, v5, v6, v7, v8, v9, v10], _ =>
    obtain ⟨xs, n, _, hx, _, hlen, hg⟩ := DataW.trod_struct Try.underlying27 hf
    match xs, hlen with
    | [y0, y1, y2, y3, y4, y5, y6, y7, y8, y9, y10], _ =>
      have g0 := hg 0 _ rfl
      simp [Value.cells, cellsI] at g0
      have g1 := hg 1 _ rfl
      simp [Value.cells, cellsI] at g1
      have g2 := hg 2 _ rfl
      simp [Value.cells, cellsI] at g2
      have g3 := hg 3 _ rfl
      simp [Value.cells, cellsI] at g3
      have g4 := hg 4 _ rfl
      simp [Value.cells, cellsI] at g4
      have g5 := hg 5 _ rfl
      simp [Value.cells, cellsA] at g5
      have g6 := hg 6 _ rfl
      simp [Value.cells, cellsI] at g6
      have g7 := hg 7 _ rfl
      simp [Value.cells, cellsT] at g7
      have g8 := hg 8 _ rfl
      simp [Value.cells, cellsI] at g8
      have g9 := hg 9 _ rfl
      simp [Value.cells, cellsI] at g9
      have g10 := hg 10 _ rfl
      simp [Value.cells, cellsB2] at g10
      obtain ⟨n0, rfl⟩ := open_i64 Try.underlying3 g0
      obtain ⟨n1, rfl⟩ := open_i64 Try.underlying3 g1
      obtain ⟨n2, rfl⟩ := open_i64 Try.underlying3 g2
      obtain ⟨n3, rfl⟩ := open_i64 Try.underlying3 g3
      obtain ⟨n4, rfl⟩ := open_i64 Try.underlying3 g4
      obtain ⟨n5, rfl, b5⟩ := open_u32 Try.underlying23 g5
      obtain ⟨n6, rfl⟩ := open_i64 Try.underlying3 g6
      obtain ⟨n7, rfl⟩ := open_str Try.underlying9 g7
      obtain ⟨n8, rfl⟩ := open_i64 Try.underlying3 g8
      obtain ⟨n9, rfl⟩ := open_i64 Try.underlying3 g9
      obtain ⟨n10, rfl⟩ := open_boo Try.underlying4 g10
      exact ⟨⟨n0, n1, n2, n3, n4, n5, n6, n7, n8, n9, n10⟩, rfl, b5⟩
theorem open_i64s {W : World} {t : TypeId} (ht : Try.prog.underlying t = some (.int .i64)) {fuel : Nat} {v : Value} {x : DataW H × List MemPlace} (h : DataW.trod enc Try.prog W 0 (fun _ => true) true fuel t [v] = some x) : ∃ n : Int, v = .int .i64 n ∧ -9223372036854775808 ≤ n ∧ n < 9223372036854775808 := by
  obtain ⟨n0, e0, _, w0⟩ := DataW.trod_int ht h
  simp [Lit.wf, IntKind.min, IntKind.max, IntKind.bits, IntKind.signed] at w0
  exact ⟨n0, List.singleton_inj.1 e0, by omega, by omega⟩
set_option maxRecDepth 100000 in
theorem open_case {W : World} {b0 : Nat} {r : Reach} {v : Value} {d : DataW H} {ps : List MemPlace} (hv : Value.okWide Try.prog W r b0 29 v) (h : DataW.Trod enc Try.prog W 0 (fun _ => true) true 29 v d ps) :
    ∃ n0 n1 n2 : Int, v = .agg #[.int .i64 n0, .int .i64 n1, .int .i64 n2] := by
  obtain ⟨cs, rfl, hsz⟩ := okWide_struct Try.underlying29 hv
  obtain ⟨l⟩ := cs
  obtain ⟨fuel, hf⟩ := h
  match l, hsz.trans cellsC with
  | [v0, v1, v2], _ =>
    obtain ⟨xs, n, _, hx, _, hlen, hg⟩ := DataW.trod_struct Try.underlying29 hf
    match xs, hlen with
    | [y0, y1, y2], _ =>
      have g0 := hg 0 _ rfl
      simp [Value.cells, cellsI] at g0
      have g1 := hg 1 _ rfl
      simp [Value.cells, cellsI] at g1
      have g2 := hg 2 _ rfl
      simp [Value.cells, cellsI] at g2
      obtain ⟨n0, rfl⟩ := open_i64 Try.underlying3 g0
      obtain ⟨n1, rfl⟩ := open_i64 Try.underlying3 g1
      obtain ⟨n2, rfl⟩ := open_i64 Try.underlying3 g2
      exact ⟨n0, n1, n2, rfl⟩
set_option maxRecDepth 100000 in
theorem open_two {W : World} {b0 : Nat} {r : Reach} {v : Value} {d : DataW H} {ps : List MemPlace} (hv : Value.okWide Try.prog W r b0 37 v) (h : DataW.Trod enc Try.prog W 0 (fun _ => true) true 37 v d ps) :
    ∃ x0 x1 : Int, v = .agg #[.int .i64 x0, .int .i64 x1] ∧ x0 < 9223372036854775808 ∧ x1 < 9223372036854775808 := by
  simp only [Value.okWide, Try.underlying37] at hv
  obtain ⟨cs, rfl, hsz, _⟩ := hv
  obtain ⟨l⟩ := cs
  obtain ⟨fuel, hf⟩ := h
  match l, hsz.trans cells2 with
  | [v0, v1], _ =>
    obtain ⟨xs, n, _, _, _, hlen, hg⟩ := DataW.trod_array Try.underlying37 hf
    match xs, hlen with
    | [y0, y1], _ =>
      have g0 := hg 0 (by decide)
      have g1 := hg 1 (by decide)
      simp [Value.cells, cellsI] at g0 g1
      obtain ⟨n0, rfl, _, b0⟩ := open_i64s Try.underlying3 g0
      obtain ⟨n1, rfl, _, b1⟩ := open_i64s Try.underlying3 g1
      exact ⟨n0, n1, rfl, b0, b1⟩
end
end Go.Proofs.Ytlbgkpkfjaggkaa
