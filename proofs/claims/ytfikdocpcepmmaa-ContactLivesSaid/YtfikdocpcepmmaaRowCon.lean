/- Arguments of stage 19's laws, opened: steps, events. -/
import Derived.Test.YtfikdocpcepmmaaRowEls
import Derived.Test.YtfikdocpcepmmaaConS
import Derived.WideKeyPair
import Derived.Laws.Cover2
namespace Go.Proofs.Ytfikdocpcepmmaa
open Go.Joins Go.ChangeShapes Go.WideShapes Go.ChangeAt Go.RowKit Go.Deep

theorem readSt : Try.prog.readableRec 22 = true ∧ 22 < Try.prog.types.size := ⟨by kernel_rfl, of_decide_eq_true (by kernel_rfl)⟩
theorem readEv : Try.prog.readableRec 42 = true ∧ 42 < Try.prog.types.size := ⟨by kernel_rfl, of_decide_eq_true (by kernel_rfl)⟩
theorem readT : Try.prog.readableRec 44 = true ∧ 44 < Try.prog.types.size := ⟨by kernel_rfl, of_decide_eq_true (by kernel_rfl)⟩
theorem cellsS : Try.prog.cellsOf 36 = 14 := by kernel_rfl
theorem cellsE : Try.prog.cellsOf 49 = 3 := by kernel_rfl
instance : Inhabited StpV := ⟨⟨0, 0, 0, zeroM⟩⟩
instance : Inhabited EvtV := ⟨⟨0, 0, 0⟩⟩
section
variable {H : Type} {enc : TypeId × Value → H}
theorem stp_cells {W : World} {fuel : Nat} {cs : List Value} {x : DataW H × List MemPlace} (hc : cs.length = 14) (hf : DataW.trod enc Try.prog W 0 (fun _ => true) true fuel 36 cs = some x) :
    ∃ s : StpV, cs = s.cells.toList ∧ s.m.addr < 4294967296 := by
  match cs, hc with
  | [v0, v1, v2, v3, v4, v5, v6, v7, v8, v9, v10, v11, v12, v13], _ =>
    obtain ⟨xs, n, _, hx, _, hlen, hg⟩ := DataW.trod_struct Try.underlying36 hf
    match xs, hlen with
    | [y0, y1, y2, y3], _ =>
      have g0 := hg 0 _ rfl
      simp [cellsI] at g0
      have g1 := hg 1 _ rfl
      simp [cellsI] at g1
      have g2 := hg 2 _ rfl
      simp [cellsI] at g2
      have g3 := hg 3 _ rfl
      simp [cellsM] at g3
      obtain ⟨n0, rfl⟩ := open_i64 Try.underlying3 g0
      obtain ⟨n1, rfl⟩ := open_i64 Try.underlying3 g1
      obtain ⟨n2, rfl⟩ := open_i64 Try.underlying3 g2
      obtain ⟨m, hm, ha⟩ := msg_cells rfl g3
      refine ⟨⟨n0, n1, n2, m⟩, ?_, ha⟩
      rw [hm]
theorem evt_cells {W : World} {fuel : Nat} {cs : List Value} {x : DataW H × List MemPlace} (hc : cs.length = 3) (hf : DataW.trod enc Try.prog W 0 (fun _ => true) true fuel 49 cs = some x) :
    ∃ s : EvtV, cs = [.int .i64 s.do_, .int .i64 s.who, .int .i64 s.n] ∧ True := by
  match cs, hc with
  | [v0, v1, v2], _ =>
    obtain ⟨xs, n, _, hx, _, hlen, hg⟩ := DataW.trod_struct Try.underlying49 hf
    match xs, hlen with
    | [y0, y1, y2], _ =>
      have g0 := hg 0 _ rfl
      simp [cellsI] at g0
      have g1 := hg 1 _ rfl
      simp [cellsI] at g1
      have g2 := hg 2 _ rfl
      simp [cellsI] at g2
      obtain ⟨n0, rfl⟩ := open_i64 Try.underlying3 g0
      obtain ⟨n1, rfl⟩ := open_i64 Try.underlying3 g1
      obtain ⟨n2, rfl⟩ := open_i64 Try.underlying3 g2
      exact ⟨⟨n0, n1, n2⟩, rfl, trivial⟩
theorem open_steps {W : World} {fuel : Nat} {v : Value} {x : DataW H × List MemPlace} (h : DataW.trod enc Try.prog W 0 (fun _ => true) true fuel 22 [v] = some x) :
    ∃ A c L, v = .slice A L.length c ∧ El ElemS W W.heap.size A L ∧ L.length ≤ maxLen ∧ ∀ x ∈ L, x.m.addr < 4294967296 :=
  open_el ElemS (fun s => s.m.addr < 4294967296) cellsS (fun hc hf => stp_cells hc hf) h
theorem open_events {W : World} {fuel : Nat} {v : Value} {x : DataW H × List MemPlace} (h : DataW.trod enc Try.prog W 0 (fun _ => true) true fuel 42 [v] = some x) :
    ∃ A c L, v = .slice A L.length c ∧ El ElemV W W.heap.size A L := by
  obtain ⟨A, c, L, h1, h2, _⟩ := open_el ElemV (fun _ => True) cellsE (fun hc hf => evt_cells hc hf) h
  exact ⟨A, c, L, h1, h2⟩
end
end Go.Proofs.Ytfikdocpcepmmaa
