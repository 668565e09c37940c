/- Arguments of stage 10's laws, opened: steps, rows of bools. -/
import Derived.Test.YtdeahiccgjldbaaRowFrm
import Derived.Test.YtdeahiccgjldbaaWalS
namespace Go.Proofs.Ytdeahiccgjldbaa
open Go.ChangeShapes Go.WideShapes Go.ChangeAt Go.RowKit Go.Deep

theorem cellsSt : Try.prog.cellsOf 43 = 4 := by kernel_rfl
theorem cellsBo : Try.prog.cellsOf 4 = 1 := by kernel_rfl
theorem cellsL : Try.prog.cellsOf 41 = 1 := by kernel_rfl
theorem readSt : Try.prog.readableRec 22 = true ∧ 22 < Try.prog.types.size := ⟨by kernel_rfl, of_decide_eq_true (by kernel_rfl)⟩
theorem readBo : Try.prog.readableRec 52 = true ∧ 52 < Try.prog.types.size := ⟨by kernel_rfl, of_decide_eq_true (by kernel_rfl)⟩
theorem readT : Try.prog.readableRec 51 = true ∧ 51 < Try.prog.types.size := ⟨by kernel_rfl, of_decide_eq_true (by kernel_rfl)⟩

instance : Inhabited StV := ⟨⟨0, 0, none, 0, [], none, 0, []⟩⟩

section
variable {H : Type} {enc : TypeId × Value → H}

theorem open_bools {W : World} {fuel : Nat} {v : Value} {x : DataW H × List MemPlace} (h : DataW.trod enc Try.prog W 0 (fun _ => true) true fuel 52 [v] = some x) :
    ∃ A c l, v = .slice A l.length c ∧ Bs W W.heap.size A l := by
  rcases open_slice Try.underlying52 h with ⟨hc, _⟩ | ⟨a, len, cap, m, k, D, Pl, hc, _, hl, hm, hmm, _, hall⟩
  · obtain rfl : v = .slice none 0 0 := by simpa using hc
    exact ⟨none, 0, [], rfl, ⟨fun i x h => by simp at h⟩⟩
  · obtain rfl : v = .slice (some a) len cap := by simpa using hc
    simp at hmm
    subst hmm
    rw [cellsBo] at hall
    have each : ∀ i, i < len → ∃ y : Bool, W.cell? (a.add i) = some (.bool y) := by
      intro i hi
      obtain ⟨cs', h1, h2⟩ := hall i (by omega)
      obtain ⟨b, e0, _⟩ := DataW.trod_bool Try.underlying4 h2
      obtain ⟨_, _, hat⟩ := World.cells?_some h1
      have h3 := hat 0 (by omega)
      subst e0
      exact ⟨b, by simpa [Addr.add] using h3⟩
    obtain ⟨f, hf⟩ := choose_lt each
    refine ⟨some a, m, (List.range len).map f, by simp, ⟨fun i x hx => ?_⟩⟩
    have hi : i < len := by have := (List.getElem?_eq_some_iff.1 hx).1; simpa using this
    obtain rfl : f i = x := by simpa [hi] using hx
    obtain ⟨b, o, rfl, hb⟩ := spot_none (hf 0 (by omega))
    have hc' := hf i hi
    rw [add_at] at hc'
    exact ⟨b, o, rfl, hb, hc'⟩

theorem open_steps {W : World} {fuel : Nat} {v : Value} {x : DataW H × List MemPlace} (h : DataW.trod enc Try.prog W 0 (fun _ => true) true fuel 22 [v] = some x) :
    ∃ A c L, v = .slice A L.length c ∧ St W W.heap.size A L ∧ L.length ≤ maxLen ∧ ∀ x ∈ L, x.data.length ≤ maxLen ∧ x.rows.length ≤ maxLen := by
  rcases open_slice Try.underlying22 h with ⟨hc, _⟩ | ⟨a, len, cap, m, k, D, Pl, hc, _, hl, hm, hmm, _, hall⟩
  · obtain rfl : v = .slice none 0 0 := by simpa using hc
    exact ⟨none, 0, [], rfl, St.nil, Nat.zero_le _, fun x hx => by simp at hx⟩
  · obtain rfl : v = .slice (some a) len cap := by simpa using hc
    simp at hmm
    subst hmm
    rw [cellsSt] at hall
    have each : ∀ i, i < len → ∃ y : StV, (W.cell? (a.add (i * 4)) = some (.int .i64 y.do_) ∧ W.cell? (a.add (i * 4 + 1)) = some (.int .i64 y.n) ∧ W.cell? (a.add (i * 4 + 2)) = some (.slice y.ad y.data.length y.cap) ∧ W.cell? (a.add (i * 4 + 3)) = some (.slice y.lad y.rows.length y.lcap)) ∧ By W W.heap.size y.ad y.data ∧ Ls W W.heap.size y.lad y.rows ∧ (y.data.length ≤ maxLen ∧ y.rows.length ≤ maxLen) ∧ y.n ≤ 9223372036854775807 := by
      intro i hi
      obtain ⟨cs', h1, h2⟩ := hall i (by omega)
      obtain ⟨_, hlen, hcell⟩ := World.cells?_some h1
      obtain ⟨xs, q, _, _, _, hxl, hf⟩ := DataW.trod_struct Try.underlying43 h2
      match xs, hxl, cs', hlen with
      | [y0, y1, y2, y3], _, [v0, v1, v2, v3], _ =>
        have g0 := hf 0 _ rfl
        have g1 := hf 1 _ rfl
        have g2 := hf 2 _ rfl
        have g3 := hf 3 _ rfl
        simp [cellsI, cellsS, cellsL] at g0 g1 g2 g3
        have e0 := hcell 0 (by omega)
        have e1 := hcell 1 (by omega)
        have e2 := hcell 2 (by omega)
        have e3 := hcell 3 (by omega)
        rw [add_add] at e0 e1 e2 e3
        obtain ⟨n0, k0, _, _⟩ := DataW.trod_int Try.underlying3 g0
        obtain ⟨n1, k1, _, w1⟩ := DataW.trod_int Try.underlying3 g1
        obtain ⟨A', c', l', k2, hby, hlm, _⟩ := open_bytes g2
        obtain ⟨A3, c3, L3, k3, hls3, hlm3, _⟩ := open_slices g3
        simp [Lit.wf, IntKind.min, IntKind.max, IntKind.bits, IntKind.signed] at w1
        obtain rfl : v0 = .int .i64 n0 := List.singleton_inj.1 k0
        obtain rfl : v1 = .int .i64 n1 := List.singleton_inj.1 k1
        subst k2 k3
        exact ⟨⟨n0, n1, A', c', l', A3, c3, L3⟩, ⟨by simpa using e0, by simpa using e1, by simpa using e2, by simpa using e3⟩, hby, hls3, ⟨hlm, hlm3⟩, by show n1 ≤ _; omega⟩
    obtain ⟨f, hf⟩ := choose_lt each
    refine ⟨some a, m, (List.range len).map f, by simp, ⟨fun i x hx => ?_, fun x hx => ?_, fun x hx => ?_, fun x hx => ?_⟩, by simp; omega, fun x hx => ?_⟩
    · have hi : i < len := by have := (List.getElem?_eq_some_iff.1 hx).1; simpa using this
      obtain rfl : f i = x := by simpa [hi] using hx
      obtain ⟨⟨h1, _⟩, _⟩ := hf 0 (by omega)
      obtain ⟨b, o, rfl, hb⟩ := spot_none h1
      obtain ⟨⟨g0, g1, g2, g3⟩, _⟩ := hf i hi
      rw [add_at] at g0 g1 g2 g3
      exact ⟨b, o, rfl, hb, g0, by rw [Nat.add_assoc]; exact g1, by rw [Nat.add_assoc]; exact g2, by rw [Nat.add_assoc]; exact g3⟩
    · obtain ⟨i, hi, rfl⟩ := List.mem_map.1 hx
      exact (hf i (List.mem_range.1 hi)).2.1
    · obtain ⟨i, hi, rfl⟩ := List.mem_map.1 hx
      exact (hf i (List.mem_range.1 hi)).2.2.1
    · obtain ⟨i, hi, rfl⟩ := List.mem_map.1 hx
      exact (hf i (List.mem_range.1 hi)).2.2.2.2
    · obtain ⟨i, hi, rfl⟩ := List.mem_map.1 hx
      exact (hf i (List.mem_range.1 hi)).2.2.2.1
end
end Go.Proofs.Ytdeahiccgjldbaa
