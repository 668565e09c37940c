/- Arguments that are slices of elements, opened (open_el); a message's cells. -/
import Derived.Test.YtfikdocpcepmmaaRowNum
import Derived.Test.YtfikdocpcepmmaaBoxE
import Derived.Deep.SlicePairs
import Derived.Lib.SmallJoins
namespace Go.Proofs.Ytfikdocpcepmmaa
open Go.Joins Go.ChangeShapes Go.WideShapes Go.ChangeAt Go.RowKit Go.Deep

theorem cellsA : Try.prog.cellsOf 32 = 1 := by kernel_rfl
theorem cellsI : Try.prog.cellsOf 3 = 1 := by kernel_rfl
theorem cellsT : Try.prog.cellsOf 9 = 1 := by kernel_rfl
theorem cellsB2 : Try.prog.cellsOf 4 = 1 := by kernel_rfl
theorem cellsM : Try.prog.cellsOf 34 = 11 := by kernel_rfl
theorem spot_none {W : World} {a : Addr} {v : Value} (h : W.cell? a = some v) : ∃ b o, a = ⟨b, o, none⟩ ∧ b < W.heap.size := by
  obtain ⟨ab, ao, asp⟩ := a
  cases asp with
  | none =>
    refine ⟨ab, ao, rfl, ?_⟩
    rcases Nat.lt_or_ge ab W.heap.size with hlt | hge
    · exact hlt
    · simp [World.cell?, Array.getElem?_eq_none hge] at h
  | some s => simp [World.cell?] at h; split at h <;> simp_all
instance : Inhabited MsgV := ⟨zeroM⟩

section
variable {H : Type} {enc : TypeId × Value → H}

theorem open_u32 {W : World} {t : TypeId} (ht : Try.prog.underlying t = some (.int .u32)) {fuel : Nat} {v : Value} {x : DataW H × List MemPlace} (h : DataW.trod enc Try.prog W 0 (fun _ => true) true fuel t [v] = some x) : ∃ n : Nat, v = .int .u32 (n : Int) ∧ n < 4294967296 := by
  obtain ⟨n0, e0, _, w0⟩ := DataW.trod_int ht h
  simp [Lit.wf, IntKind.min, IntKind.max, IntKind.bits, IntKind.signed] at w0
  refine ⟨n0.toNat, ?_, by omega⟩
  rw [List.singleton_inj.1 e0, Int.toNat_of_nonneg w0.1]
theorem open_i64 {W : World} {t : TypeId} (ht : Try.prog.underlying t = some (.int .i64)) {fuel : Nat} {v : Value} {x : DataW H × List MemPlace} (h : DataW.trod enc Try.prog W 0 (fun _ => true) true fuel t [v] = some x) : ∃ n : Int, v = .int .i64 n := by
  obtain ⟨n0, e0, _, _⟩ := DataW.trod_int ht h
  exact ⟨n0, List.singleton_inj.1 e0⟩
theorem open_str {W : World} {t : TypeId} (ht : Try.prog.underlying t = some .string) {fuel : Nat} {v : Value} {x : DataW H × List MemPlace} (h : DataW.trod enc Try.prog W 0 (fun _ => true) true fuel t [v] = some x) : ∃ s : ByteArray, v = .string s := by
  obtain ⟨s, e0, _⟩ := DataW.trod_string ht h
  exact ⟨s, List.singleton_inj.1 e0⟩
theorem open_boo {W : World} {t : TypeId} (ht : Try.prog.underlying t = some .bool) {fuel : Nat} {v : Value} {x : DataW H × List MemPlace} (h : DataW.trod enc Try.prog W 0 (fun _ => true) true fuel t [v] = some x) : ∃ b : Bool, v = .bool b := by
  obtain ⟨b, e0, _⟩ := DataW.trod_bool ht h
  exact ⟨b, List.singleton_inj.1 e0⟩
/-- The cells of a message. -/
theorem msg_cells {W : World} {fuel : Nat} {cs : List Value} {x : DataW H × List MemPlace} (hc : cs.length = 11) (hf : DataW.trod enc Try.prog W 0 (fun _ => true) true fuel 34 cs = some x) :
    ∃ m : MsgV, cs = m.cells.toList ∧ m.addr < 4294967296 := by
  match cs, hc with
  | [v0, v1, v2, v3, v4, v5, v6, v7, v8, v9, v10], _ =>
    obtain ⟨xs, n, _, hx, _, hlen, hg⟩ := DataW.trod_struct Try.underlying34 hf
    match xs, hlen with
    | [y0, y1, y2, y3, y4, y5, y6, y7, y8, y9, y10], _ =>
      have g0 := hg 0 _ rfl
      simp [cellsI] at g0
      have g1 := hg 1 _ rfl
      simp [cellsI] at g1
      have g2 := hg 2 _ rfl
      simp [cellsI] at g2
      have g3 := hg 3 _ rfl
      simp [cellsI] at g3
      have g4 := hg 4 _ rfl
      simp [cellsI] at g4
      have g5 := hg 5 _ rfl
      simp [cellsA] at g5
      have g6 := hg 6 _ rfl
      simp [cellsI] at g6
      have g7 := hg 7 _ rfl
      simp [cellsT] at g7
      have g8 := hg 8 _ rfl
      simp [cellsI] at g8
      have g9 := hg 9 _ rfl
      simp [cellsI] at g9
      have g10 := hg 10 _ rfl
      simp [cellsB2] at g10
      obtain ⟨n0, rfl⟩ := open_i64 Try.underlying3 g0
      obtain ⟨n1, rfl⟩ := open_i64 Try.underlying3 g1
      obtain ⟨n2, rfl⟩ := open_i64 Try.underlying3 g2
      obtain ⟨n3, rfl⟩ := open_i64 Try.underlying3 g3
      obtain ⟨n4, rfl⟩ := open_i64 Try.underlying3 g4
      obtain ⟨n5, rfl, b5⟩ := open_u32 Try.underlying32 g5
      obtain ⟨n6, rfl⟩ := open_i64 Try.underlying3 g6
      obtain ⟨n7, rfl⟩ := open_str Try.underlying9 g7
      obtain ⟨n8, rfl⟩ := open_i64 Try.underlying3 g8
      obtain ⟨n9, rfl⟩ := open_i64 Try.underlying3 g9
      obtain ⟨n10, rfl⟩ := open_boo Try.underlying4 g10
      exact ⟨⟨n0, n1, n2, n3, n4, n5, n6, n7, n8, n9, n10⟩, rfl, b5⟩
/-- A slice of elements, opened. -/
theorem open_el {V : Type} [Inhabited V] (E : Elem Try.prog V) (Pr : V → Prop) (hce : Try.prog.cellsOf E.e = E.m)
    (hone : ∀ {W : World} {fuel : Nat} {cs : List Value} {x : DataW H × List MemPlace}, cs.length = E.m → DataW.trod enc Try.prog W 0 (fun _ => true) true fuel E.e cs = some x → ∃ y : V, cs = E.cells y ∧ Pr y)
    {W : World} {fuel : Nat} {v : Value} {x : DataW H × List MemPlace} (h : DataW.trod enc Try.prog W 0 (fun _ => true) true fuel E.ty [v] = some x) :
    ∃ A c L, v = .slice A L.length c ∧ El E W W.heap.size A L ∧ L.length ≤ maxLen ∧ ∀ x ∈ L, Pr x := by
  rcases open_slice E.und h with ⟨hc, _⟩ | ⟨a, len, cap, m, k, D, Pl, hc, _, hl, hm, hmm, hxx, hall⟩
  · obtain rfl : v = .slice none 0 0 := by simpa using hc
    exact ⟨none, 0, [], rfl, El.nil, Nat.zero_le _, fun x hx => by simp at hx⟩
  · obtain rfl : v = .slice (some a) len cap := by simpa using hc
    simp at hmm
    subst hmm
    rw [hce] at hall
    have each : ∀ i, i < len → ∃ y : V, (∀ (j : Nat) u, (E.cells y)[j]? = some u → W.cell? (a.add (i * E.m + j)) = some u) ∧ Pr y := by
      intro i hi
      obtain ⟨cs', h1, h2⟩ := hall i (by omega)
      obtain ⟨_, hlen, hcell⟩ := World.cells?_some h1
      obtain ⟨y, rfl, hy⟩ := hone hlen h2
      refine ⟨y, fun j u hu => ?_, hy⟩
      have e := hcell j (by have := (List.getElem?_eq_some_iff.1 hu).1; rw [hlen] at this; exact this)
      rw [add_add] at e
      rw [e]
      exact hu
    obtain ⟨f, hf⟩ := choose_lt each
    refine ⟨some a, m, (List.range len).map f, by simp, ⟨fun i x hx => ?_⟩, by simp; omega, fun x hx => ?_⟩
    · have hi : i < len := by have := (List.getElem?_eq_some_iff.1 hx).1; simpa using this
      obtain rfl : f i = x := by simpa [hi] using hx
      obtain ⟨h1, _⟩ := hf 0 (by omega)
      have hm0 : 0 < (E.cells (f 0)).length := by rw [E.len]; exact E.hm
      have h0 := h1 0 _ (List.getElem?_eq_getElem hm0)
      rw [Nat.zero_mul, Nat.add_zero, show a.add 0 = a by simp [Addr.add]] at h0
      obtain ⟨b, o, rfl, hb⟩ := spot_none h0
      refine ⟨b, o, rfl, hb, fun j u hu => ?_⟩
      have g := (hf i hi).1 j u hu
      rw [add_at] at g
      rw [Nat.add_assoc]
      exact g
    · obtain ⟨i, hi, rfl⟩ := List.mem_map.1 hx
      exact (hf i (List.mem_range.1 hi)).2
end
end Go.Proofs.Ytfikdocpcepmmaa
