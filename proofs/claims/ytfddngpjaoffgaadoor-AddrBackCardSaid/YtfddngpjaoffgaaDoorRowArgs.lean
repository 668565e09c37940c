/- An argument that is a list of ranges, opened; the table that the rows list. -/
import Derived.Test.YtfddngpjaoffgaaDoorRowKit
namespace Go.Proofs.YtfddngpjaoffgaaDoor
open Go.ChangeShapes Go.WideShapes Go.ChangeAt Go.RowKit Go.Deep

theorem own : ownKnob Tryd.prog.godebug = none := by kernel_rfl
theorem laidOut : laidOutB Tryd.prog = true := by kernel_rfl
theorem cellsR : Tryd.prog.cellsOf 40 = 2 := by kernel_rfl
theorem cellsA : Tryd.prog.cellsOf 23 = 1 := by kernel_rfl

theorem readL : Tryd.prog.readableRec 30 = true ∧ 30 < Tryd.prog.types.size := ⟨by kernel_rfl, of_decide_eq_true (by kernel_rfl)⟩
theorem readA : Tryd.prog.readableRec 23 = true ∧ 23 < Tryd.prog.types.size := ⟨by kernel_rfl, of_decide_eq_true (by kernel_rfl)⟩
theorem readI : Tryd.prog.readableRec 3 = true ∧ 3 < Tryd.prog.types.size := ⟨by kernel_rfl, of_decide_eq_true (by kernel_rfl)⟩

/-- The cells of a table of integers, as a row lists it. -/
def tabCells (k : IntKind) (zs : List Int) : Array Value := (zs.map fun z => Value.int k z).toArray
def put (w : World) (g : Nat) (cs : Array Value) : World :=
  { w with heap := w.heap.modify g fun
      | .cells _ t frozen => .cells cs t frozen
      | o => o }
/-- The numbers of a listed table. -/
def numsOf : DataW Unit → List Int
  | .agg ds => ds.map fun
      | .lit (.int _ n) => n
      | _ => 0
  | _ => []

/-- A world in which the three tables are laid. -/
noncomputable def laidWorld (os : Os) : World :=
  put (put (put (World.holding Tryd.prog os ⟨#[], #[], []⟩) 6 (tabCells .u8 (numsOf Rows.laid_math_bits_deBruijn32tab))) 7 (tabCells .u8 (numsOf Rows.laid_math_bits_deBruijn64tab)))
    3 (tabCells .u64 (numsOf Rows.laid_internal_strconv_uint64pow10))

section
variable {H : Type} {enc : TypeId × Value → H}

set_option maxRecDepth 100000 in
theorem open_ranges {W : World} {base : Nat} {v : Value} {d : DataW H} {p : List MemPlace} (hv : Value.okWide Tryd.prog W .any base 30 v) (h : DataW.Trod enc Tryd.prog W 0 (fun _ => true) true 30 v d p) :
    ∃ A c l, v = .slice A l.length c ∧ Rg W W.heap.size A l ∧ l.length ≤ maxLen ∧ (A = none → c = 0) := by
  obtain ⟨a0, len0, cap0, rfl⟩ := okWide_slice Tryd.underlying30 hv
  obtain ⟨fuel, hf⟩ := h
  rcases open_slice_pairs Tryd.underlying30 Tryd.underlying40 cellsR rfl rfl cellsA cellsA hf with ⟨hc, _⟩ | ⟨a, len, cap, m, k, V0, V1, D0, D1, P0, P1, hc, _, hl, hm, hmm, _, hall⟩
  · have hc' : Value.slice a0 len0 cap0 = .slice none 0 0 := by simpa [Value.cells] using hc
    rw [hc']
    exact ⟨none, 0, [], rfl, ⟨fun x hx => by simp at hx, fun i x hx => by simp at hx⟩, Nat.zero_le _, fun _ => rfl⟩
  · have hc' : Value.slice a0 len0 cap0 = .slice (some a) len cap := by simpa [Value.cells] using hc
    rw [hc']
    simp at hmm
    subst hmm
    have each : ∀ i, i < len → ∃ x : Nat × Nat, (V0 i = .int .u32 x.1 ∧ V1 i = .int .u32 x.2) ∧ x.1 < 4294967296 ∧ x.2 < 4294967296 := by
      intro i hi
      obtain ⟨_, _, h3, h4⟩ := hall i (by omega)
      obtain ⟨n0, e0, _, w0⟩ := DataW.trod_int Tryd.underlying23 h3
      obtain ⟨n1, e1, _, w1⟩ := DataW.trod_int Tryd.underlying23 h4
      simp [Lit.wf, IntKind.min, IntKind.max, IntKind.bits, IntKind.signed] at w0 w1
      refine ⟨(n0.toNat, n1.toNat), ⟨?_, ?_⟩, ?_, ?_⟩
      · rw [List.singleton_inj.1 e0]; simp only; rw [Int.toNat_of_nonneg (by omega)]
      · rw [List.singleton_inj.1 e1]; simp only; rw [Int.toNat_of_nonneg (by omega)]
      · simp only; omega
      · simp only; omega
    obtain ⟨f, hf'⟩ := choose_lt each
    refine ⟨some a, m, (List.range len).map f, by simp, ⟨?_, ?_⟩, by simp; omega, fun h => by cases h⟩
    · intro x hx
      obtain ⟨i, hi, rfl⟩ := List.mem_map.1 hx
      exact (hf' i (List.mem_range.1 hi)).2
    · intro i x hx
      have hi : i < len := by have := (List.getElem?_eq_some_iff.1 hx).1; simpa using this
      obtain rfl : f i = x := by simpa [hi] using hx
      obtain ⟨h1, h2, _, _⟩ := hall 0 (by omega)
      have hsp : a.spot = none := by
        obtain ⟨ab, ao, asp⟩ := a
        cases asp with
        | none => rfl
        | some s => simp [Addr.add, World.cell?] at h1; split at h1 <;> simp_all
      obtain ⟨ab, ao, asp⟩ := a
      simp only at hsp
      subst hsp
      obtain ⟨g1, g2, _, _⟩ := hall i (by omega)
      obtain ⟨⟨e0, e1⟩, _⟩ := hf' i hi
      have hadd : ∀ j, (⟨ab, ao, none⟩ : Addr).add j = ⟨ab, ao + j, none⟩ := by
        intro j
        unfold Addr.add
        split
        · rename_i h0; subst h0; rfl
        · rfl
      rw [hadd, e0] at g1
      rw [hadd, e1, ← Nat.add_assoc] at g2
      refine ⟨ab, ao, rfl, ?_, g1, g2⟩
      rcases Nat.lt_or_ge ab W.heap.size with hlt | hge
      · exact hlt
      · simp [World.cell?, Array.getElem?_eq_none hge] at g1

theorem laid_tail {P : Program} {W : World} {x : String × DataW Unit} {rest : List (String × DataW Unit)} {ps : List MemPlace} (h : DataW.LaidVars P W (x :: rest) ps) : ∃ q, DataW.LaidVars P W rest q := by
  obtain ⟨g', t', cs, fuel, p, q, hg', ht', hvar, hd, hr, _⟩ := h
  exact ⟨q, hr⟩

theorem tab_head {P : Program} {W : World} {name : String} {k : IntKind} {zs : List Int} {rest : List (String × DataW Unit)} {g : Nat} {t e : TypeId} {n : Nat} {ps : List MemPlace}
    (hg : P.globalNamed name = some g) (hty : (P.globals[g]?).map (·.type) = some t) (ht : P.underlying t = some (.array n e)) (he : P.underlying e = some (.int k)) (hce : P.cellsOf e = 1) (hct : P.cellsOf t = n)
    (h : DataW.LaidVars P W ((name, Lib.tabData k zs) :: rest) ps) : Lib.TabIs P W name k zs := by
  obtain ⟨g', t', cs, fuel, p, q, hg', ht', hvar, hd, _, _⟩ := h
  obtain rfl := Option.some.inj (hg.symm.trans hg')
  obtain rfl := Option.some.inj (hty.symm.trans ht')
  unfold Lib.TabIs
  rw [hvar, ← Lib.cells_of_tab ht he hce hct hd]

theorem gPow : Tryd.prog.globalNamed "internal/strconv.uint64pow10" = some 3 := by kernel_rfl
theorem gPowType : (Tryd.prog.globals[3]?).map (·.type) = some 117 := by kernel_rfl
theorem cellsP : Tryd.prog.cellsOf 117 = 20 := by kernel_rfl
theorem cellsU : Tryd.prog.cellsOf 44 = 1 := by kernel_rfl

/-- What the rows' list gives: the library's table. -/
theorem tab_of_rows {W : World} {rest : List (String × DataW Unit)} {x y : String × DataW Unit} {ps : List MemPlace} (h : DataW.LaidVars Tryd.prog W (x :: y :: ("internal/strconv.uint64pow10", Rows.laid_internal_strconv_uint64pow10) :: rest) ps) : Tab W := by
  obtain ⟨_, h1⟩ := laid_tail h
  obtain ⟨_, h2⟩ := laid_tail h1
  exact tab_head gPow gPowType Tryd.underlying117 Tryd.underlying44 cellsU cellsP h2
end
end Go.Proofs.YtfddngpjaoffgaaDoor
