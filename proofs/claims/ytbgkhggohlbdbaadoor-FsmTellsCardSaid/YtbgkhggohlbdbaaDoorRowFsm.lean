/- fsm's two tables as a row lists them; a world in which they are laid; arguments that are rows of pairs, and of truths, opened. -/
import Derived.Test.YtbgkhggohlbdbaaDoorRowNum
import Derived.Test.YtbgkhggohlbdbaaDoorCards
import Derived.Test.YtbgkhggohlbdbaaDoorTie
import Derived.Test.YtbgkhggohlbdbaaDoorFsmF
import Derived.Lib.LaidTab
import Derived.WideKeyPair
import Derived.Deep.SlicePairs
import Derived.Deep.DeepWitnessRowRef
import Derived.Stop.LaidErr
namespace Go.Proofs.YtbgkhggohlbdbaaDoor
open Go.ChangeShapes Go.WideShapes Go.ChangeAt Go.RowKit Go.Deep

theorem cellsF4 : Tryd.prog.cellsOf 33 = 4 := by kernel_rfl
theorem cellsF76 : Tryd.prog.cellsOf 34 = 76 := by kernel_rfl
theorem cellsF1 : Tryd.prog.cellsOf 3 = 1 := by kernel_rfl
theorem cellsF9 : Tryd.prog.cellsOf 37 = 9 := by kernel_rfl
theorem cellsFs : Tryd.prog.cellsOf 9 = 1 := by kernel_rfl
theorem gRows : Tryd.prog.globalNamed "lessor/fsm.rows" = some 0 := by kernel_rfl
theorem gRowsType : (Tryd.prog.globals[0]?).map (·.type) = some 34 := by kernel_rfl
theorem gNames : Tryd.prog.globalNamed "lessor/fsm.names" = some 1 := by kernel_rfl
theorem gNamesType : (Tryd.prog.globals[1]?).map (·.type) = some 37 := by kernel_rfl

/-- A list of cells is its pieces. -/
theorem pieces {α : Type} (n : Nat) (l : List α) : ∀ (m : Nat) (cs : List α), cs.length = m * n → (∀ i, i < m → (cs.drop (i * n)).take n = (l.drop (i * n)).take n) → l.length = m * n → cs = l := by
  intro m cs hc h hl
  apply List.ext_getElem?
  intro k
  by_cases hk : k < m * n
  · have hn : 0 < n := by
      rcases Nat.eq_zero_or_pos n with h0 | h0
      · subst h0; simp at hk
      · exact h0
    have hi : k / n < m := (Nat.div_lt_iff_lt_mul hn).2 hk
    have e := congrArg (fun x => x[k % n]?) (h (k / n) hi)
    simp only [List.getElem?_take, List.getElem?_drop, if_pos (Nat.mod_lt k hn), Nat.mul_comm (k / n) n, Nat.div_add_mod] at e
    exact e
  · rw [List.getElem?_eq_none (by omega), List.getElem?_eq_none (by omega)]

theorem rows_of_laid {w : World} {base : Nat} {sp : Nat → Bool} {held : Bool} {fuel : Nat} {cs : List Value} {p : List MemPlace}
    (h : DataW.trod (fun _ => ()) Tryd.prog w base sp held fuel 34 cs = some (Rows.laid_lessor_fsm_rows, p)) : cs = rowsA := by
  obtain ⟨xs, m, _, hx, hl, hxl, hat⟩ := DataW.trod_array Tryd.underlying34 h
  rw [cellsF76] at hl
  rw [cellsF4] at hat
  have hx1 := (Prod.mk.inj hx).1
  have hd : xs.map (·.1) = rowsF.map fun r => (Lib.tabData .i64 [r.s, r.e, r.k, r.n] : DataW Unit) := by
    have : (Rows.laid_lessor_fsm_rows : DataW Unit) = .agg (rowsF.map fun r => (Lib.tabData .i64 [r.s, r.e, r.k, r.n] : DataW Unit)) := rfl
    rw [this] at hx1
    exact (DataW.agg.inj hx1).symm
  refine pieces 4 rowsA 19 cs hl (fun i hi => ?_) rfl
  have hi' : i < rowsF.length := hi
  obtain ⟨r, hr⟩ : ∃ r, rowsF[i]? = some r := ⟨_, List.getElem?_eq_getElem hi'⟩
  have h1 := hat i hi
  have h2 : (xs.map (·.1))[i]? = some (Lib.tabData .i64 [r.s, r.e, r.k, r.n]) := by rw [hd]; simp [hr]
  rw [List.getElem?_map] at h2
  obtain ⟨y, hy, hy1⟩ := Option.map_eq_some_iff.1 h2
  rw [hy] at h1
  obtain ⟨y1, y2⟩ := y
  simp only at hy1
  subst hy1
  rw [Lib.cells_of_tab Tryd.underlying33 Tryd.underlying3 cellsF1 cellsF4 h1]
  have := congrArg Array.toList (at_row hr)
  simpa [rowA, List.take_drop, Nat.add_comm] using this.symm

theorem names_of_laid {w : World} {base : Nat} {sp : Nat → Bool} {held : Bool} {fuel : Nat} {cs : List Value} {p : List MemPlace}
    (h : DataW.trod (fun _ => ()) Tryd.prog w base sp held fuel 37 cs = some (Rows.laid_lessor_fsm_names, p)) : cs = namesA := by
  obtain ⟨xs, m, _, hx, hl, hxl, hat⟩ := DataW.trod_array Tryd.underlying37 h
  rw [cellsF9] at hl
  rw [cellsFs] at hat
  have hx1 := (Prod.mk.inj hx).1
  have hd : xs.map (·.1) = namesF.map fun s => (DataW.lit (.string s.data.toList) : DataW Unit) := by
    have : (Rows.laid_lessor_fsm_names : DataW Unit) = .agg (namesF.map fun s => (DataW.lit (.string s.data.toList) : DataW Unit)) := rfl
    rw [this] at hx1
    exact (DataW.agg.inj hx1).symm
  refine pieces 1 namesA 9 cs (by omega) (fun i hi => ?_) rfl
  have hi' : i < namesF.length := hi
  obtain ⟨r, hr⟩ : ∃ r, namesF[i]? = some r := ⟨_, List.getElem?_eq_getElem hi'⟩
  have h1 := hat i hi
  have h2 : (xs.map (·.1))[i]? = some (DataW.lit (.string r.data.toList)) := by rw [hd]; simp [hr]
  rw [List.getElem?_map] at h2
  obtain ⟨y, hy, hy1⟩ := Option.map_eq_some_iff.1 h2
  rw [hy] at h1
  obtain ⟨y1, y2⟩ := y
  simp only at hy1
  subst hy1
  obtain ⟨s, hs, hsx, _⟩ := DataW.trod_string Tryd.underlying9 h1
  have hsr : s = r := by
    have h5 := DataW.lit.inj (Prod.mk.inj hsx).1
    obtain ⟨⟨ds⟩⟩ := s
    obtain ⟨⟨dr⟩⟩ := r
    simpa using h5.symm
  rw [hs, hsr]
  unfold namesA
  rw [Nat.mul_one]
  symm
  apply List.ext_getElem?
  intro j
  rcases j with _ | j
  · simp [List.getElem?_drop, hr]
  · rw [List.getElem?_eq_none (by simp; omega), List.getElem?_eq_none (by simp)]

theorem obj_of_var {w : World} {n : String} {g : Nat} {cs : Array Value} (hg : Tryd.prog.globalNamed n = some g) (h : w.var? Tryd.prog n = some cs) : ∃ t fr, w.heap[g]? = some (.cells cs t fr) := by
  unfold World.var? at h
  rw [hg, Option.bind_some] at h
  split at h
  · rename_i cs' t fr hh
    obtain rfl := Option.some.inj h
    exact ⟨t, fr, hh⟩
  · cases h

/-- What the rows' list gives: fsm's tables. -/
theorem tabF_of_laid {W : World} (h : laidMet Tryd.prog [("lessor/fsm.rows", Rows.laid_lessor_fsm_rows), ("lessor/fsm.names", Rows.laid_lessor_fsm_names)] W) : TabF W := by
  obtain ⟨ps, ⟨g, t, cs, fuel, p, q, hg, ht, hv, hd, hr, _⟩, _⟩ := h
  obtain ⟨g', t', cs', fuel', p', q', hg', ht', hv', hd', _, _⟩ := hr
  obtain rfl := Option.some.inj (gRows.symm.trans hg)
  obtain rfl := Option.some.inj (gRowsType.symm.trans ht)
  obtain rfl := Option.some.inj (gNames.symm.trans hg')
  obtain rfl := Option.some.inj (gNamesType.symm.trans ht')
  have e1 : cs = rowsA.toArray := by rw [← rows_of_laid hd]
  have e2 : cs' = namesA.toArray := by rw [← names_of_laid hd']
  subst e1 e2
  exact ⟨obj_of_var gRows hv, obj_of_var gNames hv'⟩

def putF (w : World) (g : Nat) (cs : Array Value) : World :=
  { w with heap := w.heap.modify g fun
      | .cells _ t frozen => .cells cs t frozen
      | o => o }
/-- A world in which both tables are laid. -/
noncomputable def laidWorldF (os : Os) : World :=
  putF (putF (World.holding Tryd.prog os ⟨#[], #[], []⟩) 0 rowsA.toArray) 1 namesA.toArray
set_option maxRecDepth 1000000 in
theorem laid_metF (os : Os) (wit : Array Value) : laidMet Tryd.prog [("lessor/fsm.rows", Rows.laid_lessor_fsm_rows), ("lessor/fsm.names", Rows.laid_lessor_fsm_names)] ((laidWorldF os).forCall (fun _ _ => 0) ⟨#[], wit, []⟩).memory :=
  laidMet_of_run' 8 (by kernel_rfl) (by kernel_rfl)

theorem readPr : Tryd.prog.readableRec 28 = true ∧ 28 < Tryd.prog.types.size := ⟨by kernel_rfl, of_decide_eq_true (by kernel_rfl)⟩
theorem readBo : Tryd.prog.readableRec 31 = true ∧ 31 < Tryd.prog.types.size := ⟨by kernel_rfl, of_decide_eq_true (by kernel_rfl)⟩
theorem cellsF2 : Tryd.prog.cellsOf 29 = 2 := by kernel_rfl
theorem cellsFb : Tryd.prog.cellsOf 4 = 1 := by kernel_rfl
section
variable {H : Type} {enc : TypeId × Value → H}

/-- A place that can be read has no spot. -/
theorem spot_none {W : World} {a : Addr} {v : Value} (h : W.cell? a = some v) : ∃ b o, a = ⟨b, o, none⟩ ∧ b < W.heap.size := by
  obtain ⟨ab, ao, asp⟩ := a
  cases asp with
  | none =>
    refine ⟨ab, ao, rfl, ?_⟩
    rcases Nat.lt_or_ge ab W.heap.size with hlt | hge
    · exact hlt
    · simp [World.cell?, Array.getElem?_eq_none hge] at h
  | some s => simp [World.cell?] at h; split at h <;> simp_all
theorem add_atF (b o j : Nat) : (⟨b, o, none⟩ : Addr).add j = ⟨b, o + j, none⟩ := by
  unfold Addr.add
  split
  · rename_i h; subst h; rfl
  · rfl
theorem add_addF (a : Addr) (i j : Nat) : (a.add i).add j = a.add (i + j) := by
  obtain ⟨b, o, s⟩ := a
  cases s <;> simp only [Addr.add] <;> (repeat' split) <;> simp_all <;> omega

theorem open_bools {W : World} {fuel : Nat} {v : Value} {x : DataW H × List MemPlace} (h : DataW.trod enc Tryd.prog W 0 (fun _ => true) true fuel 31 [v] = some x) :
    ∃ A c l, v = .slice A l.length c ∧ Bls W W.heap.size A l ∧ l.length ≤ maxLen := by
  rcases open_slice Tryd.underlying31 h with ⟨hc, _⟩ | ⟨a, len, cap, m, k, D, Pl, hc, _, hl, hm, hmm, _, hall⟩
  · obtain rfl : v = .slice none 0 0 := by simpa using hc
    exact ⟨none, 0, [], rfl, ⟨fun i x h => by simp at h⟩, Nat.zero_le _⟩
  · obtain rfl : v = .slice (some a) len cap := by simpa using hc
    simp at hmm
    subst hmm
    rw [cellsFb] at hall
    have each : ∀ i, i < len → ∃ y : Bool, W.cell? (a.add i) = some (.bool y) := by
      intro i hi
      obtain ⟨cs', h1, h2⟩ := hall i (by omega)
      obtain ⟨b, e0, _⟩ := DataW.trod_bool Tryd.underlying4 h2
      obtain ⟨_, _, hat⟩ := World.cells?_some h1
      have h3 := hat 0 (by omega)
      subst e0
      exact ⟨b, by simpa [Addr.add] using h3⟩
    obtain ⟨f, hf⟩ := choose_lt each
    refine ⟨some a, m, (List.range len).map f, by simp, ⟨fun i x hx => ?_⟩, by simp; omega⟩
    have hi : i < len := by have := (List.getElem?_eq_some_iff.1 hx).1; simpa using this
    obtain rfl : f i = x := by simpa [hi] using hx
    obtain ⟨b, o, rfl, hb⟩ := spot_none (hf 0 (by omega))
    have hc' := hf i hi
    rw [add_atF] at hc'
    exact ⟨b, o, rfl, hb, hc'⟩

theorem open_pairs {W : World} {fuel : Nat} {v : Value} {x : DataW H × List MemPlace} (h : DataW.trod enc Tryd.prog W 0 (fun _ => true) true fuel 28 [v] = some x) :
    ∃ A c l, v = .slice A l.length c ∧ Prs W W.heap.size A l ∧ l.length ≤ maxLen := by
  rcases open_slice Tryd.underlying28 h with ⟨hc, _⟩ | ⟨a, len, cap, m, k, D, Pl, hc, _, hl, hm, hmm, _, hall⟩
  · obtain rfl : v = .slice none 0 0 := by simpa using hc
    exact ⟨none, 0, [], rfl, ⟨fun i x h => by simp at h⟩, Nat.zero_le _⟩
  · obtain rfl : v = .slice (some a) len cap := by simpa using hc
    simp at hmm
    subst hmm
    rw [cellsF2] at hall
    have each : ∀ i, i < len → ∃ y : Int × Int, W.cell? (a.add (i * 2)) = some (.int .i64 y.1) ∧ W.cell? (a.add (i * 2 + 1)) = some (.int .i64 y.2) := by
      intro i hi
      obtain ⟨cs', h1, h2⟩ := hall i (by omega)
      obtain ⟨_, hlen, hcell⟩ := World.cells?_some h1
      obtain ⟨xs, q, _, _, _, hxl, hf⟩ := DataW.trod_array Tryd.underlying29 h2
      match xs, hxl, cs', hlen with
      | [y0, y1], _, [v0, v1], _ =>
        have g0 := hf 0 (by omega)
        have g1 := hf 1 (by omega)
        simp [cellsF1] at g0 g1
        have e0 := hcell 0 (by omega)
        have e1 := hcell 1 (by omega)
        rw [add_addF] at e0 e1
        obtain ⟨n0, k0, _, _⟩ := DataW.trod_int Tryd.underlying3 g0
        obtain ⟨n1, k1, _, _⟩ := DataW.trod_int Tryd.underlying3 g1
        obtain rfl : v0 = .int .i64 n0 := List.singleton_inj.1 k0
        obtain rfl : v1 = .int .i64 n1 := List.singleton_inj.1 k1
        exact ⟨(n0, n1), by simpa using e0, by simpa using e1⟩
    obtain ⟨f, hf⟩ := choose_lt each
    refine ⟨some a, m, (List.range len).map f, by simp, ⟨fun i x hx => ?_⟩, by simp; omega⟩
    have hi : i < len := by have := (List.getElem?_eq_some_iff.1 hx).1; simpa using this
    obtain rfl : f i = x := by simpa [hi] using hx
    obtain ⟨b, o, rfl, hb⟩ := spot_none (hf 0 (by omega)).1
    obtain ⟨g0, g1⟩ := hf i hi
    rw [add_atF] at g0 g1
    exact ⟨b, o, rfl, hb, g0, by rw [Nat.add_assoc]; exact g1⟩
end
end Go.Proofs.YtbgkhggohlbdbaaDoor
