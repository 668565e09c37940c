/- fsm's tables in memory; Next; Name. -/
import Derived.Test.YtbgkhggohlbdbaaDoorFsmB
import Derived.Test.YtbgkhggohlbdbaaDoorFsmC
namespace Go.Proofs.YtbgkhggohlbdbaaDoor
open Go.RowKit

def rowA (r : RowF) : List Value := [.int .i64 r.s, .int .i64 r.e, .int .i64 r.k, .int .i64 r.n]
def rowsA : List Value := rowsF.flatMap rowA
def namesF : List ByteArray := [⟨#[83, 116, 97, 114, 116, 117, 112]⟩, ⟨#[78, 111, 114, 109, 97, 108]⟩, ⟨#[73, 110, 116, 101, 114, 114, 117, 112, 116, 101, 100]⟩, ⟨#[80, 97, 114, 116, 110, 101, 114, 68, 111, 119, 110]⟩, ⟨#[67, 111, 110, 102, 108, 105, 99, 116]⟩, ⟨#[82, 101, 115, 73, 110, 116, 101, 114, 114, 117, 112, 116, 101, 100]⟩, ⟨#[82, 101, 99, 111, 118, 101, 114]⟩, ⟨#[82, 101, 99, 111, 118, 101, 114, 87, 97, 105, 116]⟩, ⟨#[82, 101, 99, 111, 118, 101, 114, 68, 111, 110, 101]⟩]
def namesA : List Value := namesF.map .string

/-- fsm's two tables are as the program lays them. -/
structure TabF (w : World) : Prop where
  rows : ∃ t fr, w.heap[0]? = some (.cells rowsA.toArray t fr)
  names : ∃ t fr, w.heap[1]? = some (.cells namesA.toArray t fr)
theorem heap_lt {w : World} {g : Nat} {o : Obj} (h : w.heap[g]? = some o) : g < w.heap.size := (Array.getElem?_eq_some_iff.1 h).1
theorem TabF.below {w w' : World} {B : Nat} (h : TabF w) (hb : Below B w w') (hB : w.heap.size ≤ B) : TabF w' := by
  obtain ⟨⟨t, fr, h1⟩, ⟨t', fr', h2⟩⟩ := h
  exact ⟨⟨t, fr, (hb.block _ (Nat.lt_of_lt_of_le (heap_lt h1) hB)).trans h1⟩, ⟨t', fr', (hb.block _ (Nat.lt_of_lt_of_le (heap_lt h2) hB)).trans h2⟩⟩
theorem TabF.next {w w' : World} (h : TabF w) (hb : Below w.heap.size w w') : TabF w' := h.below hb (Nat.le_refl _)
theorem TabF.name {w : World} (h : TabF w) (i : Nat) (l : ByteArray) (hi : namesF[i]? = some l) : w.cell? ⟨1, i, none⟩ = some (.string l) := by
  obtain ⟨_, ⟨t, fr, h⟩⟩ := h
  rw [cell_of_row w _ i _ _ _ h]
  simp [namesA, hi]

theorem rowsA_size : rowsA.toArray.size = 76 := by decide
theorem infoF : (Tryd.prog.info? 34).map (·.size) = some 76 := by kernel_rfl
theorem infoR : (Tryd.prog.info? 33).map (·.size) = some 4 := by kernel_rfl
section
variable {ops : Array Oper} {rest : List Oper} {o : Oper} {a : Act} {w : World} {Q : Exit → Act → World → Prop}
theorem wp_loadF (hgd : o.guard = none) (x : Operand) (ho : o.op = .load 34 x) (hx : a.eval x = .pointer (some ⟨0, 0, none⟩)) (hT : TabF w)
    (h : wpList Tryd.prog ops Q rest (a.put o.dst (.agg rowsA.toArray)) w) : wpList Tryd.prog ops Q (o :: rest) a w := by
  obtain ⟨⟨t, fr, h1⟩, _⟩ := hT
  exact wpList_load_row hgd _ x ho _ hx t _ _ _ h1 Tryd.underlying34 rfl (infoF.trans (by rw [rowsA_size])) h
end
theorem at_row {j : Nat} {r : RowF} (h : rowsF[j]? = some r) : rowsA.toArray.extract (j * 4) (j * 4 + 4) = (rowA r).toArray := by
  have hj : j < 19 := by have := (List.getElem?_eq_some_iff.1 h).1; simpa [rowsF] using this
  match j, hj, h with
  | 0, _, h | 1, _, h | 2, _, h | 3, _, h | 4, _, h | 5, _, h | 6, _, h | 7, _, h | 8, _, h | 9, _, h | 10, _, h | 11, _, h | 12, _, h | 13, _, h | 14, _, h | 15, _, h | 16, _, h | 17, _, h | 18, _, h =>
    obtain rfl := Option.some.inj h
    rfl
theorem run_rowF {j : Nat} {r : RowF} (h : rowsF[j]? = some r) (W : World) : (Instr.index 34 (.agg rowsA.toArray) (.int .i64 (j : Int))).run Tryd.prog W = .ok (.agg (rowA r).toArray) W := by
  have hj : j < 19 := by have := (List.getElem?_eq_some_iff.1 h).1; simpa [rowsF] using this
  obtain ⟨x, hx, hz⟩ := Option.map_eq_some_iff.1 infoR
  have h6' : (0 : Int) ≤ (j : Int) ∧ (j : Int) < ((19 : Nat) : Int) := by omega
  have hagg : (isAgg 33).run Tryd.prog W = .ok true W := by
    unfold isAgg
    rw [Sem.run_bind, run_underlying Tryd.underlying33 W]
    rfl
  simp only [Instr.index, asIntOf, Sem.run_bind, Sem.run_pure, Result.andThen_ok, run_underlying Tryd.underlying34, if_pos h6', sizeOf, typeInfo, run_program, hx, hz, part, hagg, if_true, Int.toNat_natCast, at_row h]

set_option maxHeartbeats 1000000 in
theorem next_any (s e o : Int) (w : World) (hT : TabF w) : Calls Tryd.prog 9 #[.int .i64 s, .int .i64 e, .int .i64 o] w fun e' w' => e' = .returned (.int .i64 (nextI evN s e o)) ∧ Below w.heap.size w w' := by
  have HV : Hid (nextI evN s e o = nextF s e o rowsF) := Lib.hid (nextF_eq s e o).symm
  generalize nextI evN s e o = v at *
  have HT := Lib.hid hT
  clear hT
  have HI : Hid (∀ (j : Nat) (r : RowF), rowsF[j]? = some r → ∀ W, (Instr.index 34 (.agg rowsA.toArray) (.int .i64 (j : Int))).run Tryd.prog W = .ok (.agg (rowA r).toArray) W) := Lib.hid fun j r h W => run_rowF h W
  have HL : Hid (∀ (a : Act) (w : World) (ops : Array Oper) (rest : List Oper) (o : Oper) (Q : Exit → Act → World → Prop) (x : Operand), o.guard = none → o.op = .load 34 x → a.eval x = .pointer (some ⟨0, 0, none⟩) → TabF w → wpList Tryd.prog ops Q rest (a.put o.dst (.agg rowsA.toArray)) w → wpList Tryd.prog ops Q (o :: rest) a w) := Lib.hid fun a w ops rest o Q x hgd ho hx hT h => wp_loadF hgd x ho hx hT h
  have HR : Hid (∀ j, j < 19 → ∃ r, rowsF[j]? = some r) := Lib.hid fun j hj => ⟨_, List.getElem?_eq_getElem (show j < rowsF.length from hj)⟩
  have HD : Hid (∀ (j : Nat) (r : RowF), rowsF[j]? = some r → rowsF.drop j = r :: rowsF.drop (j + 1)) := Lib.hid fun j r h => by
    obtain ⟨h1, h2⟩ := List.getElem?_eq_some_iff.1 h
    rw [List.drop_eq_getElem_cons h1, h2]
  have HE : Hid (rowsF.drop 19 = []) := Lib.hid rfl
  have HZ : Hid (rowsF.drop 0 = rowsF) := Lib.hid rfl
  generalize rowsA.toArray = C at *
  generalize rowsF = F at *
  go_enter Tryd.func9, Tryd.ntmps9
  go_wp2_with (refine HL.out _ _ _ _ _ _ _ rfl rfl rfl HT.out ?_)
  go_loopw [10] (fun i wr => ∃ k : Nat, k ≤ 19 ∧ i = .int .i64 k ∧ v = nextF s e o (F.drop k) ∧ Below w.heap.size w wr) (fun i _ => 19 - (intOf i).toNat)
  case atStart => exact ⟨0, Nat.zero_le _, rfl, by rw [HZ.out]; exact HV.out, Below.refl _ _⟩
  case round =>
    obtain ⟨k, hk, rfl, hv, hb⟩ := hrel
    by_cases hlt : k < 19
    · have hd : decide ((k : Int) < 19) = true := by simp; omega
      obtain ⟨r, hr⟩ := HR.out k hlt
      have hi := HI.out k r hr
      rw [HD.out k r hr] at hv
      have HB := Lib.hid hb
      have HA := Lib.hid (fun V => has_any r.k o V)
      have HM : Hid (v = if r.s == s && r.e == e && hasV r.k o then r.n else nextF s e o (F.drop (k + 1))) := Lib.hid (hv.trans rfl)
      clear hv hr hb
      unfold rowA at hi
      obtain ⟨rs, re, rk, rn⟩ := r
      simp only at hi HA HM
      cases hs : rs == s
      · rw [hs] at HM
        go_wp2
        go_roundw
        case rel => exact ⟨k + 1, by omega, by go_num, HM.out, HB.out.alloc HB.out.size _⟩
        case measure => simp [intOf]; omega
      · cases he : re == e
        · rw [hs, he] at HM
          go_wp2
          go_roundw
          case rel => exact ⟨k + 1, by omega, by go_num, HM.out, HB.out.alloc HB.out.size _⟩
          case measure => simp [intOf]; omega
        · rw [hs, he] at HM
          cases hh : hasV rk o
          · rw [hh] at HM HA
            clear hh
            go_wp2_with fail
            refine (HA.out _).mono ?_
            rintro e w' ⟨rfl, rfl⟩
            go_wp2
            go_roundw
            case rel => exact ⟨k + 1, by omega, by go_num, HM.out, HB.out.alloc HB.out.size _⟩
            case measure => simp [intOf]; omega
          · rw [hh] at HM HA
            clear hh
            go_wp2_with fail
            refine (HA.out _).mono ?_
            rintro e w' ⟨rfl, rfl⟩
            go_wp2
            go_ret
            rw [HM.out]
            exact ⟨rfl, HB.out.alloc HB.out.size _⟩
    · obtain rfl : k = 19 := by omega
      rw [HE.out] at hv
      have HN : Hid (v = s) := Lib.hid hv
      have HB := Lib.hid hb
      clear hv hb
      go_wp2
      go_ret
      rw [HN.out]
      exact ⟨rfl, HB.out⟩

def nameF (s : Int) : ByteArray := if isStB s then namesF.getD s.toNat ⟨#[]⟩ else ⟨#[]⟩
theorem name_any (s : Int) (w : World) (hT : TabF w) : Calls Tryd.prog 15 #[.int .i64 s] w fun e w' => e = .returned (.string (nameF s)) ∧ w = w' := by
  have HA := Lib.hid (fun V => isState_any s V)
  unfold nameF
  cases hs : isStB s
  · rw [hs] at HA
    clear hs hT
    go_enter Tryd.func15, Tryd.ntmps15
    go_wp2_with fail
    refine (HA.out _).mono ?_
    rintro e w' ⟨rfl, rfl⟩
    go_wp2
    go_ret
    exact ⟨rfl, rfl⟩
  · rw [hs] at HA
    have c0 := hT.name 0 _ rfl
    have c1 := hT.name 1 _ rfl
    have c2 := hT.name 2 _ rfl
    have c3 := hT.name 3 _ rfl
    have c4 := hT.name 4 _ rfl
    have c5 := hT.name 5 _ rfl
    have c6 := hT.name 6 _ rfl
    have c7 := hT.name 7 _ rfl
    have c8 := hT.name 8 _ rfl
    rcases st_cases hs with rfl | rfl | rfl | rfl | rfl | rfl | rfl | rfl | rfl
    all_goals
      clear hs hT
      go_enter Tryd.func15, Tryd.ntmps15
      go_wp2_with fail
      refine (HA.out _).mono ?_
      rintro e w' ⟨rfl, rfl⟩
      go_wp2
      go_ret
      exact ⟨rfl, rfl⟩

theorem run_nameF (s : Int) (hs : isStB s = true) (W : World) : (Instr.index 37 (.agg namesA.toArray) (.int .i64 s)).run Tryd.prog W = .ok (.string (nameF s)) W := by
  obtain ⟨x, hx, hz⟩ := Option.map_eq_some_iff.1 (show (Tryd.prog.info? 9).map (fun i => i.size) = some 1 by kernel_rfl)
  have hagg : (isAgg 9).run Tryd.prog W = .ok false W := by
    unfold isAgg
    rw [Sem.run_bind, run_underlying Tryd.underlying9 W]
    rfl
  have h6' : (0 : Int) ≤ s ∧ s < ((9 : Nat) : Int) := by
    unfold isStB at hs
    simp at hs
    omega
  have hc : namesA.toArray[s.toNat * 1]? = some (.string (nameF s)) := by
    unfold nameF
    rw [if_pos hs]
    rcases st_cases hs with rfl | rfl | rfl | rfl | rfl | rfl | rfl | rfl | rfl <;> rfl
  simp only [Instr.index, asIntOf, Sem.run_bind, Sem.run_pure, Result.andThen_ok, run_underlying Tryd.underlying37, if_pos h6', sizeOf, typeInfo, run_program, hx, hz, part, hagg, hc, Bool.false_eq_true, if_false]
set_option maxHeartbeats 1000000 in
theorem rname_any (s : Int) (w : World) : Calls Tryd.prog 16 #[.int .i64 s] w fun e w' => e = .returned (.string (nameF s)) ∧ w = w' := by
  cases hs : isStB s
  · have hn : nameF s = ⟨#[]⟩ := by
      unfold nameF
      rw [hs]
      rfl
    rw [hn]
    have hor : decide (s < 0) = true ∨ (decide (s < 0) = false ∧ decide (8 < s) = true) := by
      unfold isStB at hs
      simp at hs
      simp
      omega
    clear hs hn
    rcases hor with h1 | ⟨h1, h2⟩
    all_goals
      go_enter Tryd.func16, Tryd.ntmps16
      go_wp2
      go_ret
      exact ⟨rfl, rfl⟩
  · have hi := run_nameF s hs
    have h1 : decide (s < 0) = false := by
      unfold isStB at hs
      simp at hs
      simp
      omega
    have h2 : decide (8 < s) = false := by
      unfold isStB at hs
      simp at hs
      simp
      omega
    clear hs
    generalize nameF s = x at *
    have hA : namesA.toArray = #[.string ⟨#[83, 116, 97, 114, 116, 117, 112]⟩, .string ⟨#[78, 111, 114, 109, 97, 108]⟩, .string ⟨#[73, 110, 116, 101, 114, 114, 117, 112, 116, 101, 100]⟩, .string ⟨#[80, 97, 114, 116, 110, 101, 114, 68, 111, 119, 110]⟩, .string ⟨#[67, 111, 110, 102, 108, 105, 99, 116]⟩, .string ⟨#[82, 101, 115, 73, 110, 116, 101, 114, 114, 117, 112, 116, 101, 100]⟩, .string ⟨#[82, 101, 99, 111, 118, 101, 114]⟩, .string ⟨#[82, 101, 99, 111, 118, 101, 114, 87, 97, 105, 116]⟩, .string ⟨#[82, 101, 99, 111, 118, 101, 114, 68, 111, 110, 101]⟩] := rfl
    rw [hA] at hi
    clear hA
    go_enter Tryd.func16, Tryd.ntmps16
    go_wp2
    go_ret
    exact ⟨rfl, rfl⟩
end Go.Proofs.YtbgkhggohlbdbaaDoor
