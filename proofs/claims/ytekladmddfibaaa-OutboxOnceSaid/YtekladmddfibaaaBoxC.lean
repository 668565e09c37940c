/- The document's box: a moment is stored in place; Again, Tick. -/
import Derived.Test.YtekladmddfibaaaBoxA
namespace Go.Proofs.Ytekladmddfibaaa
open Go.RowKit Go.Sort

theorem ecells_cell {P : Program} {V : Type} (E : Elem P V) : ∀ (l : List V) (i k : Nat) (x x' : V) (u : Value), l[i]? = some x → k < E.m → E.cells x' = (E.cells x).set k u → (ecells E l).set (i * E.m + k) u = ecells E (l.set i x')
  | [], i, _, _, _, _, h, _, _ => by simp at h
  | y :: r, 0, k, x, x', u, h, hk, hc => by
    obtain rfl : y = x := by simpa using h
    rw [List.set_cons_zero, ecells_cons, ecells_cons, hc, Nat.zero_mul, Nat.zero_add, List.set_append_left _ _ (by rw [E.len]; exact hk)]
  | y :: r, i + 1, k, x, x', u, h, hk, hc => by
    rw [List.set_cons_succ, ecells_cons, ecells_cons, List.set_append_right _ _ (by rw [E.len, Nat.succ_mul]; omega), E.len, show (i + 1) * E.m + k - E.m = i * E.m + k by rw [Nat.succ_mul]; omega, ecells_cell E r i k x x' u (by simpa using h) hk hc]

/-- The world cut off behind some blocks. -/
def cutW (w : World) (n : Nat) : World := { w with heap := w.heap.extract 0 n }
theorem cutW_size {w : World} {n : Nat} (h : n ≤ w.heap.size) : (cutW w n).heap.size = n := by
  show (w.heap.extract 0 n).size = n
  rw [Array.size_extract]; omega
theorem cutW_below {w : World} {n : Nat} (h : n ≤ w.heap.size) : Below n (cutW w n) w :=
  ⟨rfl, rfl, rfl, by rw [cutW_size h]; exact h, fun k hk => by
    show w.heap[k]? = (w.heap.extract 0 n)[k]?
    rw [Array.getElem?_extract, if_pos (by omega), Nat.zero_add]⟩
theorem RowE.of_cut {P : Program} {V : Type} {E : Elem P V} {w : World} {n : Nat} {v : Value} {l : List V} (hn : n ≤ w.heap.size) (h : w.ownsRow n E.e E.m v l.length (ecells E l)) : RowE E (cutW w n) w v l := by
  refine ⟨?_, ?_⟩
  · rw [cutW_size hn]; exact h
  · rw [cutW_size hn]; exact cutW_below hn

section
variable {w w' : World} {r : Nat} {vL vW : Value} {B : BxV}
/-- The moment of one that is out is stored. -/
theorem DAtB.setS (h : DAtB w r vL vW B) (j : Nat) (o : OutV) (n : Int) (ho : B.l[j]? = some o) : ∃ g1 c, vL = .slice (some ⟨g1, 0, none⟩) B.l.length c ∧ w.frozen? ⟨g1, j * 12 + 11, none⟩ = false ∧
    DAtB (w.setCell ⟨g1, j * 12 + 11, none⟩ (.int .i64 n)) r vL vW ⟨B.l.set j ⟨o.m, n⟩, B.w, B.xid⟩ ∧ Way (DQ r vL vW) w (DQ r vL vW) (w.setCell ⟨g1, j * 12 + 11, none⟩ (.int .i64 n)) := by
  have hr := h.rl
  have hb := h.box
  have hw := h.rw_
  have hj := (List.getElem?_eq_some_iff.1 ho).1
  obtain ⟨A, c, rfl, hlc⟩ := own_form hr
  have hA : ∃ g1, A = some ⟨g1, 0, none⟩ := by
    rcases hr.2 with ⟨h1, h2⟩ | ⟨g1, cap, cur, h1, _⟩
    · injection h1 with _ h1 _; omega
    · injection h1 with h1
      exact ⟨g1, h1⟩
  obtain ⟨g1, rfl⟩ := hA
  have hne : g1 ≠ r := fun e => own_other hr hb (by decide) (by rw [e]; rfl)
  refine ⟨g1, c, rfl, hr.frozenAt _, ⟨(Below.heap_setCell w ⟨g1, j * 12 + 11, none⟩ _ r (fun e => hne e.symm)).trans hb, ?_, own_keep hw fun b hb2 => Below.heap_setCell w ⟨g1, j * 12 + 11, none⟩ _ b (fun e => ?_)⟩, way_set w g1 (j * 12 + 11) _ (.inr (.inl rfl))⟩
  · have h1 := (hr.stored (j * 12 + 11) (.int .i64 n)).1
    have h2 : (ecells ElemO B.l).set (j * 12 + 11) (.int .i64 n) = ecells ElemO (B.l.set j ⟨o.m, n⟩) := ecells_cell ElemO B.l j 11 o ⟨o.m, n⟩ (.int .i64 n) ho (by decide) rfl
    rw [h2] at h1
    show World.ownsRow _ _ _ _ _ (B.l.set j ⟨o.m, n⟩).length _
    rw [List.length_set]
    exact h1
  · have e : b = g1 := e
    exact own_apart2 hr hw (by decide) b (by rw [e]; rfl) hb2
end

/-- A list of which the first ones were changed already. -/
def halfL {α : Type} (f : α → α) (l : List α) (j : Nat) : List α := (l.take j).map f ++ l.drop j
theorem half_zero {α : Type} (f : α → α) (l : List α) : halfL f l 0 = l := by simp [halfL]
theorem half_len {α : Type} (f : α → α) (l : List α) (j : Nat) : (halfL f l j).length = l.length := by simp [halfL]; omega
theorem half_all {α : Type} (f : α → α) (l : List α) : halfL f l l.length = l.map f := by simp [halfL]
theorem half_at {α : Type} (f : α → α) (l : List α) {j : Nat} (hj : j < l.length) : (halfL f l j)[j]? = l[j]? := by
  unfold halfL
  rw [List.getElem?_append_right (by simp; omega), List.length_map, List.length_take, Nat.min_eq_left (by omega), Nat.sub_self, List.getElem?_drop, Nat.add_zero]
theorem half_set {α : Type} (f : α → α) (l : List α) {j : Nat} {x : α} (hx : l[j]? = some x) : (halfL f l j).set j (f x) = halfL f l (j + 1) := by
  obtain ⟨hj, he⟩ := List.getElem?_eq_some_iff.1 hx
  unfold halfL
  rw [List.set_append_right _ _ (by simp; omega), List.length_map, List.length_take, Nat.min_eq_left (by omega), Nat.sub_self, List.drop_eq_getElem_cons hj, List.set_cons_zero, take_snoc_of l j x hx, List.map_append, List.append_assoc]
  rfl
theorem half_same {α : Type} (f : α → α) (l : List α) {j : Nat} {x : α} (hx : l[j]? = some x) (hf : f x = x) : halfL f l (j + 1) = halfL f l j := by
  rw [← half_set f l hx, hf]
  obtain ⟨hj, _⟩ := List.getElem?_eq_some_iff.1 hx
  refine List.ext_getElem? fun k => ?_
  rw [List.getElem?_set]
  split
  · rename_i e
    subst e
    rw [if_pos (by rw [half_len]; exact hj), half_at f l hj, hx]
  · rfl

set_option maxRecDepth 100000 in
set_option maxHeartbeats 2000000 in
theorem ragain_any {w : World} {r : Nat} {vL vW : Value} {B : BxV} (h : DAtB w r vL vW B) (hok : B.Ok) :
    Calls Try.prog 32 #[.pointer (some ⟨r, 0, none⟩)] w fun e w' => e = .returned (.tuple #[]) ∧ DAtB w' r vL vW B.again ∧ Way (DQ r vL vW) w (DQ r vL vW) w' := by
  have hlen := hok.len
  have HD := Lib.hid h
  clear h hok
  obtain ⟨f, hf⟩ : ∃ f : OutV → OutV, f = fun o => ⟨o.m, -1⟩ := ⟨_, rfl⟩
  have HF := Lib.hid hf
  clear hf
  go_enter Try.func32, Try.ntmps32
  go_wp2
  go_loopw [2] (fun i wr => ∃ j : Nat, j ≤ B.l.length ∧ i = .int .i64 j ∧ Hid (DAtB wr r vL vW ⟨halfL f B.l j, B.w, B.xid⟩) ∧ Hid (Way (DQ r vL vW) w (DQ r vL vW) wr)) (fun i _ => B.l.length - (intOf i).toNat)
  case atStart => exact ⟨0, Nat.zero_le _, rfl, Lib.hid (by rw [half_zero]; exact HD.out), Lib.hid (Way.refl _ _)⟩
  case round =>
    obtain ⟨j, hj, rfl, HR, HY⟩ := hrel
    have c0 := cell_of_row wr r 0 _ _ _ HR.out.box
    obtain ⟨A, c, hvL, -, hlc, hE⟩ := HR.out.readL
    have hl := half_len f B.l j
    rw [show (⟨halfL f B.l j, B.w, B.xid⟩ : BxV).l.length = B.l.length from hl] at hvL hlc
    by_cases hlt : j < B.l.length
    · obtain ⟨x, hx⟩ : ∃ x, B.l[j]? = some x := ⟨_, List.getElem?_eq_getElem hlt⟩
      have hx' : (halfL f B.l j)[j]? = some x := by rw [half_at f B.l hlt, hx]
      obtain ⟨g1, c', hv2, hfz, hd2, hw2⟩ := HR.out.setS j x (-1) hx'
      obtain ⟨b, o, hA, -, -, x11⟩ := hE.at12 j x hx'
      have e1 : Value.slice A B.l.length c = Value.slice (some ⟨g1, 0, none⟩) (halfL f B.l j).length c' := by rw [← hvL, hv2]
      injection e1 with e1 e2 e3
      subst e1
      injection hA with hA
      injection hA with hA1 hA2
      subst hA1 hA2
      rw [Nat.zero_add] at x11
      have HSET := Lib.hid (show (halfL f B.l j).set j ⟨x.m, -1⟩ = halfL f B.l (j + 1) by have := half_set f B.l hx; rw [HF.out] at this ⊢; exact this)
      have HD2 := Lib.hid hd2
      have HY2 := Lib.hid (HY.out.trans hw2)
      have HV := Lib.hid hvL
      rw [show (#[vL, vW, Value.int IntKind.i64 (⟨halfL f B.l j, B.w, B.xid⟩ : BxV).xid] : Array Value)[0]? = some (.slice (some ⟨g1, 0, none⟩) B.l.length c) by rw [hvL]; rfl] at c0
      clear hvL hv2 hd2 hw2 hE hx hx' e2 e3 hl
      go_wp2
      go_roundw
      case rel =>
        refine ⟨j + 1, by omega, by go_num, Lib.hid ?_, HY2⟩
        rw [← HSET.out]
        exact HD2.out
      case measure => simp [intOf]; omega
    · obtain rfl : j = B.l.length := by omega
      rw [show (#[vL, vW, Value.int IntKind.i64 (⟨halfL f B.l B.l.length, B.w, B.xid⟩ : BxV).xid] : Array Value)[0]? = some (.slice A B.l.length c) by rw [hvL]; rfl] at c0
      have HV := Lib.hid hvL
      clear hvL hE hl
      have HEND : Hid (DAtB wr r vL vW B.again) := Lib.hid (by have := HR.out; rw [half_all, HF.out] at this; exact this)
      go_wp2
      go_end0
      exact ⟨rfl, HEND.out, HY.out⟩
end Go.Proofs.Ytekladmddfibaaa
