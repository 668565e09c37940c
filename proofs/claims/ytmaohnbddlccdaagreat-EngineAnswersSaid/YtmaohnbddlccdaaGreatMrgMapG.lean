/- Joined texts: MapG, MapI. -/
import Derived.Test.YtmaohnbddlccdaaGreatProg
import Derived.Maps.RangeWalk
import Derived.WalkKit
import Derived.Maps.OwnIn
import Derived.RangeFuncNested
import Derived.RangeFuncBound
import Derived.RangeFuncCalls
import Derived.RangeFuncLeaves
import Derived.RangeFuncBox
import Derived.Shelf.Abstract
import Derived.Shelf.RegionOpen
import Derived.OwnWalkIn
import Derived.TacticsInMore
import Derived.LoopNIn
import Derived.LoopIn

/- A map whose keys are integers, as a list that rises by key: how it lies, what is read of it, what a store makes of it, and a range over it. (Names no function and no type of the program: the kind is a letter.) -/
section
namespace Go.Proofs.YtmaohnbddlccdaaGreat
open Go.Maps

/-- A kind of maps: the type, its keys' type and kind, its elements' type and their zero value; an entry x is key x, val x. -/
structure MapKd (P : Program) (V : Type) where
  t : TypeId
  k : TypeId
  e : TypeId
  q : IntKind
  key : V → Int
  val : V → Value
  zero : Value
  und : P.underlying t = some (.map k e)
  uk : P.underlying k = some (.int q)
  hz : ∀ w, (zeroValue e).run P w = .ok zero w

/-- An element reads as itself. -/
def rdV (v : Value) : Option (DataW Value × List MemPlace) := some (.held v, [])

section
variable {P : Program} {V : Type} (K : MapKd P V)
def MapKd.lit (n : Int) : Lit := .int K.q n
def MapKd.ent (x : V) : Lit × DataW Value := (K.lit (K.key x), .held (K.val x))
def MapKd.dat (L : List V) : DataW Value := .map (L.map K.ent)
/-- What is found at a key. -/
def MapKd.findM (L : List V) (n : Int) : Option V := L.find? fun x => decide (K.key x = n)
def MapKd.at_ (L : List V) (n : Int) : Value := match K.findM L n with | some x => K.val x | none => K.zero
def MapKd.isM (L : List V) (n : Int) : Bool := L.any fun x => decide (K.key x = n)
def MapKd.insM (x : V) : List V → List V
  | [] => [x]
  | y :: r => if K.key x < K.key y then x :: y :: r else y :: MapKd.insM x r
def MapKd.putM (L : List V) (x : V) : List V := K.insM x (L.filter fun y => decide (K.key y ≠ K.key x))
/-- The list rises by key, and its keys are of the kind. -/
structure MapKd.Up (L : List V) : Prop where
  up : L.Pairwise fun x y => K.key x < K.key y
  wf : ∀ x ∈ L, (Lit.int K.q (K.key x)).wf = true

theorem MapKd.same (a b : Int) : (K.lit a).sameKey (K.lit b) = decide (a = b) := by simp [MapKd.lit, Lit.sameKey]
theorem MapKd.lit_inj {a b : Int} (h : K.lit a = K.lit b) : a = b := by injection h

theorem MapKd.insM_dat (x : V) : ∀ L : List V, DataW.insert (K.ent x) (L.map K.ent) = (K.insM x L).map K.ent
  | [] => rfl
  | y :: r => by
    simp only [List.map_cons, DataW.insert, MapKd.insM]
    by_cases h : K.key x < K.key y
    · rw [if_pos h, if_pos (by simp [MapKd.ent, MapKd.lit, Lit.before, h])]
      rfl
    · rw [if_neg h, if_neg (by simp [MapKd.ent, MapKd.lit, Lit.before, h]), MapKd.insM_dat x r]
      rfl
theorem MapKd.put_dat (L : List V) (x : V) : (K.dat L).put (K.lit (K.key x)) (.held (K.val x)) = K.dat (K.putM L x) := by
  unfold MapKd.dat DataW.put MapKd.putM
  simp only
  rw [← MapKd.insM_dat, List.filter_map]
  congr 3
  refine List.filter_congr fun y _ => ?_
  show (!(K.lit (K.key y)).sameKey (K.lit (K.key x))) = _
  rw [K.same]
  simp
theorem MapKd.has_dat (L : List V) (n : Int) : Maps.has (K.dat L) (K.lit n) = K.isM L n := by
  unfold MapKd.dat MapKd.isM
  rw [Maps.has_eq, List.any_map]
  congr 1
  funext y
  show (K.lit (K.key y)).sameKey (K.lit n) = _
  rw [K.same]
theorem MapKd.at_dat (L : List V) (n : Int) : (K.dat L).atKey (K.lit n) (.held K.zero) = .held (K.at_ L n) := by
  have hf : (fun y => (K.ent y).1.sameKey (K.lit n)) = fun x => decide (K.key x = n) := by
    funext y
    show (K.lit (K.key y)).sameKey (K.lit n) = _
    rw [K.same]
  unfold MapKd.dat DataW.atKey MapKd.at_ MapKd.findM
  simp only [List.find?_map]
  rw [show ((fun p : Lit × DataW Value => p.1.sameKey (K.lit n)) ∘ K.ent) = fun y => (K.ent y).1.sameKey (K.lit n) from rfl, hf]
  cases L.find? fun x => decide (K.key x = n) with
  | none => rfl
  | some x => rfl
theorem MapKd.size_dat (L : List V) : Maps.size (K.dat L) = L.length := by simp [MapKd.dat, Maps.size]

/-- Block b is a map that holds L. -/
def MapKd.Has (w : World) (b : Nat) (L : List V) : Prop := w.ownsMap P K.k rdV b L.length (K.dat L) ∧ K.Up L
variable {K}
variable {w w' : World} {b : Nat} {L : List V}
theorem MapKd.keyed : Keyed P K.k := int_keyed K.uk
theorem MapKd.Has.of_own {n : Nat} (h : w.ownsMap P K.k rdV b n (K.dat L)) (hu : K.Up L) : K.Has w b L := by
  obtain ⟨es, clock, h1, h2, h3, h4⟩ := h
  refine ⟨⟨es, clock, h1, h2, ?_, h4⟩, hu⟩
  have := congrArg Maps.size h4
  rw [K.size_dat] at this
  rw [this]
  simp [Maps.size, length_sorted]
theorem MapKd.Has.made (w : World) : K.Has (w.alloc (.map #[] 0)) w.heap.size [] := ⟨World.ownsMap_made w P K.k rdV, ⟨List.Pairwise.nil, fun x hx => by simp at hx⟩⟩
theorem MapKd.Has.lt (h : K.Has w b L) : b < w.heap.size := h.1.lt
theorem MapKd.Has.kept {row : Option Nat} (h : K.Has w b L) (hg : w.grownBy w' row) (hne : some b ≠ row) : K.Has w' b L := ⟨h.1.kept hg hne, h.2⟩
theorem MapKd.Has.block (h : K.Has w b L) (hb : w'.heap[b]? = w.heap[b]?) : K.Has w' b L := by
  obtain ⟨⟨es, clock, h1, h2⟩, hu⟩ := h
  exact ⟨⟨es, clock, hb.trans h1, h2⟩, hu⟩

theorem MapKd.Has.alloc (h : K.Has w b L) (o : Obj) : K.Has (w.alloc o) b L := h.kept (World.grownBy_alloc w o none) (by simp)
theorem MapKd.Has.drew (h : K.Has w b L) : K.Has w.drew b L := h
theorem MapKd.Has.setCell (h : K.Has w b L) {p : Addr} (hp : b ≠ p.block) (u : Value) : K.Has (w.setCell p u) b L := ⟨h.1.setCell hp u, h.2⟩

/-- The look-up, as an equation. -/
theorem MapKd.Has.look_ok (h : K.Has w b L) (n : Int) (hn : (Lit.int K.q n).wf = true) : (Instr.lookup K.t (.map (some b)) (.int K.q n) true).run P w = .ok (.tuple #[K.at_ L n, .bool (K.isM L n)]) w := by
  obtain ⟨v, ps, hrun, hv⟩ := h.1.look_ok K.keyed K.und (K.hz w) (zd := .held K.zero) (zp := []) rfl (keyOf_int_mk K.uk hn)
  rw [show Lit.int K.q n = K.lit n from rfl, K.at_dat] at hv
  rw [show Lit.int K.q n = K.lit n from rfl, K.has_dat] at hrun
  simp only [rdV, Option.some.injEq, Prod.mk.injEq, DataW.held.injEq] at hv
  rw [hrun, hv.1]
theorem MapKd.Has.look (h : K.Has w b L) (n : Int) (hn : (Lit.int K.q n).wf = true) : (Instr.lookup K.t (.map (some b)) (.int K.q n) false).run P w = .ok (K.at_ L n) w := by
  obtain ⟨v, ps, hrun, hv⟩ := h.1.lookup K.keyed K.und (K.hz w) (zd := .held K.zero) (zp := []) rfl (keyOf_int_mk K.uk hn)
  rw [show Lit.int K.q n = K.lit n from rfl, K.at_dat] at hv
  simp only [rdV, Option.some.injEq, Prod.mk.injEq, DataW.held.injEq] at hv
  rw [hrun, hv.1]
theorem MapKd.Has.len (h : K.Has w b L) (ty : TypeId) : (Builtin.len_ #[K.t] ty #[.map (some b)]).run P w = .ok (.int .i64 L.length) w := by
  have := h.1.len K.und ty
  rwa [K.size_dat] at this

/-! ### what a store makes of the list -/
theorem MapKd.insM_last (x : V) : ∀ L : List V, (∀ y ∈ L, K.key y < K.key x) → K.insM x L = L ++ [x]
  | [], _ => rfl
  | y :: r, h => by
    have h1 := h y (by simp)
    rw [MapKd.insM, if_neg (by omega), MapKd.insM_last x r (fun z hz => h z (by simp [hz]))]
    rfl
/-- A key behind all. -/
theorem MapKd.putM_last (x : V) (L : List V) (h : ∀ y ∈ L, K.key y < K.key x) : K.putM L x = L ++ [x] := by
  unfold MapKd.putM
  rw [List.filter_eq_self.2 (fun y hy => by have := h y hy; simp; omega), MapKd.insM_last x L h]
/-- A key that is there. -/
theorem MapKd.putM_at (x : V) : ∀ (L : List V) (i : Nat) (y : V), (L.Pairwise fun a b => K.key a < K.key b) → L[i]? = some y → K.key y = K.key x → K.putM L x = L.set i x
  | [], _, _, _, h, _ => by simp at h
  | a :: r, 0, y, hp, h, he => by
    simp at h
    subst h
    obtain ⟨h1, h2⟩ := List.pairwise_cons.1 hp
    unfold MapKd.putM
    rw [List.filter_cons, if_neg (by simp [he]), List.filter_eq_self.2 (fun z hz => by have := h1 z hz; simp; omega), List.set_cons_zero]
    cases r with
    | nil => rfl
    | cons z s => rw [MapKd.insM, if_pos (by have := h1 z (by simp); omega)]
  | a :: r, i + 1, y, hp, h, he => by
    obtain ⟨h1, h2⟩ := List.pairwise_cons.1 hp
    have h3 : r[i]? = some y := by simpa using h
    have hlt := h1 y (List.mem_of_getElem? h3)
    have ih := MapKd.putM_at x r i y h2 h3 he
    unfold MapKd.putM at ih ⊢
    rw [List.filter_cons, if_pos (by simp; omega), MapKd.insM, if_neg (by omega), ih, List.set_cons_succ]
theorem MapKd.mem_insM (x : V) : ∀ (L : List V) (y : V), y ∈ K.insM x L ↔ y = x ∨ y ∈ L
  | [], y => by simp [MapKd.insM]
  | a :: r, y => by
    rw [MapKd.insM]
    split
    · simp
    · rw [List.mem_cons, MapKd.mem_insM x r y, List.mem_cons]
      constructor
      · rintro (h | h | h)
        · exact .inr (.inl h)
        · exact .inl h
        · exact .inr (.inr h)
      · rintro (h | h | h)
        · exact .inr (.inl h)
        · exact .inl h
        · exact .inr (.inr h)
theorem MapKd.insM_up (x : V) : ∀ L : List V, (L.Pairwise fun a b => K.key a < K.key b) → (∀ y ∈ L, K.key y ≠ K.key x) → (K.insM x L).Pairwise fun a b => K.key a < K.key b
  | [], _, _ => by simp [MapKd.insM]
  | a :: r, hp, hne => by
    obtain ⟨h1, h2⟩ := List.pairwise_cons.1 hp
    rw [MapKd.insM]
    split
    · rename_i h
      refine List.pairwise_cons.2 ⟨fun z hz => ?_, hp⟩
      rcases List.mem_cons.1 hz with rfl | hz
      · exact h
      · exact Int.lt_trans h (h1 z hz)
    · rename_i h
      refine List.pairwise_cons.2 ⟨fun z hz => ?_, MapKd.insM_up x r h2 (fun y hy => hne y (by simp [hy]))⟩
      rcases (MapKd.mem_insM x r z).1 hz with rfl | hz
      · have := hne a (by simp)
        omega
      · exact h1 z hz
theorem MapKd.Up.put {x : V} (h : K.Up L) (hx : (Lit.int K.q (K.key x)).wf = true) : K.Up (K.putM L x) := by
  refine ⟨MapKd.insM_up x _ (h.up.filter _) (fun y hy => by simpa using (List.mem_filter.1 hy).2), fun y hy => ?_⟩
  rcases (MapKd.mem_insM x _ y).1 hy with rfl | hy
  · exact hx
  · exact h.wf y (List.mem_filter.1 hy).1

/-! ### at the operation, for the walk -/
section
variable {ops : Array Oper} {rest : List Oper} {o : Oper} {a : Act} {Q : Exit → Act → World → Prop}
theorem wpList_putM (h : K.Has w b L) (hL : L.length < maxLen) (hg : o.guard = none) (m x v : Operand) (hop : o.op = Op.mapUpdate K.t m x v) (hm : a.eval m = .map (some b)) (y : V) (hx : a.eval x = .int K.q (K.key y)) (hv : a.eval v = K.val y) (hwf : (Lit.int K.q (K.key y)).wf = true)
    (hK : ∀ w', K.Has w' b (K.putM L y) → w.grownBy w' (some b) → wpList P ops Q rest (a.put o.dst undef) w') : wpList P ops Q (o :: rest) a w :=
  wpList_mapUpdate_own w hg m x v K.t hop K.k K.e K.keyed K.und rdV b L.length (K.dat L) hm h.1 hL _ _ (K.lit (K.key y)) hx hv (keyOf_int_mk K.uk hwf) (.held (K.val y)) [] rfl (fun w' h1 h2 => by
    rw [K.put_dat] at h1
    exact hK w' (MapKd.Has.of_own h1 (h.2.put hwf)) h2)
theorem wpList_lookM_ok (h : K.Has w b L) (hg : o.guard = none) (m x : Operand) (hop : o.op = Op.lookup K.t m x true) (hm : a.eval m = .map (some b)) (n : Int) (hx : a.eval x = .int K.q n) (hn : (Lit.int K.q n).wf = true)
    (hK : wpList P ops Q rest (a.put o.dst (.tuple #[K.at_ L n, .bool (K.isM L n)])) w) : wpList P ops Q (o :: rest) a w := by
  refine wpList_plain hg fun K' hK' => ?_
  have hrun := h.look_ok n hn
  unfold Oper.wp
  simp [execOp, hop, hm, hx, hrun, Result.andThen]
  exact hK' _ _ hK
theorem step_lookM_ok {K' : Act → World → Prop} {E : Prop} (h : K.Has w b L) (hg : o.guard = none) (m x : Operand) (hop : o.op = Op.lookup K.t m x true) (hm : a.eval m = .map (some b)) (n : Int) (hx : a.eval x = .int K.q n) (hn : (Lit.int K.q n).wf = true)
    (hK : K' (a.put o.dst (.tuple #[K.at_ L n, .bool (K.isM L n)])) w) : if Region.wanted o (yielded ops a.tmps) = true then Oper.wp P o a w K' Q else E := by
  rw [if_pos (by simp [Region.wanted, hg])]
  have hrun := h.look_ok n hn
  unfold Oper.wp
  simp [execOp, hop, hm, hx, hrun, Result.andThen]
  exact hK
/-- A store, as an equation. -/
theorem MapKd.Has.store (h : K.Has w b L) (hL : L.length < maxLen) (y : V) (hwf : (Lit.int K.q (K.key y)).wf = true) : ∃ w', (Instr.mapUpdate K.t (.map (some b)) (.int K.q (K.key y)) (K.val y)).run P w = .ok () w' ∧ K.Has w' b (K.putM L y) ∧ w.grownBy w' (some b) := by
  obtain ⟨w', hrun, r1, r2⟩ := h.1.update (d := .held (K.val y)) (ps := []) K.keyed K.und hL (keyOf_int_mk K.uk hwf) (rfl : rdV (K.val y) = _)
  rw [show Lit.int K.q (K.key y) = K.lit (K.key y) from rfl, K.put_dat] at r1
  exact ⟨w', hrun, MapKd.Has.of_own r1 (h.2.put hwf), r2⟩
theorem step_putM {K' : Act → World → Prop} {E : Prop} (h : K.Has w b L) (hL : L.length < maxLen) (hg : o.guard = none) (m x v : Operand) (hop : o.op = Op.mapUpdate K.t m x v) (hm : a.eval m = .map (some b)) (y : V) (hx : a.eval x = .int K.q (K.key y)) (hv : a.eval v = K.val y) (hwf : (Lit.int K.q (K.key y)).wf = true)
    (hK : ∀ w', K.Has w' b (K.putM L y) → w.grownBy w' (some b) → K' (a.put o.dst undef) w') : if Region.wanted o (yielded ops a.tmps) = true then Oper.wp P o a w K' Q else E := by
  rw [if_pos (by simp [Region.wanted, hg])]
  obtain ⟨w', hrun, r1, r2⟩ := h.1.update (d := .held (K.val y)) (ps := []) K.keyed K.und hL (keyOf_int_mk K.uk hwf) (rfl : rdV (K.val y) = _)
  rw [show Lit.int K.q (K.key y) = K.lit (K.key y) from rfl, K.put_dat] at r1
  unfold Oper.wp
  simp [execOp, hop, hm, hx, hv, hrun, Result.andThen]
  exact hK w' (MapKd.Has.of_own r1 (h.2.put hwf)) r2
theorem wpList_lookM (h : K.Has w b L) (hg : o.guard = none) (m x : Operand) (hop : o.op = Op.lookup K.t m x false) (hm : a.eval m = .map (some b)) (n : Int) (hx : a.eval x = .int K.q n) (hn : (Lit.int K.q n).wf = true)
    (hK : wpList P ops Q rest (a.put o.dst (K.at_ L n)) w) : wpList P ops Q (o :: rest) a w := by
  refine wpList_plain hg fun K' hK' => ?_
  have hrun := h.look n hn
  unfold Oper.wp
  simp [execOp, hop, hm, hx, hrun, Result.andThen]
  exact hK' _ _ hK
end

/-! ### a range over it -/
def MapKd.leftM (K : MapKd P V) (R : List V) : Lit → Bool := fun z => R.any fun x => (K.lit (K.key x)).sameKey z
/-- A range over the map that holds L is under way, in block r; R are still to come. -/
structure MapKd.Goes (K : MapKd P V) (w : World) (b r : Nat) (L R : List V) : Prop where
  run : ∃ cnt, w.ranges P K.k rdV b r L.length (K.dat L) (K.leftM R) cnt
  up : K.Up L
  sub : ∀ x ∈ R, x ∈ L
  nd : R.Pairwise fun x y => K.key x ≠ K.key y
variable {R : List V} {r : Nat}
theorem MapKd.Goes.has (h : K.Goes w b r L R) : K.Has w b L := by
  obtain ⟨⟨cnt, h1⟩, hu, _⟩ := h
  exact ⟨h1.owns, hu⟩
theorem MapKd.Goes.kept {row : Option Nat} (h : K.Goes w b r L R) (hg : w.grownBy w' row) (hb : some b ≠ row) (hr : some r ≠ row) : K.Goes w' b r L R := by
  obtain ⟨⟨cnt, h1⟩, h2, h3, h4⟩ := h
  exact ⟨⟨cnt, h1.kept hg hb hr⟩, h2, h3, h4⟩
theorem MapKd.key_inj (hu : K.Up L) : ∀ {x y : V}, x ∈ L → y ∈ L → K.key x = K.key y → x = y := by
  obtain ⟨hp, _⟩ := hu
  intro x y hx hy he
  obtain ⟨i, hi⟩ := List.mem_iff_getElem?.1 hx
  obtain ⟨j, hj⟩ := List.mem_iff_getElem?.1 hy
  obtain ⟨hi1, hi2⟩ := List.getElem?_eq_some_iff.1 hi
  obtain ⟨hj1, hj2⟩ := List.getElem?_eq_some_iff.1 hj
  rw [List.pairwise_iff_getElem] at hp
  rcases Nat.lt_trichotomy i j with h | h | h
  · have := hp i j hi1 hj1 h
    rw [hi2, hj2] at this
    omega
  · subst h
    rw [← hi2, ← hj2]
  · have := hp j i hj1 hi1 h
    rw [hi2, hj2] at this
    omega
section
variable {ops : Array Oper} {rest : List Oper} {o : Oper} {a : Act} {Q : Exit → Act → World → Prop}
theorem wpList_rangeM (h : K.Has w b L) (hg : o.guard = none) (m : Operand) (hop : o.op = Op.range K.t m) (hm : a.eval m = .map (some b))
    (hK : ∀ w', K.Goes w' b w.heap.size L L → w.grownBy w' none → w'.heap.size = w.heap.size + 1 → wpList P ops Q rest (a.put o.dst (.pointer (some ⟨w.heap.size, 0, none⟩))) w') : wpList P ops Q (o :: rest) a w :=
  wpList_range_own w hg m K.t hop K.k K.e K.keyed K.und rdV b L.length (K.dat L) hm h.1 (fun w' h1 h2 h3 => by
    have e : Maps.has (K.dat L) = K.leftM L := by
      funext z
      unfold MapKd.dat MapKd.leftM
      rw [Maps.has_eq, List.any_map]
      rfl
    rw [e] at h1
    exact hK w' ⟨⟨_, h1⟩, h.2, fun _ hx => hx, h.2.up.imp fun h => Int.ne_of_lt h⟩ h2 h3)
/-- The step: nothing is left, or one of those that are left has come. -/
theorem wpList_nextM (h : K.Goes w b r L R) (hg : o.guard = none) (it : Operand) (hop : o.op = Op.next it false) (hit : a.eval it = .pointer (some ⟨r, 0, none⟩))
    (hDone : R = [] → wpList P ops Q rest (a.put o.dst (.tuple #[.bool false])) w)
    (hMore : ∀ (x : V) (R1 R2 : List V) (w' : World), R = R1 ++ x :: R2 → K.Goes w' b r L (R1 ++ R2) → w.grownBy w' (some r) → w'.heap.size = w.heap.size → (Instr.entry (.pointer (some ⟨r, 0, none⟩))).run P w' = .ok (.tuple #[.int K.q (K.key x), K.val x]) w' →
      wpList P ops Q rest (a.put o.dst (.tuple #[.bool true, .int K.q (K.key x), K.val x])) w') : wpList P ops Q (o :: rest) a w := by
  obtain ⟨⟨cnt, hr⟩, hu, hsub, hnd⟩ := h
  refine wpList_next_ranges w hg it hop K.k K.keyed rdV (Value.int K.q) id (fun key kl hkey => by obtain ⟨x, rfl, _⟩ := Maps.keyOf_int_inv K.uk hkey; exact ⟨x, rfl⟩) (fun v y _ => ⟨v, rfl⟩) b r L.length (K.dat L) (K.leftM R) cnt hit hr ?_ ?_
  · intro _ h0
    refine hDone ?_
    cases R with
    | nil => rfl
    | cons x s =>
      have := h0 (K.lit (K.key x))
      simp [MapKd.leftM, K.same] at this
  · intro n v kl y w' cnt' hkey hl hv hat hrg _ hg2 hsz hen
    obtain ⟨n', en, rfl, hwn⟩ := Maps.keyOf_int_inv K.uk hkey
    injection en with _ en
    subst en
    obtain ⟨x, hx, hxk⟩ := List.any_eq_true.1 hl
    have hxn : K.key x = n := by
      rw [show Lit.int K.q n = K.lit n from rfl, K.same] at hxk
      exact of_decide_eq_true hxk
    subst hxn
    have hval : v = K.val x := by
      have h1 := hat (.held K.zero)
      rw [show Lit.int K.q (K.key x) = K.lit (K.key x) from rfl, K.at_dat] at h1
      have h2 : y.1 = .held v := by
        simp only [rdV, id, Option.some.injEq] at hv
        rw [← hv]
      rw [h2] at h1
      injection h1 with h1
      rw [← h1]
      unfold MapKd.at_ MapKd.findM
      cases hf : L.find? fun y => decide (K.key y = K.key x) with
      | none => exact absurd (List.find?_eq_none.1 hf x (hsub x hx)) (by simp)
      | some z =>
        have hz := List.find?_some hf
        simp at hz
        rw [MapKd.key_inj hu (List.mem_of_find?_eq_some hf) (hsub x hx) hz]
    subst hval
    obtain ⟨R1, R2, hR⟩ := List.append_of_mem hx
    subst hR
    refine hMore x R1 R2 w' rfl ⟨⟨cnt', ?_⟩, hu, fun z hz => hsub z (by rcases List.mem_append.1 hz with h | h <;> simp [h]), ?_⟩ hg2 hsz hen
    · have e : (fun z => K.leftM (R1 ++ x :: R2) z && !z.sameKey (Lit.int K.q (K.key x))) = K.leftM (R1 ++ R2) := by
        rw [List.pairwise_append, List.pairwise_cons] at hnd
        obtain ⟨_, ⟨h2, _⟩, h3⟩ := hnd
        funext z
        unfold MapKd.leftM
        simp only [List.any_append, List.any_cons]
        by_cases hz : z = K.lit (K.key x)
        · subst hz
          rw [show Lit.int K.q (K.key x) = K.lit (K.key x) from rfl]
          simp only [K.same]
          have a1 : (R1.any fun y => decide (K.key y = K.key x)) = false := by
            rw [List.any_eq_false]
            intro y hy
            have := h3 y hy x (by simp)
            simpa using this
          have a2 : (R2.any fun y => decide (K.key y = K.key x)) = false := by
            rw [List.any_eq_false]
            intro y hy
            have := h2 y hy
            simpa using fun e => this e.symm
          rw [a1, a2]
          simp
        · rw [Maps.sameKey_ne (show z ≠ Lit.int K.q (K.key x) from hz), Maps.sameKey_ne (show K.lit (K.key x) ≠ z from fun e => hz e.symm)]
          simp
      rw [← e]
      exact hrg
    · rw [List.pairwise_append, List.pairwise_cons] at hnd
      obtain ⟨h1, ⟨h2, h3⟩, h4⟩ := hnd
      exact List.pairwise_append.2 ⟨h1, h3, fun y hy z hz => h4 y hy z (by simp [hz])⟩
end
end
end Go.Proofs.YtmaohnbddlccdaaGreat
end

/- A range over a map with integer keys inside a fence: the iterator and its steps; what a loop's round keeps of some blocks and of all walks. (Names no function and no type of the program.) -/
section
namespace Go.Proofs.YtmaohnbddlccdaaGreat
open Go.Maps Go.RowKit

section
variable {P : Program} {V : Type} (K : MapKd P V) {w w' : World} {b r : Nat} {L R : List V}
theorem MapKd.Goes.walks (h : K.Goes w b r L R) (hk : KeepsWalks w w') : K.Goes w' b r L R := by
  obtain ⟨⟨cnt, h1⟩, h2, h3, h4⟩ := h
  exact ⟨⟨cnt, h1.of_walks hk⟩, h2, h3, h4⟩
theorem MapKd.Goes.walk (h : K.Goes w b r L R) : ∃ o : Obj, w.heap[r]? = some o ∧ o.isWalk = true := by
  obtain ⟨⟨cnt, h1⟩, _⟩ := h
  exact h1.iter_walk
theorem MapKd.Goes.left_walks (h : K.Goes w b r L R) (hk : KeepsWalks w w') : w'.rangeLeft b r = w.rangeLeft b r := by
  obtain ⟨⟨cnt, h1⟩, _⟩ := h
  rw [h1.left_eq, (h1.of_walks hk).left_eq]

section
variable {F : Fence} {n : Nat} {ops : Array Oper} {rest : List Oper} {o : Oper} {a : Act} {Q : Exit → Act → World → Prop}
theorem wpListIn_rangeM (h : K.Has w b L) (hg : o.guard = none) (m : Operand) (hop : o.op = Op.range K.t m) (hm : a.eval m = .map (some b))
    (hK : ∀ w', K.Goes w' b w.heap.size L L → w.grownBy w' none → w'.heap.size = w.heap.size + 1 → wpListIn F n P ops Q rest (a.put o.dst (.pointer (some ⟨w.heap.size, 0, none⟩))) w') : wpListIn F n P ops Q (o :: rest) a w :=
  wpListIn_range_own w hg m K.t hop K.k K.e K.keyed K.und rdV b L.length (K.dat L) hm h.1 (fun w' h1 h2 h3 => by
    have e : Maps.has (K.dat L) = K.leftM L := by
      funext z
      unfold MapKd.dat MapKd.leftM
      rw [Maps.has_eq, List.any_map]
      rfl
    rw [e] at h1
    exact hK w' ⟨⟨_, h1⟩, h.2, fun _ hx => hx, h.2.up.imp fun h => Int.ne_of_lt h⟩ h2 h3)
theorem wpListIn_nextM (h : K.Goes w b r L R) (hg : o.guard = none) (it : Operand) (hop : o.op = Op.next it false) (hit : a.eval it = .pointer (some ⟨r, 0, none⟩))
    (hDone : R = [] → wpListIn F n P ops Q rest (a.put o.dst (.tuple #[.bool false])) w)
    (hMore : ∀ (x : V) (R1 R2 : List V) (w' : World), R = R1 ++ x :: R2 → K.Goes w' b r L (R1 ++ R2) → w.grownBy w' (some r) → w'.heap.size = w.heap.size → (Instr.entry (.pointer (some ⟨r, 0, none⟩))).run P w' = .ok (.tuple #[.int K.q (K.key x), K.val x]) w' → w'.rangeLeft b r < w.rangeLeft b r →
      wpListIn F n P ops Q rest (a.put o.dst (.tuple #[.bool true, .int K.q (K.key x), K.val x])) w') : wpListIn F n P ops Q (o :: rest) a w := by
  obtain ⟨⟨cnt, hr⟩, hu, hsub, hnd⟩ := h
  refine wpListIn_next_ranges w hg it hop K.k K.keyed rdV (Value.int K.q) id (fun key kl hkey => by obtain ⟨x, rfl, _⟩ := Maps.keyOf_int_inv K.uk hkey; exact ⟨x, rfl⟩) (fun v y _ => ⟨v, rfl⟩) b r L.length (K.dat L) (K.leftM R) cnt hit hr ?_ ?_
  · intro _ h0
    refine hDone ?_
    cases R with
    | nil => rfl
    | cons x s =>
      have := h0 (K.lit (K.key x))
      simp [MapKd.leftM, K.same] at this
  · intro n v kl y w' cnt' hkey hl hv hat hrg hlt hg2 hsz hen
    obtain ⟨n', en, rfl, hwn⟩ := Maps.keyOf_int_inv K.uk hkey
    injection en with _ en
    subst en
    obtain ⟨x, hx, hxk⟩ := List.any_eq_true.1 hl
    have hxn : K.key x = n := by
      rw [show Lit.int K.q n = K.lit n from rfl, K.same] at hxk
      exact of_decide_eq_true hxk
    subst hxn
    have hval : v = K.val x := by
      have h1 := hat (.held K.zero)
      rw [show Lit.int K.q (K.key x) = K.lit (K.key x) from rfl, K.at_dat] at h1
      have h2 : y.1 = .held v := by
        simp only [rdV, id, Option.some.injEq] at hv
        rw [← hv]
      rw [h2] at h1
      injection h1 with h1
      rw [← h1]
      unfold MapKd.at_ MapKd.findM
      cases hf : L.find? fun y => decide (K.key y = K.key x) with
      | none => exact absurd (List.find?_eq_none.1 hf x (hsub x hx)) (by simp)
      | some z =>
        have hz := List.find?_some hf
        simp at hz
        rw [MapKd.key_inj hu (List.mem_of_find?_eq_some hf) (hsub x hx) hz]
    subst hval
    obtain ⟨R1, R2, hR⟩ := List.append_of_mem hx
    subst hR
    refine hMore x R1 R2 w' rfl ⟨⟨cnt', ?_⟩, hu, fun z hz => hsub z (by rcases List.mem_append.1 hz with h | h <;> simp [h]), ?_⟩ hg2 hsz hen (by rw [hr.left_eq, hrg.left_eq]; exact hlt)
    · have e : (fun z => K.leftM (R1 ++ x :: R2) z && !z.sameKey (Lit.int K.q (K.key x))) = K.leftM (R1 ++ R2) := by
        rw [List.pairwise_append, List.pairwise_cons] at hnd
        obtain ⟨_, ⟨h2, _⟩, h3⟩ := hnd
        funext z
        unfold MapKd.leftM
        simp only [List.any_append, List.any_cons]
        by_cases hz : z = K.lit (K.key x)
        · subst hz
          rw [show Lit.int K.q (K.key x) = K.lit (K.key x) from rfl]
          simp only [K.same]
          have a1 : (R1.any fun y => decide (K.key y = K.key x)) = false := by
            rw [List.any_eq_false]
            intro y hy
            have := h3 y hy x (by simp)
            simpa using this
          have a2 : (R2.any fun y => decide (K.key y = K.key x)) = false := by
            rw [List.any_eq_false]
            intro y hy
            have := h2 y hy
            simpa using fun e => this e.symm
          rw [a1, a2]
          simp
        · rw [Maps.sameKey_ne (show z ≠ Lit.int K.q (K.key x) from hz), Maps.sameKey_ne (show K.lit (K.key x) ≠ z from fun e => hz e.symm)]
          simp
      rw [← e]
      exact hrg
    · rw [List.pairwise_append, List.pairwise_cons] at hnd
      obtain ⟨h1, ⟨h2, h3⟩, h4⟩ := hnd
      exact List.pairwise_append.2 ⟨h1, h3, fun y hy z hz => h4 y hy z (by simp [hz])⟩
end
end

/-! ### what a round keeps: some blocks, and all walks -/
/-- The blocks of S, and all maps and their iterators, lie as they lay. -/
structure KpI (S : Nat → Prop) (V V' : World) : Prop where
  walks : KeepsWalks V V'
  block : ∀ k, S k → V'.heap[k]? = V.heap[k]?
section
variable {S : Nat → Prop} {A B C V V' : World}
theorem KpI.refl (V : World) : KpI S V V := ⟨KeepsWalks.refl _, fun _ _ => rfl⟩
theorem kpi_t (h : KpI S A B) (k : KpI S B C) : KpI S A C := ⟨h.walks.trans k.walks, fun i hi => (k.block i hi).trans (h.block i hi)⟩
theorem kpi_b {w : World} (hS : ∀ k, S k → k < w.heap.size) (W : World) (l : Nat) (o o' : Obj) (hl : w.heap.size ≤ l) (h : W.heap[l]? = some o) (_ : o.isCells = false) (hw : o.isWalk = false) : KpI S W (W.putObj l o') :=
  ⟨KeepsWalks.putObj _ h hw, fun k hk => World.putObj_heap_other (by have := hS k hk; omega)⟩
theorem KpI.grown {row : Option Nat} (h : KpI S V V') (hg : V'.grownBy C row) (hS : ∀ k, S k → k < V'.heap.size) (hr : ∀ g, row = some g → ¬ S g ∧ ∀ o : Obj, V'.heap[g]? = some o → o.isWalk = false) : KpI S V C :=
  ⟨h.walks.trans (KeepsWalks.of_grownBy hg fun j o e ho => (hr j e).2 o ho), fun k hk => (hg.block k (hS k hk) (fun e => (hr k e.symm).1 hk)).trans (h.block k hk)⟩
theorem KpI.lt (h : KpI S V V') (hS : ∀ k, S k → k < V.heap.size) : ∀ k, S k → k < V'.heap.size := fun k hk => Nat.lt_of_lt_of_le (hS k hk) h.walks.size
end
theorem grown_of_belowI {V V' : World} (hb : Below V.heap.size V V') : V.grownBy V' none := ⟨hb.os, hb.tape, hb.output, hb.size, fun i hi _ => hb.block i hi⟩
theorem wideI {m : Nat} {P : Program} {f : FuncId} {args : Array Value} {w : World} {R : Ending → World → Prop} (h : Calls P f args w R) : CallsIn Fence.wide m P f args w R := callsIn_wide.2 h
end Go.Proofs.YtmaohnbddlccdaaGreat
end
