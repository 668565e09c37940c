/- Maps of integer keys: what is struck out of one, how many keys it has, a range over one. (Names no function and no type of the program.) -/
import Derived.Test.YtekladmddfibaaaMapF
import Derived.Maps.OwnSet
import Derived.Maps.RangeWalk
namespace Go.Proofs.Ytekladmddfibaaa
open Go.Maps Go.RowKit

section
variable {P : Program} {V : Type} {K : MapKd P V} {w w' : World} {b : Nat} {L : List V}
def MapKd.delM (K : MapKd P V) (L : List V) (n : Int) : List V := L.filter fun y => decide (K.key y ≠ n)
theorem MapKd.del_dat (K : MapKd P V) (L : List V) (n : Int) : (K.dat L).del (K.lit n) = K.dat (K.delM L n) := by
  unfold MapKd.dat DataW.del MapKd.delM
  simp only
  rw [List.filter_map]
  congr 2
  refine List.filter_congr fun y _ => ?_
  show (!(K.lit (K.key y)).sameKey (K.lit n)) = _
  rw [K.same]
  simp
theorem MapKd.Up.del (h : K.Up L) (n : Int) : K.Up (K.delM L n) := ⟨h.up.filter _, fun x hx => h.wf x (List.mem_filter.1 hx).1⟩
/-- A key is struck. -/
theorem MapKd.Has.drop (h : K.Has w b L) (n : Int) (hn : (Lit.int K.q n).wf = true) (ty : TypeId) : ∃ w', (Builtin.delete_ #[K.t, K.k] ty #[.map (some b), .int K.q n]).run P w = .ok (.tuple #[]) w' ∧ K.Has w' b (K.delM L n) ∧ w.grownBy w' (some b) := by
  obtain ⟨w', hrun, r1, r2⟩ := h.1.drop K.keyed K.und (keyOf_int_mk K.uk hn) ty
  rw [show Lit.int K.q n = K.lit n from rfl, K.del_dat] at r1
  exact ⟨w', hrun, MapKd.Has.of_own r1 (h.2.del n), r2.grown⟩
/-- A key that no number of the kind is is not there. -/
theorem MapKd.Has.look_out (h : K.Has w b L) (n : Int) (hn : (Lit.int K.q n).wf = false) : (Instr.lookup K.t (.map (some b)) (.int K.q n) true).run P w = .ok (.tuple #[K.zero, .bool false]) w := by
  obtain ⟨⟨es, clock, hb, F, -, -⟩, -⟩ := h
  have hk : MapKept.IsKey (.int K.q) (.int K.q n) := rfl
  have hkeys : ∀ x ∈ es.toList, MapKept.IsKey (.int K.q) x.key ∧ x.key ≠ .int K.q n := fun x hx => by
    obtain ⟨y, hy⟩ := F.reads x hx
    obtain ⟨m, e, hw⟩ := keyOf_int_inv K.uk (WideElems.rd_key hy)
    rw [e]
    have hw : (Lit.int K.q m).wf = true := hw.2
    refine ⟨rfl, fun e2 => ?_⟩
    injection e2 with _ e2
    rw [e2, hn] at hw
    cases hw
  rcases MapKept.findNow_spec hk es.toList 0 (fun x hx => (hkeys x hx).1) with ⟨h1, -⟩ | ⟨j, e, -, h2, h3⟩
  · have h4 := MapKept.run_findKey (P := P) (w := w) K.uk h1
    simp [Instr.lookup, run_underlying K.und, MapKept.run_getObj_map hb, MapKept.run_checkKey K.uk hk, h4, K.hz, Result.andThen]
  · exact absurd h3 (hkeys e (List.mem_of_getElem? h2)).2
/-- A look-up at any number. -/
theorem MapKd.Has.look_all (h : K.Has w b L) (n : Int) : (Instr.lookup K.t (.map (some b)) (.int K.q n) true).run P w = .ok (.tuple #[K.at_ L n, .bool (K.isM L n)]) w := by
  cases hn : (Lit.int K.q n).wf with
  | true => exact h.look_ok n hn
  | false =>
    have hne : ∀ x ∈ L, K.key x ≠ n := fun x hx e => by
      have := h.2.wf x hx
      rw [e, hn] at this
      cases this
    rw [h.look_out n hn]
    have h1 : K.isM L n = false := by
      unfold MapKd.isM
      rw [List.any_eq_false]
      intro x hx
      simpa using hne x hx
    have h2 : K.findM L n = none := by
      unfold MapKd.findM
      rw [List.find?_eq_none]
      intro x hx
      simpa using hne x hx
    rw [h1]
    unfold MapKd.at_
    rw [h2]
end

def delF {κ X : Type} [DecidableEq κ] (f : κ → Option X) (k : κ) : κ → Option X := fun j => if j = k then none else f j
section
variable {P : Program} {κ X : Type} {F : FnKd P κ X} {w w' : World} {b : Nat} {f : κ → Option X}
theorem FnKd.Holds.drop [DecidableEq κ] (h : F.Holds w b f) (k : κ) (hwf : (Lit.int F.K.q (F.kof k)).wf = true) (ty : TypeId) : ∃ w', (Builtin.delete_ #[F.K.t, F.K.k] ty #[.map (some b), .int F.K.q (F.kof k)]).run P w = .ok (.tuple #[]) w' ∧ F.Holds w' b (delF f k) ∧ w.grownBy w' (some b) := by
  obtain ⟨S, h1, h2, h3⟩ := h.ex
  obtain ⟨w', r1, r2, r3⟩ := h1.drop (F.kof k) hwf ty
  refine ⟨w', r1, ⟨_, r2, fun p hp => h2 p (List.mem_filter.1 hp).1, fun j x => ?_⟩, r3⟩
  unfold delF MapKd.delM
  rw [List.mem_filter, F.hk, decide_eq_true_eq]
  by_cases hj : j = k
  · rw [if_pos hj]
    constructor
    · intro e; cases e
    · rintro ⟨-, e⟩; exact absurd (by rw [hj]) e
  · rw [if_neg hj, h3]
    exact ⟨fun e => ⟨e, fun e2 => hj (F.inj _ _ e2)⟩, fun e => e.1⟩
theorem FnKd.keys_nodup {S : List (κ × X)} (hu : F.K.Up S) : (S.map Prod.fst).Nodup := by
  refine List.pairwise_map.2 (hu.up.imp fun {p q} e e2 => ?_)
  rw [F.hk, F.hk, e2] at e
  omega
theorem FnKd.Holds.look_all (h : F.Holds w b f) (k : κ) : (Instr.lookup F.K.t (.map (some b)) (.int F.K.q (F.kof k)) true).run P w = .ok (.tuple #[F.valF (f k), .bool (f k).isSome]) w := by
  obtain ⟨S, h1, _, h3⟩ := h.ex
  rw [h1.look_all, FnKd.at_ h3, FnKd.is h3]
/-- How many keys there are. -/
theorem FnKd.Holds.len (h : F.Holds w b f) (ks : List κ) (hn : ks.Nodup) (hk : ∀ k, (f k).isSome = true ↔ k ∈ ks) (ty : TypeId) : (Builtin.len_ #[F.K.t] ty #[.map (some b)]).run P w = .ok (.int .i64 ks.length) w := by
  obtain ⟨S, h1, h2, h3⟩ := h.ex
  rw [h1.len]
  have hp : (S.map Prod.fst).Perm ks := (List.perm_ext_iff_of_nodup (FnKd.keys_nodup h1.2) hn).2 fun k => by
    rw [← hk, List.mem_map]
    constructor
    · rintro ⟨p, hp, rfl⟩
      rw [(h3 p.1 p.2).2 hp]
      rfl
    · intro e
      obtain ⟨x, hx⟩ := Option.isSome_iff_exists.1 e
      exact ⟨(k, x), (h3 k x).1 hx, rfl⟩
  have := hp.length_eq
  rw [List.length_map] at this
  rw [this]
section
variable {ops : Array Oper} {rest : List Oper} {o : Oper} {a : Act} {Q : Exit → Act → World → Prop}
theorem wpList_dropF [DecidableEq κ] (h : F.Holds w b f) (hg : o.guard = none) (m x : Operand) (hop : o.op = Op.call { callee := Callee.builtin Builtin.delete, args := #[m, x], argTypes := #[F.K.t, F.K.k] }) (hm : a.eval m = .map (some b)) (k : κ) (hx : a.eval x = .int F.K.q (F.kof k)) (hwf : (Lit.int F.K.q (F.kof k)).wf = true)
    (hK : ∀ w', F.Holds w' b (delF f k) → w.grownBy w' (some b) → wpList P ops Q rest (a.put o.dst (.tuple #[])) w') : wpList P ops Q (o :: rest) a w := by
  refine wpList_plain hg fun K' hK' => ?_
  obtain ⟨w', hrun, r1, r2⟩ := h.drop k hwf o.type
  unfold Oper.wp
  simp [execOp, hop, resolve, invoke, builtin, hm, hx, hrun, Result.andThen]
  exact hK' _ _ (hK w' r1 r2)
theorem step_dropF [DecidableEq κ] {K' : Act → World → Prop} {E : Prop} (h : F.Holds w b f) (hg : o.guard = none) (m x : Operand) (hop : o.op = Op.call { callee := Callee.builtin Builtin.delete, args := #[m, x], argTypes := #[F.K.t, F.K.k] }) (hm : a.eval m = .map (some b)) (k : κ) (hx : a.eval x = .int F.K.q (F.kof k)) (hwf : (Lit.int F.K.q (F.kof k)).wf = true)
    (hK : ∀ w', F.Holds w' b (delF f k) → w.grownBy w' (some b) → K' (a.put o.dst (.tuple #[])) w') : if Region.wanted o (yielded ops a.tmps) = true then Oper.wp P o a w K' Q else E := by
  rw [if_pos (by simp [Region.wanted, hg])]
  obtain ⟨w', hrun, r1, r2⟩ := h.drop k hwf o.type
  unfold Oper.wp
  simp [execOp, hop, resolve, invoke, builtin, hm, hx, hrun, Result.andThen]
  exact hK w' r1 r2
end
end
end Go.Proofs.Ytekladmddfibaaa
