/- Joined texts: BasM, GenR. -/
import Derived.Test.YtmaohnbddlccdaaGreatProg
import Derived.WalkKit
import Derived.WalkSpells
import Derived.WalkLawsBesides
import Derived.Lib.Hide
import Derived.Laws.OwnMore
import Derived.Maps.AppendAt
import Derived.Laws.BytesString
import Derived.Deep.Draws
import Derived.OwnWalk
import Derived.Deep.AppendLies
import Derived.Laws.BitsAllLaws
import Derived.Laws.BitsLemmas

/- What the texts of every seat stand on: rows and worlds; numbers and their bytes, pure. (Names no function and no type of the program. Cut out of BytM and BytN, which import it.) -/
section
namespace Go.Proofs.YtmaohnbddlccdaaGreat
open Go.RowKit

theorem add_at (b o j : Nat) : (⟨b, o, none⟩ : Addr).add j = ⟨b, o + j, none⟩ := by
  unfold Addr.add
  split
  · rename_i h; subst h; rfl
  · rfl
theorem own_form {w : World} {base : Nat} {e : TypeId} {size n : Nat} {v : Value} {xs : List Value} (h : w.ownsRow base e size v n xs) : ∃ A c, v = .slice A n c ∧ n ≤ c := by
  rcases h.2 with ⟨rfl, rfl⟩ | ⟨g, cap, cur, rfl, _, _, hnc, _⟩
  · exact ⟨none, 0, rfl, Nat.le_refl _⟩
  · exact ⟨_, cap, rfl, hnc⟩
/-- What is made of a row, and below which nothing has turned. -/
theorem below_of_grown {w w' : World} {n : Nat} {row : Option Nat} (hg : w.grownBy w' row) (hn : n ≤ w.heap.size) (hr : ∀ g, row = some g → n ≤ g) : Below n w w' :=
  (Below.refl n w).grown hg hn (fun g e => hr g e)
theorem take_snoc_of {α : Type} (l : List α) (k : Nat) (x : α) (h : l[k]? = some x) : l.take (k + 1) = l.take k ++ [x] := by
  rw [List.take_add_one, h]; rfl
theorem cell_grown {W w1 : World} {row : Option Nat} (hg : W.grownBy w1 row) {p : Addr} (hp : p.block < W.heap.size) (hne : row ≠ some p.block) : w1.cell? p = W.cell? p :=
  World.cell?_of_block (hg.block p.block hp (fun e => hne e.symm))
theorem own_below {w W w' : World} {B : Nat} {e : TypeId} {size n : Nat} {v : Value} {xs : List Value} (hB : Below B w W) (hBs : B ≤ W.heap.size) (hown : W.ownsRow B e size v n xs) (hg : W.grownBy w' v.ownBlock) : Below B w w' :=
  hB.grown hg hBs (fun k e => (hown.lt k e).1)
theorem grownBy_of_below {V V' : World} (hb : Below V.heap.size V V') : V.grownBy V' none := ⟨hb.os, hb.tape, hb.output, hb.size, fun i hi _ => hb.block i hi⟩

/-- The number that bytes stand for. -/
def numL (l : List UInt8) : Nat := l.foldl (fun n c => n * 256 + c.toNat) 0
theorem numL_snoc (l : List UInt8) (c : UInt8) : numL (l ++ [c]) = numL l * 256 + c.toNat := by simp [numL]
theorem numL_lt (l : List UInt8) : numL l < 256 ^ l.length := by
  rw [← l.reverse_reverse]
  generalize l.reverse = r
  induction r with
  | nil => simp [numL]
  | cons x r ih =>
    rw [List.reverse_cons, numL_snoc, List.length_append, List.length_singleton, Nat.pow_succ]
    have := x.toNat_lt
    omega
theorem or_nat (m x : Nat) (hx : x < 256) : (m * 256) ||| x = m * 256 + x := by
  have h := Nat.shiftLeft_add_eq_or_of_lt (i := 8) (b := x) (by omega) m
  rw [Nat.shiftLeft_eq] at h
  exact h.symm
/-- The bytes of a number, the greatest first. -/
def beL (n m : Nat) : List UInt8 := (List.range m).map fun i => UInt8.ofNat (n / 256 ^ (m - 1 - i))
theorem be_at (n m k : Nat) (hk : k < m) : (beL n m)[k]? = some (UInt8.ofNat (n / 256 ^ (m - 1 - k))) := by simp [beL, hk]
theorem beL_length (n m : Nat) : (beL n m).length = m := by simp [beL]
theorem beL_succ (n m : Nat) : beL n (m + 1) = beL (n / 256) m ++ [UInt8.ofNat n] := by
  unfold beL
  rw [List.range_succ, List.map_append]
  congr 1
  · apply List.map_congr_left
    intro i hi
    have hi' := List.mem_range.1 hi
    rw [Nat.div_div_eq_div_mul, ← Nat.pow_succ', show (m - 1 - i).succ = m + 1 - 1 - i by omega]
  · simp
theorem numL_beL (n m : Nat) : numL (beL n m) = n % 256 ^ m := by
  induction m generalizing n with
  | zero => simp [beL, numL, Nat.mod_one]
  | succ m ih =>
    rw [beL_succ, numL_snoc, ih, UInt8.toNat_ofNat', show (256 : Nat) ^ (m + 1) = 256 * 256 ^ m from Nat.pow_succ', Nat.mod_mul]
    omega
theorem beL_numL (l : List UInt8) : beL (numL l) l.length = l := by
  rw [← l.reverse_reverse]
  generalize l.reverse = r
  induction r with
  | nil => rfl
  | cons x r ih =>
    rw [List.reverse_cons, numL_snoc, List.length_append, List.length_singleton, beL_succ]
    have hx := x.toNat_lt
    rw [show (numL r.reverse * 256 + x.toNat) / 256 = numL r.reverse by omega, ih]
    congr 2
    apply UInt8.toNat_inj.1
    rw [UInt8.toNat_ofNat']
    omega
end Go.Proofs.YtmaohnbddlccdaaGreat
end

/- Rows of elements of any kind, each of some cells: how a slice of them reads; rows of the call's own that grow, are cut, and are changed in a place. (Names no function and no type of the program: the kind is a letter.) -/
section
namespace Go.Proofs.YtmaohnbddlccdaaGreat
open Go.RowKit

/-- A kind of elements: its type, its slices' type, how many cells one has, and which. -/
structure Elem (P : Program) (V : Type) where
  e : TypeId
  ty : TypeId
  m : Nat
  bytes : Nat
  zero : Value
  cells : V → List Value
  hm : 0 < m
  hb0 : 0 < bytes
  hb : bytes ≤ 1000
  len : ∀ v, (cells v).length = m
  one : ∀ v, ∀ u ∈ cells v, u.oneCell' = true
  und : P.underlying ty = some (.slice e)
  info : (P.info? e).map (fun i => (i.zero, i.size, i.bytes)) = some (some zero, m, bytes)
  hz : zero.cells.size = m

section
variable {P : Program} {V : Type} (E : Elem P V)
def ecells (l : List V) : List Value := l.flatMap E.cells
theorem ecells_nil : ecells E [] = [] := rfl
theorem ecells_append (a b : List V) : ecells E (a ++ b) = ecells E a ++ ecells E b := by simp [ecells]
theorem ecells_one_elem (x : V) : ecells E [x] = E.cells x := by simp [ecells]
theorem ecells_cons (x : V) (l : List V) : ecells E (x :: l) = E.cells x ++ ecells E l := by simp [ecells]
theorem ecells_length (l : List V) : (ecells E l).length = l.length * E.m := by
  induction l with
  | nil => simp [ecells]
  | cons x r ih => rw [ecells_cons, List.length_append, ih, E.len, List.length_cons, Nat.succ_mul, Nat.add_comm]
theorem ecells_one (l : List V) : ∀ u ∈ ecells E l, u.oneCell' = true := by
  intro u hu
  obtain ⟨x, _, hx⟩ := List.mem_flatMap.1 hu
  exact E.one x u hx
theorem ecells_take (l : List V) (i : Nat) : (ecells E l).take (i * E.m) = ecells E (l.take i) := by
  induction i generalizing l with
  | zero => simp [ecells]
  | succ i ih =>
    cases l with
    | nil => simp [ecells]
    | cons x r =>
      rw [ecells_cons, List.take_succ_cons, ecells_cons, ← ih r, Nat.succ_mul, Nat.add_comm, ← E.len x, List.take_length_add_append]
theorem ecells_drop (l : List V) (i : Nat) : (ecells E l).drop (i * E.m) = ecells E (l.drop i) := by
  induction i generalizing l with
  | zero => simp
  | succ i ih =>
    cases l with
    | nil => simp [ecells]
    | cons x r => rw [ecells_cons, List.drop_succ_cons, ← ih r, Nat.succ_mul, Nat.add_comm, ← E.len x, List.drop_length_add_append]
theorem ecells_at (l : List V) (i k : Nat) (x : V) (u : Value) (h : l[i]? = some x) (hu : (E.cells x)[k]? = some u) : (ecells E l)[i * E.m + k]? = some u := by
  rw [← List.getElem?_drop, ecells_drop]
  obtain ⟨h1, h2⟩ := List.getElem?_eq_some_iff.1 h
  rw [List.drop_eq_getElem_cons h1, h2, ecells_cons, List.getElem?_append_left (List.getElem?_eq_some_iff.1 hu).1]
  exact hu
theorem ecells_split (l : List V) (j : Nat) (u : Value) (h : (ecells E l)[j]? = some u) : ∃ i k x, j = i * E.m + k ∧ l[i]? = some x ∧ (E.cells x)[k]? = some u := by
  have hj := (List.getElem?_eq_some_iff.1 h).1
  rw [ecells_length] at hj
  have hi : j / E.m < l.length := Nat.div_lt_of_lt_mul (by rw [Nat.mul_comm]; exact hj)
  have hx : l[j / E.m]? = some l[j / E.m] := List.getElem?_eq_getElem hi
  have hk : j % E.m < (E.cells l[j / E.m]).length := by rw [E.len]; exact Nat.mod_lt _ E.hm
  refine ⟨j / E.m, j % E.m, l[j / E.m], (by rw [Nat.mul_comm]; exact (Nat.div_add_mod j E.m).symm), hx, ?_⟩
  have h2 := ecells_at E l _ _ _ _ hx (List.getElem?_eq_getElem hk)
  rw [Nat.mul_comm, Nat.div_add_mod] at h2
  rw [h] at h2
  injection h2 with h2
  rw [List.getElem?_eq_getElem hk, h2]
theorem ecells_put (l : List V) (i : Nat) (x : V) (h : i < l.length) : ecells E (l.set i x) = (ecells E l).take (i * E.m) ++ E.cells x ++ (ecells E l).drop (i * E.m + E.m) := by
  rw [List.set_eq_take_append_cons_drop, if_pos h, ecells_append, ecells_cons, ecells_take, show i * E.m + E.m = (i + 1) * E.m by rw [Nat.succ_mul], ecells_drop, List.append_assoc]

/-- The slice at A reads as the elements l, and lies below block B. -/
structure El (w : World) (B : Nat) (A : Option Addr) (l : List V) : Prop where
  at_ : ∀ i x, l[i]? = some x → ∃ b o, A = some ⟨b, o, none⟩ ∧ b < B ∧ ∀ k u, (E.cells x)[k]? = some u → w.cell? ⟨b, o + i * E.m + k, none⟩ = some u
end

section
variable {P : Program} {V : Type} {E : Elem P V} {w w' : World} {B B' : Nat} {A : Option Addr} {l : List V}
theorem El.nil : El E w B A [] := ⟨fun i x h => by simp at h⟩
theorem El.keep (h : El E w B A l) (hk : ∀ p : Addr, p.block < B → w'.cell? p = w.cell? p) : El E w' B A l :=
  ⟨fun i x hx => by
    obtain ⟨b, o, rfl, hb, h1⟩ := h.at_ i x hx
    exact ⟨b, o, rfl, hb, fun k u hu => (hk _ hb).trans (h1 k u hu)⟩⟩
theorem El.below (h : El E w B A l) (hb : Below B w w') : El E w' B A l := h.keep fun _ hp => hb.cell hp
theorem El.more (h : El E w B A l) (hB : B ≤ B') : El E w B' A l :=
  ⟨fun i x hx => by
    obtain ⟨b, o, rfl, hb, h1⟩ := h.at_ i x hx
    exact ⟨b, o, rfl, by omega, h1⟩⟩
theorem El.later (h : El E w w.heap.size A l) (hb : Below w.heap.size w w') : El E w' w'.heap.size A l := (h.below hb).more hb.size
theorem El.drew (h : El E w B A l) : El E w.drew B A l := ⟨h.at_⟩
theorem El.cells {ad : Addr} (h : El E w B (some ad) l) (j : Nat) (u : Value) (hu : (ecells E l)[j]? = some u) : w.cell? (ad.add j) = some u := by
  obtain ⟨i, k, x, rfl, hx, hk⟩ := ecells_split E l j u hu
  obtain ⟨b, o, hA, _, h1⟩ := h.at_ i x hx
  obtain rfl := Option.some.inj hA
  rw [add_at, ← Nat.add_assoc]
  exact h1 k u hk
theorem El.none_ (h : El E w B none l) : l = [] := by
  match l, h with
  | [], _ => rfl
  | x :: r, h =>
    obtain ⟨b, o, hA, _⟩ := h.at_ 0 x rfl
    cases hA
theorem El.take (h : El E w B A l) (k : Nat) : El E w B A (l.take k) :=
  ⟨fun i x hx => h.at_ i x (by rw [List.getElem?_take] at hx; split at hx; exact hx; cases hx)⟩
/-- A slice cut off at the front. -/
theorem El.cut (h : El E w B A l) {k cap : Nat} (hk : k ≤ l.length) (hc : l.length ≤ cap) : El E w B (if cap = k then A else A.map (·.add (k * E.m))) (l.drop k) := by
  refine ⟨fun i x hx => ?_⟩
  rw [List.getElem?_drop] at hx
  have hlt := (List.getElem?_eq_some_iff.1 hx).1
  obtain ⟨b, o, rfl, hb, h1⟩ := h.at_ _ x hx
  rw [if_neg (by omega)]
  refine ⟨b, o + k * E.m, by rw [Option.map_some, add_at], hb, fun j u hu => ?_⟩
  have := h1 j u hu
  rwa [Nat.add_mul, ← Nat.add_assoc] at this
theorem El.of_own {base : Nat} {n c : Nat} (h : w.ownsRow base E.e E.m (.slice A n c) n (ecells E l)) : El E w w.heap.size A l := by
  refine ⟨fun i x hx => ?_⟩
  have hi : i < l.length := (List.getElem?_eq_some_iff.1 hx).1
  have hn : n * E.m = l.length * E.m := by have := h.1; rw [ecells_length] at this; exact this.symm
  have hn' : n = l.length := Nat.eq_of_mul_eq_mul_right E.hm hn
  rcases h.2 with ⟨_, h0⟩ | ⟨g, cap, cur, hv, _, hh, _⟩
  · omega
  have hA : A = some ⟨g, 0, none⟩ := by injection hv
  subst hA
  refine ⟨g, 0, rfl, (Array.getElem?_eq_some_iff.1 hh).1, fun k u hu => ?_⟩
  rw [Nat.zero_add, ← Nat.zero_add (i * E.m + k), ← add_at]
  exact h.cells (g := g) rfl _ _ (ecells_at E l i k x u hx hu)

/-- Elements in a block of their own are kept where another row grows. -/
theorem El.keptG {b n : Nat} (h : El E w n (some ⟨b, 0, none⟩) l) (hb : b < w.heap.size) {row : Option Nat} (hg : w.grownBy w' row) (hne : row ≠ some b) : El E w' n (some ⟨b, 0, none⟩) l :=
  ⟨fun i x hx => by
    obtain ⟨b', o, e, hb', h1⟩ := h.at_ i x hx
    refine ⟨b', o, e, hb', fun k u hu => ?_⟩
    injection e with e
    injection e with e1 e2
    subst e1
    exact (World.cell?_of_block (hg.block b hb (fun e => hne e.symm))).trans (h1 k u hu)⟩
/-- Elements behind a row of the call's own. -/
theorem run_appE (w : World) (base : Nat) (ty : TypeId) {v : Value} {n : Nat} {xs : List Value} (hown : w.ownsRow base E.e E.m v n xs) {B : Nat} {A : Option Addr} {l : List V} (c : Nat) (hr : El E w B A l) (hbytes : (n + l.length) * E.bytes ≤ 140737488355328) (hbase : base ≤ w.heap.size) :
    ∃ v' w', (Builtin.append_ #[E.ty, E.ty] ty #[v, .slice A l.length c]).run P w = .ok v' w' ∧ w'.ownsRow base E.e E.m v' (n + l.length) (xs ++ ecells E l) ∧ w.grownBy w' v.ownBlock ∧ (v'.ownBlock = v.ownBlock ∨ v'.ownBlock = some w.heap.size) := by
  obtain ⟨i, hi, hz0, hz1, hz2⟩ := info_parts E.info
  have hsz : n + l.length ≤ 140737488355328 := Nat.le_trans (Nat.le_mul_of_pos_right _ E.hb0) hbytes
  cases A with
  | some ad =>
    obtain ⟨v', w', h1, h2, h3, _, h5⟩ := run_append_own_at (P := P) w base E.ty ty E.e i E.zero E.m E.bytes E.und hi hz0 hz1 hz2 E.hz E.hm v n xs hown ad l.length c (ecells E l) (ecells_length E l) (fun j u hu => hr.cells j u hu) (ecells_one E l) (by unfold maxLen; omega) hbytes hbase
    exact ⟨v', w', h1, h2, h3, h5⟩
  | none =>
    obtain rfl := hr.none_
    refine ⟨v, w, ?_, by simpa [ecells] using hown, World.grownBy.refl w _, .inl rfl⟩
    rcases hown.2 with ⟨rfl, rfl⟩ | ⟨g, cap, cur, rfl, _, _, hnc, _⟩
    · simp [Builtin.append_, run_underlying E.und, sizeOf, typeInfo, hi, Builtin.lenOf, Builtin.firstCells]
    · simp [Builtin.append_, run_underlying E.und, sizeOf, typeInfo, hi, Builtin.lenOf, Builtin.firstCells, hnc, storeCells]
end
theorem Elem.small {P : Program} {V : Type} (E : Elem P V) {k : Nat} (h : k ≤ 100000000000) : k * E.bytes ≤ 140737488355328 := Nat.le_trans (Nat.mul_le_mul h E.hb) (by decide)

/-- The value v reads as the elements l in a row of its own, made since w0. -/
structure RowE {P : Program} {V : Type} (E : Elem P V) (w0 w : World) (v : Value) (l : List V) : Prop where
  own : w.ownsRow w0.heap.size E.e E.m v l.length (ecells E l)
  low : Below w0.heap.size w0 w
section
variable {P : Program} {V : Type} {E : Elem P V} {w00 w0 w w' : World} {v : Value} {l : List V}
theorem RowE.nil (w : World) : RowE E w w (.slice none 0 0) [] := ⟨World.ownsRow_nil _ _ _ _, Below.refl _ _⟩
theorem RowE.later (h : RowE E w0 w v l) (hb : Below w.heap.size w w') : RowE E w0 w' v l :=
  ⟨h.own.kept (grownBy_of_below hb) (by cases v.ownBlock <;> simp), h.low.trans (hb.mono h.low.size)⟩
theorem RowE.alloc (h : RowE E w0 w v l) (o : Obj) : RowE E w0 (w.alloc o) v l := h.later ((Below.refl _ _).alloc (Nat.le_refl _) _)
theorem RowE.drew (h : RowE E w0 w v l) : RowE E w0 w.drew v l := ⟨h.own.drew, h.low.drew⟩
theorem RowE.form (h : RowE E w0 w v l) : ∃ A c, v = .slice A l.length c ∧ l.length ≤ c ∧ El E w w.heap.size A l := by
  obtain ⟨A, c, rfl, hc⟩ := own_form h.own
  exact ⟨A, c, rfl, hc, El.of_own h.own⟩
theorem RowE.lt (h : RowE E w0 w v l) : ∀ k, v.ownBlock = some k → w0.heap.size ≤ k ∧ k < w.heap.size := h.own.lt
/-- A block of another type is not the row's. -/
theorem RowE.apart (h : RowE E w0 w v l) {g : Nat} {cs : Array Value} {t : TypeId} {fr : Nat × Nat} (hg : w.heap[g]? = some (.cells cs t fr)) (ht : t ≠ E.e) : v.ownBlock ≠ some g := by
  rcases h.own.2 with ⟨rfl, _⟩ | ⟨g1, _, _, rfl, _, hh1, _⟩
  · simp [Value.ownBlock]
  · intro e
    simp [Value.ownBlock] at e
    subst e
    rw [hh1] at hg
    injection hg with hg
    injection hg with _ h2
    exact ht h2.symm
theorem RowE.grows (h : RowE E w0 w v l) {v' : Value} {l' : List V} (ho : w'.ownsRow w0.heap.size E.e E.m v' l'.length (ecells E l')) (hg : w.grownBy w' v.ownBlock) : RowE E w0 w' v' l' :=
  ⟨ho, own_below h.low h.low.size h.own hg⟩
/-- What is kept of it where something else is changed. -/
theorem RowE.kept (h : RowE E w0 w v l) {row : Option Nat} (hg : w.grownBy w' row) (hr : ∀ k, row = some k → w0.heap.size ≤ k) (hne : row = none ∨ row ≠ v.ownBlock) : RowE E w0 w' v l := by
  refine ⟨?_, h.low.grown hg h.low.size hr⟩
  refine ⟨h.own.1, ?_⟩
  rcases h.own.2 with h1 | ⟨g, cap, cur, rfl, hb, hh, r⟩
  · exact .inl h1
  · refine .inr ⟨g, cap, cur, rfl, hb, (hg.block g (Array.getElem?_eq_some_iff.1 hh).1 ?_).trans hh, r⟩
    rcases hne with rfl | hne
    · simp
    · exact fun e => hne (by rw [← e]; rfl)
theorem RowE.base (h : RowE E w0 w v l) (hb : Below w00.heap.size w00 w0) : RowE E w00 w v l :=
  ⟨⟨h.own.1, by
    rcases h.own.2 with h1 | ⟨g, cap, cur, e, hg, r⟩
    · exact .inl h1
    · exact .inr ⟨g, cap, cur, e, Nat.le_trans hb.size hg, r⟩⟩, hb.trans (h.low.mono hb.size)⟩
/-- A block of elements that is laid now. -/
theorem RowE.lit (hB : Below w0.heap.size w0 w) (l : List V) (hl : l.length ≤ 1000000) (cs : Array Value) (hcs : cs.toList = ecells E l) : RowE E w0 (w.alloc (.cells cs E.e)) (.slice (some ⟨w.heap.size, 0, none⟩) l.length l.length) l := by
  have hsz : cs.size = l.length * E.m := by rw [← Array.length_toList, hcs, ecells_length]
  have h := World.ownsRow_lit (base := w0.heap.size) (e := E.e) (size := E.m) w cs l.length hB.size (by unfold maxLen; omega) hsz
  rw [hcs] at h
  exact ⟨h, hB.alloc hB.size _⟩
theorem El.lit (w : World) (l : List V) (cs : Array Value) (t : TypeId) (hcs : cs.toList = ecells E l) : El E (w.alloc (.cells cs t)) (w.heap.size + 1) (some ⟨w.heap.size, 0, none⟩) l := by
  refine ⟨fun i x hx => ⟨w.heap.size, 0, rfl, by omega, fun k u hu => ?_⟩⟩
  have : (w.alloc (.cells cs t)).heap[w.heap.size]? = some (.cells cs t (0, 0)) := heap_alloc_new w _
  rw [cell_of_row _ _ _ _ _ _ this, Nat.zero_add, ← Array.getElem?_toList, hcs]
  exact ecells_at E l i k x u hx hu

/-- Cells are stored one behind the other. -/
def putCells (w : World) (b o : Nat) : List Value → World
  | [] => w
  | u :: r => putCells (w.setCell ⟨b, o, none⟩ u) b (o + 1) r
theorem putCells_own {base g n cap m : Nat} {e : TypeId} : ∀ (us : List Value) (o : Nat) (xs : List Value) (w : World), w.ownsRow base e m (.slice (some ⟨g, 0, none⟩) n cap) n xs → o + us.length ≤ xs.length →
    (putCells w g o us).ownsRow base e m (.slice (some ⟨g, 0, none⟩) n cap) n (xs.take o ++ us ++ xs.drop (o + us.length)) ∧ w.grownBy (putCells w g o us) (some g)
  | [], o, xs, w, h, _ => by
    refine ⟨?_, World.grownBy.refl w _⟩
    show w.ownsRow _ _ _ _ _ (xs.take o ++ [] ++ xs.drop (o + 0))
    rw [List.append_nil, Nat.add_zero, List.take_append_drop]
    exact h
  | u :: r, o, xs, w, h, hl => by
    obtain ⟨h1, h2⟩ := h.stored o u
    rw [List.length_cons] at hl
    obtain ⟨h3, h4⟩ := putCells_own r (o + 1) (xs.set o u) (w.setCell ⟨g, o, none⟩ u) h1 (by rw [List.length_set]; omega)
    refine ⟨?_, ?_⟩
    · show (putCells (w.setCell ⟨g, o, none⟩ u) g (o + 1) r).ownsRow _ _ _ _ _ _
      have e1 : (xs.set o u).take (o + 1) = xs.take o ++ [u] := by
        rw [List.take_set, take_snoc_of xs o xs[o] (List.getElem?_eq_getElem (by omega))]
        rw [List.set_append_right _ _ (by rw [List.length_take]; omega), List.length_take, Nat.min_eq_left (by omega), Nat.sub_self]
        rfl
      have e2 : (xs.set o u).drop (o + 1 + r.length) = xs.drop (o + (u :: r).length) := by
        rw [List.drop_set_of_lt (by omega), List.length_cons]
        congr 1
        omega
      rw [e1, e2] at h3
      rw [show xs.take o ++ u :: r = xs.take o ++ [u] ++ r by simp]
      exact h3
    · show w.grownBy (putCells (w.setCell ⟨g, o, none⟩ u) g (o + 1) r) (some g)
      exact ⟨h4.os.trans h2.os, h4.tape.trans h2.tape, h4.output.trans h2.output, Nat.le_trans h2.size h4.size, fun k hk hne => (h4.block k (Nat.lt_of_lt_of_le hk h2.size) hne).trans (h2.block k hk hne)⟩
/-- One element of a row is put in the place of another one. -/
theorem RowE.put {g c : Nat} (h : RowE E w0 w (.slice (some ⟨g, 0, none⟩) l.length c) l) (i : Nat) (x : V) (hi : i < l.length) :
    RowE E w0 (putCells w g (i * E.m) (E.cells x)) (.slice (some ⟨g, 0, none⟩) (l.set i x).length c) (l.set i x) ∧ w.grownBy (putCells w g (i * E.m) (E.cells x)) (some g) := by
  have hle : i * E.m + E.m ≤ l.length * E.m := by rw [← Nat.succ_mul]; exact Nat.mul_le_mul_right _ hi
  obtain ⟨h1, h2⟩ := putCells_own (E.cells x) (i * E.m) (ecells E l) w h.own (by rw [E.len, ecells_length]; exact hle)
  rw [E.len, ← ecells_put E l i x hi] at h1
  refine ⟨h.grows ?_ h2, h2⟩
  rw [List.length_set]
  exact h1
end

theorem wpList_rowEb {P : Program} {V : Type} {E : Elem P V} {w0 w : World} {ops : Array Oper} {rest : List Oper} {o : Oper} {a : Act} {Q : Exit → Act → World → Prop} (hgd : o.guard = none) (s x : Operand)
    (ho : o.op = .call { callee := .builtin .append, args := #[s, x], argTypes := #[E.ty, E.ty] }) {v : Value} {l : List V} (hs : a.eval s = v) (h : RowE E w0 w v l)
    {B : Nat} {A : Option Addr} (l2 : List V) {m c : Nat} (hm : l2.length = m) (hx : a.eval x = .slice A m c) (hr : El E w B A l2) (hsz : (l.length + l2.length) * E.bytes ≤ 140737488355328)
    (hk : ∀ A' c' w' l3, Hid (l3 = l ++ l2) → RowE E w0 w' (.slice A' l3.length c') l3 → l3.length ≤ c' → El E w' w'.heap.size A' l3 → w.grownBy w' v.ownBlock → wpList P ops Q rest (a.put o.dst (.slice A' l3.length c')) w') :
    wpList P ops Q (o :: rest) a w := by
  subst hm
  refine wpList_plain hgd fun K hK => ?_
  obtain ⟨v', w', h1, h2, h3, _⟩ := run_appE w w0.heap.size o.type h.own c hr hsz h.low.size
  have h4 : RowE E w0 w' v' (l ++ l2) := h.grows (by rw [List.length_append, ecells_append]; exact h2) h3
  unfold Oper.wp execOp
  simp only [ho, resolve, invoke, builtin, Sem.run_bind, Sem.run_pure, Result.andThen_ok, List.map_toArray, List.map_cons, List.map_nil, hs, hx, h1]
  obtain ⟨A', c', rfl, h5, h6⟩ := h4.form
  exact hK _ _ (hk A' c' w' _ (Lib.hid rfl) h4 h5 h6 h3)
/-- The same in a region that draws its order. -/
theorem step_rowEb {P : Program} {V : Type} {E : Elem P V} {w0 w : World} {ops : Array Oper} {o : Oper} {a : Act} {K : Act → World → Prop} {Q : Exit → Act → World → Prop} {F : Prop} (hgd : o.guard = none) (s x : Operand)
    (ho : o.op = .call { callee := .builtin .append, args := #[s, x], argTypes := #[E.ty, E.ty] }) {v : Value} {l : List V} (hs : a.eval s = v) (h : RowE E w0 w v l)
    {B : Nat} {A : Option Addr} (l2 : List V) {m c : Nat} (hm : l2.length = m) (hx : a.eval x = .slice A m c) (hr : El E w B A l2) (hsz : (l.length + l2.length) * E.bytes ≤ 140737488355328)
    (hk : ∀ A' c' w' l3, Hid (l3 = l ++ l2) → RowE E w0 w' (.slice A' l3.length c') l3 → l3.length ≤ c' → El E w' w'.heap.size A' l3 → w.grownBy w' v.ownBlock → K (a.put o.dst (.slice A' l3.length c')) w') :
    if Region.wanted o (yielded ops a.tmps) = true then Oper.wp P o a w K Q else F := by
  subst hm
  rw [if_pos (by simp [Region.wanted, hgd])]
  obtain ⟨v', w', h1, h2, h3, _⟩ := run_appE w w0.heap.size o.type h.own c hr hsz h.low.size
  have h4 : RowE E w0 w' v' (l ++ l2) := h.grows (by rw [List.length_append, ecells_append]; exact h2) h3
  unfold Oper.wp execOp
  simp only [ho, resolve, invoke, builtin, Sem.run_bind, Sem.run_pure, Result.andThen_ok, List.map_toArray, List.map_cons, List.map_nil, hs, hx, h1]
  obtain ⟨A', c', rfl, h5, h6⟩ := h4.form
  exact hk A' c' w' _ (Lib.hid rfl) h4 h5 h6 h3

theorem wpList_rowE {P : Program} {V : Type} {E : Elem P V} {w0 w : World} {ops : Array Oper} {rest : List Oper} {o : Oper} {a : Act} {Q : Exit → Act → World → Prop} (hgd : o.guard = none) (s x : Operand)
    (ho : o.op = .call { callee := .builtin .append, args := #[s, x], argTypes := #[E.ty, E.ty] }) {v : Value} {l : List V} (hs : a.eval s = v) (h : RowE E w0 w v l)
    {B : Nat} {A : Option Addr} (l2 : List V) {m c : Nat} (hm : l2.length = m) (hx : a.eval x = .slice A m c) (hr : El E w B A l2) (hsz : l.length + l2.length ≤ 100000000000)
    (hk : ∀ A' c' w' l3, Hid (l3 = l ++ l2) → RowE E w0 w' (.slice A' l3.length c') l3 → l3.length ≤ c' → El E w' w'.heap.size A' l3 → w.grownBy w' v.ownBlock → wpList P ops Q rest (a.put o.dst (.slice A' l3.length c')) w') :
    wpList P ops Q (o :: rest) a w :=
  wpList_rowEb hgd s x ho hs h l2 hm hx hr (E.small hsz) hk
theorem step_rowE {P : Program} {V : Type} {E : Elem P V} {w0 w : World} {ops : Array Oper} {o : Oper} {a : Act} {K : Act → World → Prop} {Q : Exit → Act → World → Prop} {F : Prop} (hgd : o.guard = none) (s x : Operand)
    (ho : o.op = .call { callee := .builtin .append, args := #[s, x], argTypes := #[E.ty, E.ty] }) {v : Value} {l : List V} (hs : a.eval s = v) (h : RowE E w0 w v l)
    {B : Nat} {A : Option Addr} (l2 : List V) {m c : Nat} (hm : l2.length = m) (hx : a.eval x = .slice A m c) (hr : El E w B A l2) (hsz : l.length + l2.length ≤ 100000000000)
    (hk : ∀ A' c' w' l3, Hid (l3 = l ++ l2) → RowE E w0 w' (.slice A' l3.length c') l3 → l3.length ≤ c' → El E w' w'.heap.size A' l3 → w.grownBy w' v.ownBlock → K (a.put o.dst (.slice A' l3.length c')) w') :
    if Region.wanted o (yielded ops a.tmps) = true then Oper.wp P o a w K Q else F :=
  step_rowEb hgd s x ho hs h l2 hm hx hr (E.small hsz) hk

/-- A slice cut at its end, at its front. -/
theorem run_headE {P : Program} {V : Type} (E : Elem P V) (A : Option Addr) (n c : Nat) (hi : Int) (h1 : 0 ≤ hi) (h2 : hi ≤ c) (W : World) :
    (Instr.slice E.ty (.slice A n c) none (some (.int .i64 hi)) none).run P W = .ok (.slice A hi.toNat c) W := by
  obtain ⟨i, hi', hz0, hz1, hz2⟩ := info_parts E.info
  have c1 : 0 ≤ hi ∧ hi ≤ (c : Int) := ⟨h1, h2⟩
  cases A with
  | none => simp [Instr.slice, run_underlying E.und, Instr.sliceBounds, Instr.sliceBound, asIntOf, if_pos c1, sizeOf, typeInfo, hi']
  | some a => simp [Instr.slice, run_underlying E.und, Instr.sliceBounds, Instr.sliceBound, asIntOf, if_pos c1, sizeOf, typeInfo, hi', Addr.add]
theorem run_tailE {P : Program} {V : Type} (E : Elem P V) (A : Option Addr) (n c : Nat) (lo : Int) (h0 : 0 ≤ lo) (h1 : lo ≤ n) (W : World) :
    (Instr.slice E.ty (.slice A n c) (some (.int .i64 lo)) none none).run P W = .ok (.slice (if c = lo.toNat then A else A.map (·.add (lo.toNat * E.m))) (n - lo.toNat) (c - lo.toNat)) W := by
  obtain ⟨i, hi', hz0, hz1, hz2⟩ := info_parts E.info
  have c2 : 0 ≤ lo ∧ lo ≤ (n : Int) := ⟨h0, h1⟩
  cases A with
  | none => simp [Instr.slice, run_underlying E.und, Instr.sliceBounds, Instr.sliceBound, asIntOf, if_pos c2, sizeOf, typeInfo, hi']
  | some a => simp [Instr.slice, run_underlying E.und, Instr.sliceBounds, Instr.sliceBound, asIntOf, if_pos c2, sizeOf, typeInfo, hi', hz1]
end Go.Proofs.YtmaohnbddlccdaaGreat
end
