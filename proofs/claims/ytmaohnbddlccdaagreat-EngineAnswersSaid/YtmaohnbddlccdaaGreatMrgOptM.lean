/- Joined texts: OptM, OptP, OptE, RefE, OptC, OptS, RefS. -/
import Derived.Test.YtmaohnbddlccdaaGreatProg
import Derived.WalkKit
import Derived.WalkSpells
import Derived.WalkLawsBesides
import Derived.Lib.Hide
import Derived.Laws.OwnMore
import Derived.Maps.AppendAt
import Derived.Laws.BytesString
import Derived.Deep.Draws
import Derived.OwnWalk
import Derived.Deep.AppendLies
import Derived.RangeFuncBox
import Derived.Outline
import Derived.StillTailTactics
import Derived.BigQuiet
import Derived.Deep.QuietTactic
import Derived.Deep.RegionHeld3

/- Bytes and options in memory: how a slice of bytes, and a list of options, reads; appending bytes; a text of bytes. -/
section
namespace Go.Proofs.YtmaohnbddlccdaaGreat.NO
open Go.RowKit

/-- A byte's value. -/
abbrev bV (x : UInt8) : Value := .int .u8 (x.toNat : Int)
def bcells (l : List UInt8) : List Value := l.map bV
theorem bcells_length (l : List UInt8) : (bcells l).length = l.length := by simp [bcells]
theorem bcells_append (a b : List UInt8) : bcells (a ++ b) = bcells a ++ bcells b := by simp [bcells]
theorem bcells_one (l : List UInt8) : ∀ u ∈ bcells l, u.oneCell' = true := by
  intro u hu
  obtain ⟨x, _, rfl⟩ := List.mem_map.1 hu
  rfl
theorem add_at (b o j : Nat) : (⟨b, o, none⟩ : Addr).add j = ⟨b, o + j, none⟩ := by
  unfold Addr.add
  split
  · rename_i h; subst h; rfl
  · rfl

/-- The slice at A reads as the bytes l, and lies below block B. -/
structure By (w : World) (B : Nat) (A : Option Addr) (l : List UInt8) : Prop where
  at_ : ∀ i x, l[i]? = some x → ∃ b o, A = some ⟨b, o, none⟩ ∧ b < B ∧ w.cell? ⟨b, o + i, none⟩ = some (bV x)

section
variable {w w' : World} {B B' : Nat} {A : Option Addr} {l : List UInt8}
theorem By.nil : By w B A [] := ⟨fun i x h => by simp at h⟩
theorem By.keep (h : By w B A l) (hk : ∀ p : Addr, p.block < B → w'.cell? p = w.cell? p) : By w' B A l :=
  ⟨fun i x hx => by
    obtain ⟨b, o, rfl, hb, h1⟩ := h.at_ i x hx
    exact ⟨b, o, rfl, hb, (hk _ hb).trans h1⟩⟩
theorem By.below (h : By w B A l) (hb : Below B w w') : By w' B A l := h.keep fun _ hp => hb.cell hp
theorem By.more (h : By w B A l) (hB : B ≤ B') : By w B' A l :=
  ⟨fun i x hx => by
    obtain ⟨b, o, rfl, hb, h1⟩ := h.at_ i x hx
    exact ⟨b, o, rfl, by omega, h1⟩⟩
theorem By.later (h : By w w.heap.size A l) (hb : Below w.heap.size w w') : By w' w'.heap.size A l := (h.below hb).more hb.size
theorem By.drew (h : By w B A l) : By w.drew B A l := ⟨h.at_⟩
theorem By.drewN (h : By w B A l) (n : Nat) : By (w.drewN n) B A l := ⟨h.at_⟩
theorem By.cells {ad : Addr} (h : By w B (some ad) l) (j : Nat) (u : Value) (hu : (bcells l)[j]? = some u) : w.cell? (ad.add j) = some u := by
  unfold bcells at hu
  rw [List.getElem?_map] at hu
  obtain ⟨x, hx, rfl⟩ := Option.map_eq_some_iff.1 hu
  obtain ⟨b, o, hA, _, h1⟩ := h.at_ j x hx
  obtain rfl := Option.some.inj hA
  rw [add_at]
  exact h1
theorem By.none_ (h : By w B none l) : l = [] := by
  match l, h with
  | [], _ => rfl
  | x :: r, h =>
    obtain ⟨b, o, hA, _⟩ := h.at_ 0 x rfl
    cases hA
/-- Bytes cut off at the front. -/
theorem By.cut (h : By w B A l) {k cap : Nat} (hk : k ≤ l.length) (hc : l.length ≤ cap) : By w B (if cap = k then A else A.map (·.add k)) (l.drop k) := by
  refine ⟨fun i x hx => ?_⟩
  rw [List.getElem?_drop] at hx
  have hlt := (List.getElem?_eq_some_iff.1 hx).1
  obtain ⟨b, o, rfl, hb, h1⟩ := h.at_ _ x hx
  rw [if_neg (by omega)]
  exact ⟨b, o + k, by rw [Option.map_some, add_at], hb, by rw [Nat.add_assoc]; exact h1⟩
theorem By.take (h : By w B A l) (k : Nat) : By w B A (l.take k) :=
  ⟨fun i x hx => h.at_ i x (by rw [List.getElem?_take] at hx; split at hx; exact hx; cases hx)⟩
theorem By.of_own {base : Nat} {e : TypeId} {n c : Nat} (h : w.ownsRow base e 1 (.slice A n c) n (bcells l)) : By w w.heap.size A l := by
  refine ⟨fun i x hx => ?_⟩
  have hi : i < l.length := (List.getElem?_eq_some_iff.1 hx).1
  have hn : n = l.length := by have := h.1; rw [bcells_length] at this; omega
  rcases h.2 with ⟨_, h0⟩ | ⟨g, cap, cur, hv, _, hh, _⟩
  · omega
  have hA : A = some ⟨g, 0, none⟩ := by injection hv
  subst hA
  have hlt : g < w.heap.size := (Array.getElem?_eq_some_iff.1 hh).1
  refine ⟨g, 0, rfl, hlt, ?_⟩
  rw [← add_at]
  exact h.cells (g := g) rfl i _ (by simp [bcells, hx])
/-- A block of bytes that is laid now. -/
theorem By.new (w : World) (l : List UInt8) (t : TypeId) : By (w.alloc (.cells (bcells l).toArray t)) (w.heap.size + 1) (some ⟨w.heap.size, 0, none⟩) l := by
  refine ⟨fun i x hx => ⟨w.heap.size, 0, rfl, by omega, ?_⟩⟩
  have : (w.alloc (.cells (bcells l).toArray t)).heap[w.heap.size]? = some (.cells (bcells l).toArray t (0, 0)) := heap_alloc_new w _
  rw [cell_of_row _ _ _ _ _ _ this]
  simp [bcells, hx]
end

theorem Tryz.infoB : (Tryz.prog.info? 5).map (fun i => (i.zero, i.size, i.bytes)) = some (some (.int .u8 0), 1, 1) := by kernel_rfl
theorem Tryz.infoO : (Tryz.prog.info? 68).map (fun i => (i.zero, i.size, i.bytes)) = some (some (.agg #[.int .i64 0, .slice none 0 0]), 2, 32) := by kernel_rfl

/-- Bytes as a text. -/
theorem foldl_push (l : List UInt8) (s : ByteArray) : (l.map fun x => (x.toNat : Int)).foldl (fun r n => r.push (UInt8.ofNat n.toNat)) s = ⟨s.data ++ l.toArray⟩ := by
  induction l generalizing s with
  | nil => simp
  | cons x r ih =>
    rw [List.map_cons, List.foldl_cons, ih]
    simp [ByteArray.push]

theorem str_run {w : World} {B : Nat} {A : Option Addr} {l : List UInt8} (c : Nat) (h : By w B A l) : (convert 29 9 (.slice A l.length c)).run Tryz.prog w = .ok (.string ⟨l.toArray⟩) w := by
  rw [run_convert_bytes_string _ 29 9 5 _ _ _ Tryz.underlying29 Tryz.underlying5 Tryz.underlying9]
  cases A with
  | none =>
    obtain rfl := h.none_
    unfold Conv.bytesToString
    simp [Sem.run_pure]
    rfl
  | some ad =>
    have hl : (loadCells ad l.length).run Tryz.prog w = .ok ((l.map fun x => (x.toNat : Int)).map (Value.int .u8)).toArray w := by
      have := run_loadCells_list (P := Tryz.prog) (w := w) ad (bcells l) (fun j v hv => h.cells j v hv)
      rw [bcells_length] at this
      rw [this]
      simp [bcells, Function.comp_def]
    rw [run_bytesToString _ ad l.length c _ hl, foldl_push]
    simp

/-- Bytes behind a row of the call's own. -/
theorem run_appB (w : World) (base : Nat) (ty : TypeId) {v : Value} {n : Nat} {xs : List Value} (hown : w.ownsRow base 5 1 v n xs) {B : Nat} {A : Option Addr} {l : List UInt8} (c : Nat) (hr : By w B A l) (hsz : n + l.length ≤ 140737488355328) (hbase : base ≤ w.heap.size) :
    ∃ v' w', (Builtin.append_ #[29, 29] ty #[v, .slice A l.length c]).run Tryz.prog w = .ok v' w' ∧ w'.ownsRow base 5 1 v' (n + l.length) (xs ++ bcells l) ∧ w.grownBy w' v.ownBlock ∧ (v'.ownBlock = v.ownBlock ∨ v'.ownBlock = some w.heap.size) := by
  obtain ⟨i, hi, hz0, hz1, hz2⟩ := info_parts Tryz.infoB
  cases A with
  | some ad =>
    obtain ⟨v', w', h1, h2, h3, _, h5⟩ := run_append_own_at (P := Tryz.prog) w base 29 ty 5 i (.int .u8 0) 1 1 Tryz.underlying29 hi hz0 hz1 hz2 rfl (by decide) v n xs hown ad l.length c (bcells l) (by rw [bcells_length]; omega) (fun j u hu => hr.cells j u hu) (bcells_one l) (by unfold maxLen; omega) (by omega) hbase
    exact ⟨v', w', h1, h2, h3, h5⟩
  | none =>
    obtain rfl := hr.none_
    refine ⟨v, w, ?_, by simpa [bcells] using hown, World.grownBy.refl w _, .inl rfl⟩
    rcases hown.2 with ⟨rfl, rfl⟩ | ⟨g, cap, cur, rfl, _, _, hnc, _⟩
    · simp [Builtin.append_, run_underlying Tryz.underlying29, sizeOf, typeInfo, hi, Builtin.lenOf, Builtin.firstCells]
    · simp [Builtin.append_, run_underlying Tryz.underlying29, sizeOf, typeInfo, hi, Builtin.lenOf, Builtin.firstCells, hnc, storeCells]

theorem wpList_appB {w : World} {ops : Array Oper} {rest : List Oper} {o : Oper} {a : Act} {Q : Exit → Act → World → Prop} (hgd : o.guard = none) (s x : Operand)
    (ho : o.op = .call { callee := .builtin .append, args := #[s, x], argTypes := #[29, 29] }) (base : Nat) (v : Value) (n : Nat) (xs : List Value) (hs : a.eval s = v) (hown : w.ownsRow base 5 1 v n xs)
    (B : Nat) (A : Option Addr) (l : List UInt8) (c : Nat) (hx : a.eval x = .slice A l.length c) (hr : By w B A l) (hsz : n + l.length ≤ 140737488355328) (hbase : base ≤ w.heap.size)
    (h : ∀ v' w', w'.ownsRow base 5 1 v' (n + l.length) (xs ++ bcells l) → w.grownBy w' v.ownBlock → (v'.ownBlock = v.ownBlock ∨ v'.ownBlock = some w.heap.size) → wpList Tryz.prog ops Q rest (a.put o.dst v') w') :
    wpList Tryz.prog ops Q (o :: rest) a w := by
  refine wpList_plain hgd fun K hK => ?_
  obtain ⟨v', w', h1, h2, h3, h4⟩ := run_appB w base o.type hown c hr hsz hbase
  unfold Oper.wp execOp
  simp only [ho, resolve, invoke, builtin, Sem.run_bind, Sem.run_pure, Result.andThen_ok, List.map_toArray, List.map_cons, List.map_nil, hs, hx, h1]
  exact hK _ _ (h v' w' h2 h3 h4)

/-- The same in a region that draws its order. -/
theorem step_appB {w : World} {ops : Array Oper} {o : Oper} {a : Act} {K : Act → World → Prop} {Q : Exit → Act → World → Prop} {E : Prop} (hgd : o.guard = none) (s x : Operand)
    (ho : o.op = .call { callee := .builtin .append, args := #[s, x], argTypes := #[29, 29] }) (base : Nat) (v : Value) (n : Nat) (xs : List Value) (hs : a.eval s = v) (hown : w.ownsRow base 5 1 v n xs)
    (B : Nat) (A : Option Addr) (l : List UInt8) (c : Nat) (hx : a.eval x = .slice A l.length c) (hr : By w B A l) (hsz : n + l.length ≤ 140737488355328) (hbase : base ≤ w.heap.size)
    (h : ∀ v' w', w'.ownsRow base 5 1 v' (n + l.length) (xs ++ bcells l) → w.grownBy w' v.ownBlock → (v'.ownBlock = v.ownBlock ∨ v'.ownBlock = some w.heap.size) → K (a.put o.dst v') w') :
    if Region.wanted o (yielded ops a.tmps) = true then Oper.wp Tryz.prog o a w K Q else E := by
  rw [if_pos (by simp [Region.wanted, hgd])]
  obtain ⟨v', w', h1, h2, h3, h4⟩ := run_appB w base o.type hown c hr hsz hbase
  unfold Oper.wp execOp
  simp only [ho, resolve, invoke, builtin, Sem.run_bind, Sem.run_pure, Result.andThen_ok, List.map_toArray, List.map_cons, List.map_nil, hs, hx, h1]
  exact h v' w' h2 h3 h4

/-- The same, the length under a name of its own. -/
theorem step_appBm {w : World} {ops : Array Oper} {o : Oper} {a : Act} {K : Act → World → Prop} {Q : Exit → Act → World → Prop} {E : Prop} (hgd : o.guard = none) (s x : Operand)
    (ho : o.op = .call { callee := .builtin .append, args := #[s, x], argTypes := #[29, 29] }) (base : Nat) (v : Value) (n : Nat) (xs : List Value) (hs : a.eval s = v) (hown : w.ownsRow base 5 1 v n xs)
    (B : Nat) (A : Option Addr) (l : List UInt8) (m c : Nat) (hm : m = l.length) (hx : a.eval x = .slice A m c) (hr : By w B A l) (k : Nat) (hk : n + m = k) (hsz : n + m ≤ 140737488355328) (hbase : base ≤ w.heap.size)
    (h : ∀ A' c' w', w'.ownsRow base 5 1 (.slice A' k c') k (xs ++ bcells l) → w.grownBy w' v.ownBlock → K (a.put o.dst (.slice A' k c')) w') :
    if Region.wanted o (yielded ops a.tmps) = true then Oper.wp Tryz.prog o a w K Q else E := by
  subst hm hk
  refine step_appB hgd s x ho base v n xs hs hown B A l c hx hr hsz hbase fun v' w' h1 h2 _ => ?_
  obtain ⟨A', c', rfl, _⟩ := (show ∃ A c, v' = .slice A (n + l.length) c ∧ True by
    rcases h1.2 with ⟨rfl, h0⟩ | ⟨g, cap, cur, rfl, _⟩
    · exact ⟨none, 0, by rw [h0], trivial⟩
    · exact ⟨_, cap, rfl, trivial⟩)
  exact h A' c' w' h1 h2

/-- Bytes cut out of a slice. -/
theorem run_cut (g o n c : Nat) (lo hi : Int) (h0 : 0 ≤ lo) (h1 : lo ≤ hi) (h2 : hi ≤ c) (W : World) :
    (Instr.slice 29 (.slice (some ⟨g, o, none⟩) n c) (some (.int .i64 lo)) (some (.int .i64 hi)) none).run Tryz.prog W = .ok (.slice (some ⟨g, if c = lo.toNat then o else o + lo.toNat, none⟩) (hi.toNat - lo.toNat) (c - lo.toNat)) W := by
  obtain ⟨i, hi', hz0, hz1, hz2⟩ := info_parts Tryz.infoB
  have c1 : 0 ≤ hi ∧ hi ≤ (c : Int) := ⟨by omega, h2⟩
  have c2 : 0 ≤ lo ∧ lo ≤ ((hi.toNat : Nat) : Int) := ⟨h0, by omega⟩
  have e : (if c = lo.toNat then some ⟨g, o, none⟩ else some (Addr.add ⟨g, o, none⟩ lo.toNat)) = some (⟨g, if c = lo.toNat then o else o + lo.toNat, none⟩ : Addr) := by
    split
    · rfl
    · rw [add_at]
  simp only [Instr.slice, run_underlying Tryz.underlying29, Sem.run_bind, Result.andThen_ok, Instr.sliceBounds, Instr.sliceBound, asIntOf, Sem.run_pure, if_pos c1, if_pos c2, sizeOf, typeInfo, Option.map_some]
  simp [hi', hz1, e]

theorem cut_by {w : World} {B g o : Nat} {l : List UInt8} (h : By w B (some ⟨g, o, none⟩) l) (n c lo hi : Nat) (Lo Hi : Int) (eLo : Lo = lo) (eHi : Hi = hi) (h1 : lo ≤ hi) (h2 : hi ≤ l.length) (h3 : l.length ≤ c) :
    ∃ A', (∀ W, (Instr.slice 29 (.slice (some ⟨g, o, none⟩) n c) (some (.int .i64 Lo)) (some (.int .i64 Hi)) none).run Tryz.prog W = .ok (.slice A' (hi - lo) (c - lo)) W) ∧ By w B A' ((l.drop lo).take (hi - lo)) := by
  subst eLo eHi
  refine ⟨some ⟨g, if c = lo then o else o + lo, none⟩, fun W => by rw [run_cut g o n c lo hi (by omega) (by omega) (by omega) W]; simp only [Int.toNat_natCast], ?_⟩
  refine ⟨fun i x hx => ?_⟩
  rw [List.getElem?_take] at hx
  split at hx
  · rw [List.getElem?_drop] at hx
    have hlt := (List.getElem?_eq_some_iff.1 hx).1
    obtain ⟨b', o', hA, hb, hcell⟩ := h.at_ _ x hx
    obtain ⟨rfl, rfl⟩ : g = b' ∧ o = o' := by injection hA with hA; injection hA with h1 h2; exact ⟨h1, h2⟩
    exact ⟨g, o + lo, by rw [if_neg (by omega)], hb, by rw [Nat.add_assoc]; exact hcell⟩
  · cases hx

/-- An option as it lies: its code, and where its data lies. -/
structure OptV where
  code : Int
  ad : Option Addr
  cap : Nat
  data : List UInt8
abbrev OptV.v (x : OptV) : Value := .agg #[.int .i64 x.code, .slice x.ad x.data.length x.cap]
def OptV.abs (x : OptV) : Int × List UInt8 := (x.code, x.data)
def ocells : List OptV → List Value
  | [] => []
  | x :: r => .int .i64 x.code :: .slice x.ad x.data.length x.cap :: ocells r
theorem ocells_length (l : List OptV) : (ocells l).length = l.length * 2 := by
  induction l with
  | nil => rfl
  | cons x r ih => simp [ocells, ih]; omega
theorem ocells_append (a b : List OptV) : ocells (a ++ b) = ocells a ++ ocells b := by
  induction a with
  | nil => rfl
  | cons x r ih => simp [ocells, ih]
theorem ocells_at (l : List OptV) (i : Nat) (x : OptV) (h : l[i]? = some x) : (ocells l)[i * 2]? = some (.int .i64 x.code) ∧ (ocells l)[i * 2 + 1]? = some (.slice x.ad x.data.length x.cap) := by
  induction l generalizing i with
  | nil => simp at h
  | cons y r ih =>
    cases i with
    | zero => simp at h; subst h; simp [ocells]
    | succ i =>
      have := ih i (by simpa using h)
      rw [show (i + 1) * 2 = i * 2 + 1 + 1 by omega]
      simpa [ocells] using this

/-- The slice at A reads as the options l, and lies below block B, with all their data. -/
structure Op (w : World) (B : Nat) (A : Option Addr) (l : List OptV) : Prop where
  at_ : ∀ i x, l[i]? = some x → ∃ b o, A = some ⟨b, o, none⟩ ∧ b < B ∧ w.cell? ⟨b, o + i * 2, none⟩ = some (.int .i64 x.code) ∧ w.cell? ⟨b, o + i * 2 + 1, none⟩ = some (.slice x.ad x.data.length x.cap)
  data : ∀ x ∈ l, By w B x.ad x.data

section
variable {w w' : World} {B B' : Nat} {A : Option Addr} {l : List OptV}
theorem Op.nil : Op w B A [] := ⟨fun i x h => by simp at h, fun x h => by simp at h⟩
theorem Op.keep (h : Op w B A l) (hk : ∀ p : Addr, p.block < B → w'.cell? p = w.cell? p) : Op w' B A l :=
  ⟨fun i x hx => by
    obtain ⟨b, o, rfl, hb, h1, h2⟩ := h.at_ i x hx
    exact ⟨b, o, rfl, hb, (hk _ hb).trans h1, (hk _ hb).trans h2⟩, fun x hx => (h.data x hx).keep hk⟩
theorem Op.below (h : Op w B A l) (hb : Below B w w') : Op w' B A l := h.keep fun _ hp => hb.cell hp
theorem Op.more (h : Op w B A l) (hB : B ≤ B') : Op w B' A l :=
  ⟨fun i x hx => by
    obtain ⟨b, o, rfl, hb, h1, h2⟩ := h.at_ i x hx
    exact ⟨b, o, rfl, by omega, h1, h2⟩, fun x hx => (h.data x hx).more hB⟩
theorem Op.later (h : Op w w.heap.size A l) (hb : Below w.heap.size w w') : Op w' w'.heap.size A l := (h.below hb).more hb.size
theorem Op.drew (h : Op w B A l) : Op w.drew B A l := ⟨h.at_, fun x hx => (h.data x hx).drew⟩
theorem Op.drewN (h : Op w B A l) (n : Nat) : Op (w.drewN n) B A l := ⟨h.at_, fun x hx => (h.data x hx).drewN n⟩
theorem Op.of_own {base : Nat} {e : TypeId} {n c : Nat} (h : w.ownsRow base e 2 (.slice A n c) n (ocells l)) (hd : ∀ x ∈ l, By w w.heap.size x.ad x.data) : Op w w.heap.size A l := by
  refine ⟨fun i x hx => ?_, hd⟩
  have hi : i < l.length := (List.getElem?_eq_some_iff.1 hx).1
  have hn : n = l.length := by have := h.1; rw [ocells_length] at this; omega
  rcases h.2 with ⟨_, h0⟩ | ⟨g, cap, cur, hv, _, hh, _⟩
  · omega
  have hA : A = some ⟨g, 0, none⟩ := by injection hv
  subst hA
  have hlt : g < w.heap.size := (Array.getElem?_eq_some_iff.1 hh).1
  obtain ⟨h1, h2⟩ := ocells_at l i x hx
  refine ⟨g, 0, rfl, hlt, ?_, ?_⟩
  · rw [← add_at]; exact h.cells (g := g) rfl _ _ h1
  · rw [Nat.add_assoc, ← add_at]; exact h.cells (g := g) rfl _ _ h2
end

theorem own_form {w : World} {base : Nat} {e : TypeId} {size n : Nat} {v : Value} {xs : List Value} (h : w.ownsRow base e size v n xs) : ∃ A c, v = .slice A n c ∧ n ≤ c := by
  rcases h.2 with ⟨rfl, rfl⟩ | ⟨g, cap, cur, rfl, _, _, hnc, _⟩
  · exact ⟨none, 0, rfl, Nat.le_refl _⟩
  · exact ⟨_, cap, rfl, hnc⟩

/-- What is made of a row, and below which nothing has turned. -/
theorem below_of_grown {w w' : World} {n : Nat} {row : Option Nat} (hg : w.grownBy w' row) (hn : n ≤ w.heap.size) (hr : ∀ g, row = some g → n ≤ g) : Below n w w' :=
  (Below.refl n w).grown hg hn (fun g e => hr g e)

end Go.Proofs.YtmaohnbddlccdaaGreat.NO
end

/- Plain mathematics of options: lists of codes with data, and their bytes. -/
section
namespace Go.Proofs.YtmaohnbddlccdaaGreat.NO

/-- May an option be? -/
def okO (x : Int × List UInt8) : Bool := decide (0 < x.1) && decide (x.1 < 255) && decide (x.2.length ≤ 255)
theorem okO_iff (x : Int × List UInt8) : okO x = true ↔ 0 < x.1 ∧ x.1 < 255 ∧ x.2.length ≤ 255 := by simp [okO, and_assoc]
/-- One option's bytes. -/
def one (x : Int × List UInt8) : List UInt8 := UInt8.ofNat x.1.toNat :: UInt8.ofNat x.2.length :: x.2
def flat (l : List (Int × List UInt8)) : List UInt8 := l.flatMap one
theorem one_length (x : Int × List UInt8) : (one x).length = 2 + x.2.length := by simp [one]; omega
theorem flat_snoc (l : List (Int × List UInt8)) (x : Int × List UInt8) : flat (l ++ [x]) = flat l ++ one x := by simp [flat]
theorem flat_cons (l : List (Int × List UInt8)) (x : Int × List UInt8) : flat (x :: l) = one x ++ flat l := by simp [flat]
theorem flat_nil : flat [] = [] := rfl

/-- The options' bytes, and the error's number. -/
def encL (l : List (Int × List UInt8)) : List UInt8 × Int :=
  if l.all okO then (if (flat l).length + 1 ≤ 1024 then (flat l ++ [255], 0) else ([], 3)) else ([], 1)

theorem encL_bad {l : List (Int × List UInt8)} {x : Int × List UInt8} (hx : x ∈ l) (h : okO x = false) : encL l = ([], 1) := by
  unfold encL
  rw [if_neg]
  intro ha
  rw [List.all_eq_true.1 ha x hx] at h
  cases h
theorem encL_full {l : List (Int × List UInt8)} (h : l.all okO = true) (hf : 1024 < (flat l).length + 1) : encL l = ([], 3) := by
  unfold encL
  rw [if_pos h, if_neg (by omega)]
theorem encL_ok {l : List (Int × List UInt8)} (h : l.all okO = true) (hf : (flat l).length + 1 ≤ 1024) : encL l = (flat l ++ [255], 0) := by
  unfold encL
  rw [if_pos h, if_pos hf]

theorem take_snoc_of {α : Type} (l : List α) (k : Nat) (x : α) (h : l[k]? = some x) : l.take (k + 1) = l.take k ++ [x] := by
  rw [List.take_add_one, h]; rfl

/-- The options of a list as it lies. -/
def absL (l : List OptV) : List (Int × List UInt8) := l.map OptV.abs
theorem absL_take (l : List OptV) (k : Nat) : absL (l.take k) = (absL l).take k := by simp [absL]
theorem absL_at {l : List OptV} {k : Nat} {x : OptV} (h : l[k]? = some x) : (absL l)[k]? = some x.abs := by simp [absL, h]
theorem absL_length (l : List OptV) : (absL l).length = l.length := by simp [absL]
theorem flat_take_le (l : List (Int × List UInt8)) (k : Nat) : (flat (l.take k)).length ≤ (flat l).length := by
  have h : flat l = flat (l.take k) ++ flat (l.drop k) := by
    unfold flat
    rw [← List.flatMap_append, List.take_append_drop]
  rw [h, List.length_append]
  omega
theorem flat_len_le (l : List (Int × List UInt8)) (h : l.all okO = true) : (flat l).length ≤ l.length * 257 := by
  induction l with
  | nil => simp [flat]
  | cons x r ih =>
    simp only [List.all_cons, Bool.and_eq_true] at h
    have h1 := ih h.2
    have h2 := ((okO_iff x).1 h.1).2.2
    rw [flat_cons, List.length_append, one_length, List.length_cons]
    omega
theorem all_take_succ {l : List (Int × List UInt8)} {k : Nat} {x : Int × List UInt8} (hx : l[k]? = some x) (h : (l.take k).all okO = true) (ho : okO x = true) : (l.take (k + 1)).all okO = true := by
  rw [take_snoc_of l k x hx]; simp [h, ho]

end Go.Proofs.YtmaohnbddlccdaaGreat.NO
end

/- option.encodable and option.Encode. -/
section
namespace Go.Proofs.YtmaohnbddlccdaaGreat.NO
open Go.RowKit

/-- An option's cells in a block of their own. -/
abbrev obox (x : OptV) : Obj := .cells #[.int .i64 x.code, .slice x.ad x.data.length x.cap] 68

theorem encodable_any (x : OptV) (w : World) : Calls Tryz.prog 105 #[x.v] w fun e w' => e = .returned (.bool (okO x.abs)) ∧ w' = w.alloc (obox x) := by
  unfold okO OptV.abs
  by_cases h0 : 0 < x.code
  · by_cases h1 : x.code < 255
    · go_enter Tryz.func105, Tryz.ntmps105
      go_wp2
      go_ret
      exact ⟨by simp [h0, h1]; omega, rfl⟩
    · have hd : decide (x.code < 255) = false := by simpa using h1
      go_enter Tryz.func105, Tryz.ntmps105
      go_wp2
      go_ret
      exact ⟨by simp, rfl⟩
  · have hd : decide (0 < x.code) = false := by simpa using h0
    go_enter Tryz.func105, Tryz.ntmps105
    go_wp2
    go_ret
    exact ⟨by simp, rfl⟩

/-- Bytes and an error's number are answered; nothing that lay has turned. -/
def GivesB (w : World) (l : List UInt8) (k : Int) (e : Ending) (w' : World) : Prop :=
  ∃ A c, e = .returned (.tuple #[.slice A l.length c, .int .i64 k]) ∧ By w' w'.heap.size A l ∧ l.length ≤ c ∧ Below w.heap.size w w'

theorem two_bytes (w : World) (t : TypeId) (c : Int) (n : Nat) (hc0 : 0 ≤ c) (hc : c < 256) (hn : n < 256) : By (w.alloc (.cells #[.int .u8 c, .int .u8 (n : Int)] t)) (w.heap.size + 1) (some ⟨w.heap.size, 0, none⟩) [UInt8.ofNat c.toNat, UInt8.ofNat n] := by
  have h := By.new w [UInt8.ofNat c.toNat, UInt8.ofNat n] t
  have e1 : ((UInt8.ofNat c.toNat).toNat : Int) = c := by
    rw [UInt8.toNat_ofNat', Nat.mod_eq_of_lt (by omega)]; omega
  have e2 : (UInt8.ofNat n).toNat = n := by
    rw [UInt8.toNat_ofNat', Nat.mod_eq_of_lt (by omega)]
  simp only [bcells, List.map_cons, List.map_nil, bV, e1, e2] at h
  exact h
theorem one_byte (w : World) (t : TypeId) (c : Nat) (hc : c < 256) : By (w.alloc (.cells #[.int .u8 (c : Int)] t)) (w.heap.size + 1) (some ⟨w.heap.size, 0, none⟩) [UInt8.ofNat c] := by
  have h := By.new w [UInt8.ofNat c] t
  have e2 : (UInt8.ofNat c).toNat = c := by
    rw [UInt8.toNat_ofNat', Nat.mod_eq_of_lt (by omega)]
  simp only [bcells, List.map_cons, List.map_nil, bV, e2] at h
  exact h

theorem cell_grown {W w1 : World} {row : Option Nat} (hg : W.grownBy w1 row) {p : Addr} (hp : p.block < W.heap.size) (hne : row ≠ some p.block) : w1.cell? p = W.cell? p :=
  World.cell?_of_block (hg.block p.block hp (fun e => hne e.symm))
theorem own_below {w W w' : World} {B : Nat} {e : TypeId} {size n : Nat} {v : Value} {xs : List Value} (hB : Below B w W) (hBs : B ≤ W.heap.size) (hown : W.ownsRow B e size v n xs) (hg : W.grownBy w' v.ownBlock) : Below B w w' :=
  hB.grown hg hBs (fun k e => (hown.lt k e).1)

theorem run_makeB (s : Nat) (hs : s ≤ 1048576) (W : World) : (Instr.makeSlice 29 (.int .i64 0) (.int .i64 (s : Int))).run Tryz.prog W = .ok (.slice (some ⟨W.heap.size, 0, none⟩) 0 s) (W.alloc (.cells (madeCells #[.int .u8 0] s) 5)) := by
  obtain ⟨i, hi, hz0, hz1, hz2⟩ := info_parts Tryz.infoB
  have h := run_make (P := Tryz.prog) W 29 5 i (.int .u8 0) Tryz.underlying29 hi hz0 .i64 .i64 0 (s : Int) (by omega) (by omega) (by rw [hz2]; omega) (by omega)
  rw [hz1] at h
  simp only [Int.toNat_zero, Int.toNat_natCast, Nat.mul_one] at h
  exact h

theorem made_own (W : World) (B s : Nat) (hB : B ≤ W.heap.size) (hs : s ≤ 1048576) : (W.alloc (.cells (madeCells #[.int .u8 0] s) 5)).ownsRow B 5 1 (.slice (some ⟨W.heap.size, 0, none⟩) 0 s) 0 (bcells []) :=
  World.ownsRow_made W _ s hB (by unfold maxLen; omega) (by rw [size_madeCells]; omega)

theorem own_cap {w : World} {base g n cap : Nat} {l : List UInt8} (h : w.ownsRow base 5 1 (.slice (some ⟨g, 0, none⟩) n cap) n (bcells l)) : l.length ≤ cap := by
  have h1 := h.1
  rw [bcells_length] at h1
  rcases h.2 with ⟨h', _⟩ | ⟨g', cap', cur, hv, _, _, hnc, _⟩
  · cases h'
  · injection hv with _ _ hc
    omega

theorem push_one {x : OptV} {k : Nat} {l : List (Int × List UInt8)} (hn : l.take (k + 1) = l.take k ++ [x.abs]) :
    bcells (flat (l.take k)) ++ bcells [UInt8.ofNat x.code.toNat, UInt8.ofNat x.data.length] ++ bcells x.data = bcells (flat (l.take (k + 1))) := by
  rw [hn, flat_snoc, bcells_append]
  simp [one, OptV.abs, bcells]

theorem push_own {w : World} {B : Nat} {v : Value} {x : OptV} {k : Nat} {l : List (Int × List UInt8)} (hn : l.take (k + 1) = l.take k ++ [x.abs])
    (h : w.ownsRow B 5 1 v ((flat (l.take k)).length + [UInt8.ofNat x.code.toNat, UInt8.ofNat x.data.length].length + x.data.length) (bcells (flat (l.take k)) ++ bcells [UInt8.ofNat x.code.toNat, UInt8.ofNat x.data.length] ++ bcells x.data)) :
    w.ownsRow B 5 1 v (flat (l.take (k + 1))).length (bcells (flat (l.take (k + 1)))) := by
  rw [push_one hn] at h
  have e : (flat (l.take (k + 1))).length = (flat (l.take k)).length + [UInt8.ofNat x.code.toNat, UInt8.ofNat x.data.length].length + x.data.length := by
    rw [hn, flat_snoc, List.length_append, one_length]; simp [OptV.abs]; omega
  rw [e]
  exact h

set_option maxRecDepth 100000 in
set_option maxHeartbeats 1000000 in
theorem encode_any (A : Option Addr) (c : Nat) (L : List OptV) (w : World) (hr : Op w w.heap.size A L) (hL : L.length ≤ 2000) :
    Calls Tryz.prog 57 #[.slice A L.length c] w (GivesB w (encL (absL L)).1 (encL (absL L)).2) := by
  go_enter Tryz.func57, Tryz.ntmps57
  go_wp2
  go_loopw [4, 12] (fun sv i wr => ∃ k s : Nat, k ≤ L.length ∧ i = .int .i64 k ∧ sv = .int .i64 (s : Int) ∧ s = (flat ((absL L).take k)).length + 1 ∧ ((absL L).take k).all okO = true ∧ Below w.heap.size w wr) (fun _ i _ => L.length - (intOf i).toNat)
  case atStart => exact ⟨0, 1, Nat.zero_le _, rfl, rfl, rfl, rfl, Below.refl _ _⟩
  case round =>
    obtain ⟨k, s, hk, rfl, rfl, hs, hall, hB⟩ := hrel
    have hsl : s ≤ 514001 := by
      have := flat_len_le _ hall
      rw [List.length_take, absL_length] at this
      omega
    have HS := Lib.hid hs
    clear hs
    by_cases hlt : k < L.length
    · obtain ⟨x, hx⟩ : ∃ x, L[k]? = some x := ⟨_, List.getElem?_eq_getElem hlt⟩
      obtain ⟨b, o, rfl, hb, hc1, hc2⟩ := (hr.below hB).at_ k x hx
      have hsz := hB.size
      have HN := Lib.hid (take_snoc_of (absL L) k x.abs (absL_at hx))
      have HX := Lib.hid (absL_at hx)
      have HE := Lib.hid (fun W => encodable_any x W)
      have HA := Lib.hid hall
      have HR := Lib.hid hr
      clear hx hr hall
      cases hok : okO x.abs
      · have HK := Lib.hid hok
        rw [hok] at HE
        clear hok
        go_wp2_with (go_at_call 105; refine (HE.out _).mono ?_; rintro e w' ⟨rfl, rfl⟩)
        go_ret2
        rw [encL_bad (List.mem_of_getElem? HX.out) HK.out]
        exact ⟨none, 0, rfl, By.nil, Nat.le_refl _, (hB.alloc hsz _).alloc (by simp; omega) _⟩
      · have HK := Lib.hid hok
        have hd := ((okO_iff _).1 hok).2.2
        simp only [OptV.abs] at hd
        rw [hok] at HE
        clear hok
        go_wp2_with (go_at_call 105; refine (HE.out _).mono ?_; rintro e w' ⟨rfl, rfl⟩)
        go_roundw
        case rel => exact ⟨k + 1, s + (2 + x.data.length), by omega, by go_num, by go_num, by rw [HN.out, flat_snoc, List.length_append, one_length, HS.out]; simp only [OptV.abs]; omega, all_take_succ HX.out HA.out HK.out, (hB.alloc hsz _).alloc (by simp; omega) _⟩
        case measure => simp [intOf]; omega
    · obtain rfl : k = L.length := by omega
      rw [List.take_of_length_le (by rw [absL_length]; exact Nat.le_refl _)] at HS hall
      have hsz := hB.size
      by_cases hbig : 1024 < s
      · have HA := Lib.hid hall
        clear hall
        go_wp2
        go_ret2
        rw [encL_full HA.out (by have := HS.out; omega)]
        exact ⟨none, 0, rfl, By.nil, Nat.le_refl _, hB⟩
      · have HEN := Lib.hid (encL_ok hall (by have := HS.out; omega))
        have HA := Lib.hid hall
        have hmk := run_makeB s (by omega)
        clear hall
        go_wp2
        clear hmk
        obtain ⟨w1, hw1⟩ : ∃ w1, w1 = wr.alloc (.cells (madeCells #[.int .u8 0] s) 5) := ⟨_, rfl⟩
        have hown1 := made_own wr w.heap.size s hsz (by omega)
        have hB1 := hB.alloc hsz (.cells (madeCells #[.int .u8 0] s) 5)
        rw [← hw1] at hown1 hB1 ⊢
        clear hw1 hB
        generalize hwz : wr.heap.size = wz at *
        clear hwz hsz wr
        go_loopw [7, 32] (fun v i wr => ∃ k : Nat, k ≤ L.length ∧ i = .int .i64 k ∧ wr.ownsRow w.heap.size 5 1 v (flat ((absL L).take k)).length (bcells (flat ((absL L).take k))) ∧ Below w.heap.size w wr) (fun _ i _ => L.length - (intOf i).toNat)
        case atStart => exact ⟨0, Nat.zero_le _, rfl, hown1, hB1⟩
        case round =>
          obtain ⟨k, hk, rfl, hown, hB⟩ := hrel
          have hfl := flat_take_le (absL L) k
          have hfs : (flat ((absL L).take k)).length ≤ s := by have := HS.out; omega
          clear hfl
          have hsz := hB.size
          by_cases hlt : k < L.length
          · obtain ⟨x, hx⟩ : ∃ x, L[k]? = some x := ⟨_, List.getElem?_eq_getElem hlt⟩
            obtain ⟨b, o, rfl, hb, hc1, hc2⟩ := (hr.below hB).at_ k x hx
            have HN := Lib.hid (take_snoc_of (absL L) k x.abs (absL_at hx))
            have HD := Lib.hid (hr.data x (List.mem_of_getElem? hx))
            have hok := List.all_eq_true.1 HA.out x.abs (List.mem_of_getElem? (absL_at hx))
            obtain ⟨hx0, hx1, hx2⟩ := (okO_iff _).1 hok
            simp only [OptV.abs] at hx0 hx1 hx2
            have HR := Lib.hid hr
            clear hx hr hok
            generalize hfk : flat ((absL L).take k) = fk at *
            have HF := Lib.hid hfk
            clear hfk
            have hwc : IntKind.u8.wrap x.code = x.code := by simp [IntKind.wrap, IntKind.bits, IntKind.signed]; omega
            have hwl : IntKind.u8.wrap (x.data.length : Int) = x.data.length := by simp [IntKind.wrap, IntKind.bits, IntKind.signed]; omega
            obtain ⟨W, hW⟩ : ∃ W, W = (wr.alloc (obox x)).alloc (.cells #[.int .u8 x.code, .int .u8 (x.data.length : Int)] 5) := ⟨_, rfl⟩
            have hby := two_bytes (wr.alloc (obox x)) 5 x.code x.data.length (by omega) (by omega) (by omega)
            have hownW : W.ownsRow w.heap.size 5 1 u7 fk.length (bcells fk) := by rw [hW]; exact (hown.alloc _).alloc _
            have hBW : Below w.heap.size w W := by rw [hW]; exact (hB.alloc hsz _).alloc (by simp; omega) _
            have hcW : W.cell? ⟨wr.heap.size, 1, none⟩ = some (.slice x.ad x.data.length x.cap) := by rw [hW]; simp
            have hzW : W.heap.size = wr.heap.size + 1 + 1 := by rw [hW]; simp
            rw [← hW] at hby
            simp only [World.size_alloc] at hby
            have hlo := hown.lt
            have HW := Lib.hid hW
            have HZ := Lib.hid hzW
            have HO := Lib.hid hown
            clear hW hzW hown hB
            have hne : u7.ownBlock ≠ some wr.heap.size := fun e => by have := (hlo _ e).2; omega
            have hltW : wr.heap.size < W.heap.size := by have := HZ.out; omega
            go_wp2_with (first | (at_builtin; (rw [← HW.out]; refine wpList_appB rfl (.tmp 36) (.tmp 44) rfl w.heap.size u7 _ _ rfl hownW _ _ [UInt8.ofNat x.code.toNat, UInt8.ofNat x.data.length] 2 rfl hby (by simp; omega) hBW.size ?_; intro v1 w1 hown1 hg1 _; have hcell : w1.cell? ⟨wr.heap.size, 1, none⟩ = some (.slice x.ad x.data.length x.cap) := (cell_grown hg1 hltW hne).trans hcW; have hB1 := own_below hBW hBW.size hownW hg1; have hdat := HD.out.below hB1)) | (at_builtin; refine wpList_appB rfl (.tmp 46) (.tmp 48) rfl w.heap.size v1 _ _ rfl hown1 _ _ x.data _ rfl hdat (by simp; omega) hB1.size ?_; intro v2 w2 hown2 hg2 _))
            go_roundw
            case rel => exact ⟨k + 1, by omega, by go_num, push_own (x := x) (l := absL L) (k := k) HN.out (by rw [HF.out]; exact hown2), own_below hB1 hB1.size hown1 hg2⟩
            case measure => simp [intOf]; omega
          · obtain rfl : k = L.length := by omega
            rw [List.take_of_length_le (by rw [absL_length]; exact Nat.le_refl _)] at hown hfs
            have hby := one_byte wr 5 255 (by omega)
            have hownW := hown.alloc (.cells #[.int .u8 255] 5)
            have hBW := hB.alloc hsz (.cells #[.int .u8 255] 5)
            go_wp2_with (at_builtin; refine wpList_appB rfl (.tmp 51) (.tmp 52) rfl w.heap.size u7 _ _ rfl hownW _ _ [UInt8.ofNat 255] 1 rfl hby (by simp; omega) hBW.size ?_; intro v1 w1 hown1 hg1 _; have hB1 := own_below hBW hBW.size hownW hg1)
            obtain ⟨g, cap, rfl⟩ := ownsRow_succ hown1
            go_ret2
            rw [HEN.out]
            rw [← bcells_append] at hown1
            exact ⟨some ⟨g, 0, none⟩, cap, by simp, By.of_own hown1, own_cap hown1, hB1⟩
end Go.Proofs.YtmaohnbddlccdaaGreat.NO
end

/- lessorref02.Few and lessorref02.Encode. -/
section
namespace Go.Proofs.YtmaohnbddlccdaaGreat.NO
open Go.RowKit

def fewB (L : List OptV) : Bool := decide (L.length ≤ 100) && L.all fun x => decide (x.data.length ≤ 1000)

theorem few_iff (L : List OptV) : fewB L = true ↔ L.length ≤ 100 ∧ ∀ x ∈ L, x.data.length ≤ 1000 := by simp [fewB]

set_option maxRecDepth 100000 in
set_option maxHeartbeats 1000000 in
theorem few_any (A : Option Addr) (c : Nat) (L : List OptV) (w : World) (hr : Op w w.heap.size A L) (hlm : L.length ≤ 9223372036854775807) (hdm : ∀ x ∈ L, x.data.length ≤ 9223372036854775807) :
    Calls Tryz.prog 63 #[.slice A L.length c] w fun e w' => e = .returned (.bool (fewB L)) ∧ w = w' := by
  by_cases hbig : 100 < L.length
  · have HF := Lib.hid (show fewB L = false by simp [fewB]; intro h; omega)
    have hd : decide ((100 : Int) < (L.length : Int)) = true := by simp; omega
    go_enter Tryz.func63, Tryz.ntmps63
    go_wp2
    go_ret
    rw [HF.out]
    exact ⟨rfl, rfl⟩
  · have hd : decide ((100 : Int) < (L.length : Int)) = false := by simp; omega
    have HDM := Lib.hid hdm
    clear hdm
    go_enter Tryz.func63, Tryz.ntmps63
    go_wp2
    go_loop [3] (fun i => ∃ k : Nat, k ≤ L.length ∧ i = .int .i64 k ∧ ∀ x ∈ L.take k, x.data.length ≤ 1000) (fun i => L.length - (intOf i).toNat)
    case atStart => exact ⟨0, Nat.zero_le _, rfl, fun x hx => by simp at hx⟩
    case round =>
      obtain ⟨k, hk, rfl, hall⟩ := hrel
      have HA := Lib.hid hall
      clear hall
      by_cases hlt : k < L.length
      · obtain ⟨x, hx⟩ : ∃ x, L[k]? = some x := ⟨_, List.getElem?_eq_getElem hlt⟩
        obtain ⟨b, o, rfl, hb, hc1, hc2⟩ := hr.at_ k x hx
        have hxm := HDM.out x (List.mem_of_getElem? hx)
        have HX := Lib.hid hx
        clear hx
        by_cases hdat : 1000 < x.data.length
        · have HF := Lib.hid (show fewB L = false by
            cases h : fewB L
            · rfl
            · have := ((few_iff L).1 h).2 x (List.mem_of_getElem? HX.out); omega)
          go_wp2
          go_ret
          rw [HF.out]
          exact ⟨rfl, rfl⟩
        · have hd2 : decide ((1000 : Int) < (x.data.length : Int)) = false := by simp; omega
          go_wp2
          go_round
          case rel =>
            refine ⟨k + 1, by omega, by go_num, fun y hy => ?_⟩
            rw [take_snoc_of L k x HX.out] at hy
            rcases List.mem_append.1 hy with hy | hy
            · exact HA.out y hy
            · simp at hy; subst hy; omega
          case measure => simp [intOf]; omega
      · have HF := Lib.hid (show fewB L = true by
          refine (few_iff L).2 ⟨by omega, fun x hx => HA.out x ?_⟩
          rw [List.take_of_length_le (by omega)]; exact hx)
        go_wp2
        go_ret
        rw [HF.out]
        exact ⟨rfl, rfl⟩

/-- Why an option may not be. -/
theorem okO_false {x : OptV} (h : okO x.abs = false) : decide (x.code < 1) = true ∨ (decide (x.code < 1) = false ∧ decide (254 < x.code) = true) ∨ (decide (x.code < 1) = false ∧ decide (254 < x.code) = false ∧ decide ((255 : Int) < (x.data.length : Int)) = true) := by
  by_cases h1 : x.code < 1
  · exact .inl (decide_eq_true h1)
  by_cases h2 : 254 < x.code
  · exact .inr (.inl ⟨decide_eq_false h1, decide_eq_true h2⟩)
  refine .inr (.inr ⟨decide_eq_false h1, decide_eq_false h2, decide_eq_true ?_⟩)
  rcases Nat.lt_or_ge 255 x.data.length with h3 | h3
  · omega
  · have := (okO_iff x.abs).2 ⟨by simp only [OptV.abs]; omega, by simp only [OptV.abs]; omega, h3⟩
    rw [h] at this
    cases this

set_option maxRecDepth 100000 in
set_option maxHeartbeats 2000000 in
theorem rencode_any (A : Option Addr) (c : Nat) (L : List OptV) (w : World) (hr : Op w w.heap.size A L) (hL : L.length ≤ 100) (hdm : ∀ x ∈ L, x.data.length ≤ 1000) :
    Calls Tryz.prog 83 #[.slice A L.length c] w (GivesB w (encL (absL L)).1 (encL (absL L)).2) := by
  have HDM := Lib.hid hdm
  clear hdm
  go_enter Tryz.func83, Tryz.ntmps83
  go_wp2
  go_loop [4] (fun i => ∃ k : Nat, k ≤ L.length ∧ i = .int .i64 k ∧ ((absL L).take k).all okO = true) (fun i => L.length - (intOf i).toNat)
  case atStart => exact ⟨0, Nat.zero_le _, rfl, rfl⟩
  case round =>
    obtain ⟨k, hk, rfl, hall⟩ := hrel
    have HA := Lib.hid hall
    clear hall
    by_cases hlt : k < L.length
    · obtain ⟨x, hx⟩ : ∃ x, L[k]? = some x := ⟨_, List.getElem?_eq_getElem hlt⟩
      obtain ⟨b, o, rfl, hb, hc1, hc2⟩ := hr.at_ k x hx
      have hxm := HDM.out x (List.mem_of_getElem? hx)
      have HX := Lib.hid (absL_at hx)
      clear hx
      cases hok : okO x.abs
      · have HK := Lib.hid hok
        have hwhy := okO_false hok
        clear hok
        rcases hwhy with h1 | ⟨h1, h2⟩ | ⟨h1, h2, h3⟩
        all_goals
          go_wp2
          go_ret2
          rw [encL_bad (List.mem_of_getElem? HX.out) HK.out]
          exact ⟨none, 0, rfl, By.nil, Nat.le_refl _, Below.refl _ _⟩
      · have HK := Lib.hid hok
        obtain ⟨g1, g2, g3⟩ := (okO_iff _).1 hok
        simp only [OptV.abs] at g1 g2 g3
        have h1 : decide (x.code < 1) = false := by simp; omega
        have h2 : decide (254 < x.code) = false := by simp; omega
        have h3 : decide ((255 : Int) < (x.data.length : Int)) = false := by simp; omega
        clear hok
        go_wp2
        go_round
        case rel => exact ⟨k + 1, by omega, by go_num, all_take_succ HX.out HA.out HK.out⟩
        case measure => simp [intOf]; omega
    · obtain rfl : k = L.length := by omega
      rw [List.take_of_length_le (by rw [absL_length]; exact Nat.le_refl _)] at HA
      go_wp2
      go_loopw [5, 6] (fun v i wr => ∃ k : Nat, k ≤ L.length ∧ i = .int .i64 k ∧ wr.ownsRow w.heap.size 5 1 v (flat ((absL L).take k)).length (bcells (flat ((absL L).take k))) ∧ (flat ((absL L).take k)).length < 1024 ∧ Below w.heap.size w wr) (fun _ i _ => L.length - (intOf i).toNat)
      case atStart => exact ⟨0, Nat.zero_le _, rfl, ⟨rfl, .inl ⟨rfl, rfl⟩⟩, by simp [flat], Below.refl _ _⟩
      case round =>
        obtain ⟨k, hk, rfl, hown, hsm, hB⟩ := hrel
        have hsz := hB.size
        by_cases hlt : k < L.length
        · obtain ⟨x, hx⟩ : ∃ x, L[k]? = some x := ⟨_, List.getElem?_eq_getElem hlt⟩
          obtain ⟨b, o, rfl, hb, hc1, hc2⟩ := (hr.below hB).at_ k x hx
          have HN := Lib.hid (take_snoc_of (absL L) k x.abs (absL_at hx))
          have HD := Lib.hid (hr.data x (List.mem_of_getElem? hx))
          have hok := List.all_eq_true.1 HA.out x.abs (List.mem_of_getElem? (absL_at hx))
          obtain ⟨hx0, hx1, hx2⟩ := (okO_iff _).1 hok
          simp only [OptV.abs] at hx0 hx1 hx2
          have HR := Lib.hid hr
          clear hx hr hok
          generalize hfk : flat ((absL L).take k) = fk at *
          have HF := Lib.hid hfk
          clear hfk
          have hwc : IntKind.u8.wrap x.code = x.code := by simp [IntKind.wrap, IntKind.bits, IntKind.signed]; omega
          have hwl : IntKind.u8.wrap (x.data.length : Int) = x.data.length := by simp [IntKind.wrap, IntKind.bits, IntKind.signed]; omega
          have hby := two_bytes wr 5 x.code x.data.length (by omega) (by omega) (by omega)
          have hownW : (wr.alloc (.cells #[.int .u8 x.code, .int .u8 (x.data.length : Int)] 5)).ownsRow w.heap.size 5 1 u5 fk.length (bcells fk) := hown.alloc _
          have hBW : Below w.heap.size w (wr.alloc (.cells #[.int .u8 x.code, .int .u8 (x.data.length : Int)] 5)) := hB.alloc hsz _
          go_wp2_with fail
          go_region_held3 (fun w' => w'.cell? ⟨b, o + k * 2, none⟩ = some (.int .i64 x.code) ∧ w'.cell? ⟨b, o + k * 2 + 1, none⟩ = some (.slice x.ad x.data.length x.cap))
            (first | go_keep | exact ⟨((own_below hBW.drew hBW.size hownW.drew hg1).cell (p := ⟨b, o + k * 2, none⟩) hb).trans ((hB.cell (p := ⟨b, o + k * 2, none⟩) hb).symm.trans hc1), ((own_below hBW.drew hBW.size hownW.drew hg1).cell (p := ⟨b, o + k * 2 + 1, none⟩) hb).trans ((hB.cell (p := ⟨b, o + k * 2 + 1, none⟩) hb).symm.trans hc2)⟩)
            ((refine step_appB rfl (.tmp 42) (.tmp 56) rfl w.heap.size u5 _ _ rfl (hownW.drew) _ _ [UInt8.ofNat x.code.toNat, UInt8.ofNat x.data.length] 2 rfl hby.drew (by simp; omega) (by simp; omega) ?_; intro v1 w1 hown1 hg1 _))
          have hB1 := own_below hBW.drew hBW.size hownW.drew hg1
          have hcell := (hB1.cell (p := ⟨b, o + k * 2 + 1, none⟩) hb).trans ((hB.cell (p := ⟨b, o + k * 2 + 1, none⟩) hb).symm.trans hc2)
          have hdat := HD.out.below hB1
          clear hg1 hwc hwl hc1 hc2 hby hownW hBW hown hB
          generalize hnn : fk.length + [UInt8.ofNat x.code.toNat, UInt8.ofNat x.data.length].length = nn at *
          have hnl : nn ≤ 1026 := by rw [← hnn]; simp; omega
          have HNN := Lib.hid hnn
          clear hnn
          by_cases hbig : 1024 ≤ nn + x.data.length
          · go_wp2_with (at_builtin; refine wpList_appB rfl (.tmp 58) (.tmp 63) rfl w.heap.size v1 _ _ rfl hown1 _ _ x.data _ rfl hdat (by omega) hB1.size ?_; intro v2 w2 hown2 hg2 _; obtain ⟨A2, c2, rfl, _⟩ := own_form hown2)
            go_ret2
            have hfull : 1024 < (flat (absL L)).length + 1 := by
              have h1 := flat_take_le (absL L) (k + 1)
              have h2 : (flat ((absL L).take (k + 1))).length = nn + x.data.length := by
                rw [HN.out, flat_snoc, List.length_append, one_length, HF.out, ← HNN.out]; simp [OptV.abs]; omega
              omega
            rw [encL_full HA.out hfull]
            exact ⟨none, 0, rfl, By.nil, Nat.le_refl _, own_below hB1 hB1.size hown1 hg2⟩
          · go_wp2_with (at_builtin; refine wpList_appB rfl (.tmp 58) (.tmp 63) rfl w.heap.size v1 _ _ rfl hown1 _ _ x.data _ rfl hdat (by omega) hB1.size ?_; intro v2 w2 hown2 hg2 _; obtain ⟨A2, c2, rfl, _⟩ := own_form hown2)
            go_roundw
            case rel =>
              have h2 : (flat ((absL L).take (k + 1))).length = nn + x.data.length := by
                rw [HN.out, flat_snoc, List.length_append, one_length, HF.out, ← HNN.out]; simp [OptV.abs]; omega
              exact ⟨k + 1, by omega, by go_num, push_own (x := x) (l := absL L) (k := k) HN.out (by rw [HF.out, HNN.out]; exact hown2), by omega, own_below hB1 hB1.size hown1 hg2⟩
            case measure => simp [intOf]; omega
        · obtain rfl : k = L.length := by omega
          rw [List.take_of_length_le (by rw [absL_length]; exact Nat.le_refl _)] at hown hsm
          have hby := one_byte wr 5 255 (by omega)
          have hownW := hown.alloc (.cells #[.int .u8 255] 5)
          have hBW := hB.alloc hsz (.cells #[.int .u8 255] 5)
          go_wp2_with (at_builtin; refine wpList_appB rfl (.tmp 68) (.tmp 69) rfl w.heap.size u5 _ _ rfl hownW _ _ [UInt8.ofNat 255] 1 rfl hby (by simp; omega) hBW.size ?_; intro v1 w1 hown1 hg1 _; have hB1 := own_below hBW hBW.size hownW hg1)
          obtain ⟨g, cap, rfl⟩ := ownsRow_succ hown1
          go_ret2
          rw [encL_ok HA.out (by omega)]
          rw [← bcells_append] at hown1
          exact ⟨some ⟨g, 0, none⟩, cap, by simp, By.of_own hown1, own_cap hown1, hB1⟩
end Go.Proofs.YtmaohnbddlccdaaGreat.NO
end

/- slices.Clone at bytes, and option.owned. -/
section
namespace Go.Proofs.YtmaohnbddlccdaaGreat.NO
open Go.RowKit

/-- The value v reads as the bytes l, in a row of its own from block lo on. -/
abbrev Own8 (w : World) (lo : Nat) (v : Value) (l : List UInt8) : Prop := w.ownsRow lo 5 1 v l.length (bcells l)

set_option maxRecDepth 100000 in
set_option maxHeartbeats 1000000 in
theorem clone_any (A : Option Addr) (c : Nat) (l : List UInt8) (w : World) (h : By w w.heap.size A l) (hl : l.length ≤ 140737488355328) :
    Calls Tryz.prog 81 #[.slice A l.length c] w fun e w' => ∃ A' c', e = .returned (.slice A' l.length c') ∧ Own8 w' w.heap.size (.slice A' l.length c') l ∧ Below w.heap.size w w' := by
  cases A with
  | none =>
    obtain rfl := h.none_
    have hq : ∀ W, (binOp .eql 29 (.slice none 0 c) (.slice none 0 0)).run Tryz.prog W = .ok (.bool true) W := fun W => Lib.run_eql_slice_nil W 29 5 none 0 c 0 0 Tryz.underlying29
    rw [List.length_nil]
    go_enter Tryz.func81, Tryz.ntmps81
    go_wp2
    go_ret
    exact ⟨none, 0, rfl, ⟨rfl, .inl ⟨rfl, rfl⟩⟩, Below.refl _ _⟩
  | some ad =>
    have hq : ∀ W, (binOp .eql 29 (.slice (some ad) l.length c) (.slice none 0 0)).run Tryz.prog W = .ok (.bool false) W := fun W => Lib.run_eql_slice_nil W 29 5 (some ad) l.length c 0 0 Tryz.underlying29
    have hownW : (w.alloc (.cells #[] 5)).ownsRow w.heap.size 5 1 (.slice (some ⟨w.heap.size, 0, none⟩) 0 0) 0 (bcells []) := World.ownsRow_made w #[] 0 (Nat.le_refl _) (Nat.zero_le _) rfl
    have hBW : Below w.heap.size w (w.alloc (.cells #[] 5)) := (Below.refl _ _).alloc (Nat.le_refl _) _
    have hby := h.below hBW
    go_enter Tryz.func81, Tryz.ntmps81
    go_wp2_with (at_builtin; refine wpList_appB rfl (.tmp 5) (.tmp 6) rfl w.heap.size _ _ _ rfl hownW _ _ l _ rfl hby (by omega) hBW.size ?_; intro v1 w1 hown1 hg1 _)
    go_ret
    rw [Nat.zero_add] at hown1
    obtain ⟨A', c', rfl, _⟩ := own_form hown1
    exact ⟨A', c', rfl, hown1, own_below hBW hBW.size hownW hg1⟩

theorem grownBy_cell (w : World) (p : Addr) (u : Value) : w.grownBy (w.setCell p u) (some p.block) :=
  ⟨rfl, rfl, rfl, by simp [World.setCell], fun k _ hk => heap_setCell_other w p k u (fun e => hk (by rw [e]))⟩
theorem own_ne {w : World} {base : Nat} {e : TypeId} {size n : Nat} {v : Value} {xs : List Value} (h : w.ownsRow base e size v n xs) {g : Nat} (hg : g < base) : v.ownBlock = none ∨ v.ownBlock ≠ some g :=
  .inr fun e => by have := (h.lt g e).1; omega
theorem own_lower {w : World} {base lo : Nat} {e : TypeId} {size n : Nat} {v : Value} {xs : List Value} (h : w.ownsRow base e size v n xs) (hl : lo ≤ base) : w.ownsRow lo e size v n xs := by
  refine ⟨h.1, ?_⟩
  rcases h.2 with h | ⟨g, cap, cur, h1, h2, h3⟩
  · exact .inl h
  · exact .inr ⟨g, cap, cur, h1, Nat.le_trans hl h2, h3⟩

end Go.Proofs.YtmaohnbddlccdaaGreat.NO
end

/- option.skipped, option.split, option.ends. -/
section
namespace Go.Proofs.YtmaohnbddlccdaaGreat.NO
open Go.RowKit

/-- Without the noughts at the front. -/
def skipL (l : List UInt8) : List UInt8 := l.dropWhile (· == 0)
theorem skipL_nil : skipL [] = [] := rfl
theorem skipL_zero (r : List UInt8) : skipL (0 :: r) = skipL r := by simp [skipL]
theorem skipL_other {x : UInt8} (r : List UInt8) (h : x ≠ 0) : skipL (x :: r) = x :: r := by simp [skipL, h]
theorem skipL_length (l : List UInt8) : (skipL l).length ≤ l.length := by
  induction l with
  | nil => simp [skipL]
  | cons x r ih =>
    by_cases h : x = 0
    · subst h; rw [skipL_zero]; simp; omega
    · rw [skipL_other r h]; exact Nat.le_refl _

/-- A slice's length. -/
def lenV : Value → Nat
  | .slice _ n _ => n
  | _ => 0

/-- A slice of bytes is answered; the world is as it was. -/
def GivesS (w : World) (B : Nat) (l : List UInt8) (e : Ending) (w' : World) : Prop :=
  ∃ A c, e = .returned (.slice A l.length c) ∧ By w B A l ∧ l.length ≤ c ∧ w = w'

/-- The data of the first option, and what is behind it. -/
def splitL : List UInt8 → Option (List UInt8 × List UInt8)
  | _ :: y :: r => if y.toNat ≤ r.length then some (r.take y.toNat, r.drop y.toNat) else none
  | _ => none

def SplitNo (w : World) (e : Ending) (w' : World) : Prop := e = .returned (.tuple #[.slice none 0 0, .slice none 0 0, .bool false]) ∧ w = w'

def SplitYes (w : World) (B : Nat) (d r : List UInt8) (e : Ending) (w' : World) : Prop :=
  ∃ A1 c1 A2 c2 n, e = .returned (.tuple #[.slice A1 d.length c1, .slice A2 r.length c2, .bool true]) ∧ By w B A1 d ∧ By w B A2 r ∧ r.length ≤ c2 ∧ w' = w.drewN n

theorem By.at_off {w : World} {B b o : Nat} {l : List UInt8} (h : By w B (some ⟨b, o, none⟩) l) (k : Nat) : By w B (some ⟨b, o + k, none⟩) (l.drop k) := by
  refine ⟨fun i x hx => ?_⟩
  rw [List.getElem?_drop] at hx
  obtain ⟨b', o', hA, hb, h1⟩ := h.at_ _ x hx
  obtain ⟨rfl, rfl⟩ : b = b' ∧ o = o' := by injection hA with hA; injection hA with h1 h2; exact ⟨h1, h2⟩
  exact ⟨b, o + k, rfl, hb, by rw [Nat.add_assoc]; exact h1⟩

theorem split_end {A1 A2 : Option Addr} {c1 c2 n1 n2 : Nat} {d r : List UInt8} (h1 : n1 = d.length) (h2 : n2 = r.length) :
    Ending.returned (.tuple #[.slice A1 n1 c1, .slice A2 n2 c2, .bool true]) = .returned (.tuple #[.slice A1 d.length c1, .slice A2 r.length c2, .bool true]) := by rw [h1, h2]

/-- Is this the end, with nothing but noughts behind it? -/
def endsL : List UInt8 → Bool
  | [] => false
  | x :: r => x == 255 && (skipL r).isEmpty

end Go.Proofs.YtmaohnbddlccdaaGreat.NO
end

/- lessorref02.Same and lessorref02.zero. -/
section
namespace Go.Proofs.YtmaohnbddlccdaaGreat.NO
open Go.RowKit

theorem abs_ne {L M : List OptV} {k : Nat} {x y : OptV} (hx : (absL L)[k]? = some x.abs) (hy : (absL M)[k]? = some y.abs) (h : x.abs ≠ y.abs) : absL L ≠ absL M := by
  intro e
  rw [e, hy] at hx
  exact h (Option.some.inj hx).symm

set_option maxRecDepth 100000 in
set_option maxHeartbeats 2000000 in
theorem same_any (A A' : Option Addr) (c c' : Nat) (L M : List OptV) (w : World) (hL : Op w w.heap.size A L) (hM : Op w w.heap.size A' M) (hlL : L.length ≤ 100000) :
    Calls Tryz.prog 59 #[.slice A L.length c, .slice A' M.length c'] w fun e w' => e = .returned (.bool (decide (absL L = absL M))) ∧ ∃ n, w' = w.drewN n := by
  by_cases hlen : L.length = M.length
  · have hne : ((L.length : Int) != (M.length : Int)) = false := by simp [hlen]
    have HL := Lib.hid hlen
    clear hlen
    go_enter Tryz.func59, Tryz.ntmps59
    go_wp2
    go_loopw [5] (fun i wr => ∃ k n : Nat, k ≤ L.length ∧ i = .int .i64 k ∧ (absL L).take k = (absL M).take k ∧ wr = w.drewN n) (fun i _ => L.length - (intOf i).toNat)
    case atStart => exact ⟨0, 0, Nat.zero_le _, rfl, rfl, rfl⟩
    case round =>
      obtain ⟨k, n, hk, rfl, htk, rfl⟩ := hrel
      have HT := Lib.hid htk
      clear htk
      by_cases hlt : k < L.length
      · have hltM : k < M.length := by have := HL.out; omega
        obtain ⟨x, hx⟩ : ∃ x, L[k]? = some x := ⟨_, List.getElem?_eq_getElem hlt⟩
        obtain ⟨y, hy⟩ : ∃ y, M[k]? = some y := ⟨_, List.getElem?_eq_getElem hltM⟩
        obtain ⟨b, o, rfl, hb, hc1, hc2⟩ := hL.at_ k x hx
        obtain ⟨b', o', rfl, hb', hd1, hd2⟩ := hM.at_ k y hy
        have HX := Lib.hid (absL_at hx)
        have HY := Lib.hid (absL_at hy)
        have hdx := hL.data x (List.mem_of_getElem? hx)
        have hdy := hM.data y (List.mem_of_getElem? hy)
        have i0 : (0 : Int) ≤ (k : Int) := by omega
        have i1 : (k : Int) < (L.length : Int) := by omega
        have i2 : (k : Int) < (M.length : Int) := by omega
        clear hx hy
        by_cases hcode : x.code = y.code
        · have hs1 : ∀ m, (convert 29 9 (.slice x.ad x.data.length x.cap)).run Tryz.prog (w.drewN m) = .ok (.string ⟨x.data.toArray⟩) (w.drewN m) := fun m => str_run x.cap (hdx.drewN m)
          have hs2 : ∀ m, (convert 29 9 (.slice y.ad y.data.length y.cap)).run Tryz.prog (w.drewN m) = .ok (.string ⟨y.data.toArray⟩) (w.drewN m) := fun m => str_run y.cap (hdy.drewN m)
          have hne2 : (x.code != y.code) = false := by simpa using hcode
          have HC := Lib.hid hcode
          clear hcode
          by_cases hdat : x.data = y.data
          · have HD := Lib.hid hdat
            have hq : (x.data == y.data) = true := by simpa using hdat
            clear hdat
            go_wp2
            go_quiet (fail)
            go_wp2
            go_roundw
            case rel => exact ⟨k + 1, n + nq, by omega, by go_num, by rw [take_snoc_of _ _ _ HX.out, take_snoc_of _ _ _ HY.out, HT.out]; simp [OptV.abs, HC.out, HD.out], by first | rfl | rw [World.drewN_drewN]⟩
            case measure => simp [intOf]; omega
          · have hq : (x.data == y.data) = false := by simpa using hdat
            have HD := Lib.hid hdat
            clear hdat
            go_wp2
            go_quiet (fail)
            go_wp2
            go_ret
            refine ⟨?_, n + nq, by first | rfl | rw [World.drewN_drewN]⟩
            rw [decide_eq_false]
            · rfl
            · exact abs_ne HX.out HY.out (fun e => HD.out (congrArg Prod.snd e))
        · have hne2 : (x.code != y.code) = true := by simpa using hcode
          have HC := Lib.hid hcode
          clear hcode
          go_wp2
          go_quiet (fail)
          go_wp2
          go_ret
          refine ⟨?_, n + nq, by first | rfl | rw [World.drewN_drewN]⟩
          rw [decide_eq_false]
          · rfl
          · exact abs_ne HX.out HY.out (fun e => HC.out (congrArg Prod.fst e))
      · have hkl : L.length ≤ k := by omega
        go_wp2
        go_ret
        refine ⟨?_, n, rfl⟩
        rw [decide_eq_true]
        · rfl
        · have h1 := HT.out
          rw [List.take_of_length_le (by rw [absL_length]; exact hkl), List.take_of_length_le (by rw [absL_length, ← HL.out]; exact hkl)] at h1
          exact h1
  · have hne : ((L.length : Int) != (M.length : Int)) = true := by simp; omega
    have HL := Lib.hid hlen
    clear hlen
    go_enter Tryz.func59, Tryz.ntmps59
    go_wp2
    go_ret
    refine ⟨?_, 0, rfl⟩
    rw [decide_eq_false]
    · rfl
    · intro h
      have := congrArg List.length h
      rw [absL_length, absL_length] at this
      exact HL.out this
end Go.Proofs.YtmaohnbddlccdaaGreat.NO
end
