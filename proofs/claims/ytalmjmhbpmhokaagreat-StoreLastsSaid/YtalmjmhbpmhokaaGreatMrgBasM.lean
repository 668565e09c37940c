/- Joined texts: BasM, BytM, GenR, BytN, BytR. -/
import Derived.Test.YtalmjmhbpmhokaaGreatProg
import Derived.WalkKit
import Derived.WalkSpells
import Derived.WalkLawsBesides
import Derived.Lib.Hide
import Derived.Laws.OwnMore
import Derived.Maps.AppendAt
import Derived.Laws.BytesString
import Derived.Deep.Draws
import Derived.OwnWalk
import Derived.Deep.AppendLies
import Derived.Laws.BitsAllLaws
import Derived.Laws.BitsLemmas
import Derived.Lib.AppendZeros
import Derived.Lib.AppendStr
import Derived.Deep.RegionHeld3

/- What the texts of every seat stand on: rows and worlds; numbers and their bytes, pure. (Names no function and no type of the program. Cut out of BytM and BytN, which import it.) -/
section
namespace Go.Proofs.YtalmjmhbpmhokaaGreat
open Go.RowKit

theorem add_at (b o j : Nat) : (⟨b, o, none⟩ : Addr).add j = ⟨b, o + j, none⟩ := by
  unfold Addr.add
  split
  · rename_i h; subst h; rfl
  · rfl
theorem own_form {w : World} {base : Nat} {e : TypeId} {size n : Nat} {v : Value} {xs : List Value} (h : w.ownsRow base e size v n xs) : ∃ A c, v = .slice A n c ∧ n ≤ c := by
  rcases h.2 with ⟨rfl, rfl⟩ | ⟨g, cap, cur, rfl, _, _, hnc, _⟩
  · exact ⟨none, 0, rfl, Nat.le_refl _⟩
  · exact ⟨_, cap, rfl, hnc⟩
/-- What is made of a row, and below which nothing has turned. -/
theorem below_of_grown {w w' : World} {n : Nat} {row : Option Nat} (hg : w.grownBy w' row) (hn : n ≤ w.heap.size) (hr : ∀ g, row = some g → n ≤ g) : Below n w w' :=
  (Below.refl n w).grown hg hn (fun g e => hr g e)
theorem take_snoc_of {α : Type} (l : List α) (k : Nat) (x : α) (h : l[k]? = some x) : l.take (k + 1) = l.take k ++ [x] := by
  rw [List.take_add_one, h]; rfl
theorem cell_grown {W w1 : World} {row : Option Nat} (hg : W.grownBy w1 row) {p : Addr} (hp : p.block < W.heap.size) (hne : row ≠ some p.block) : w1.cell? p = W.cell? p :=
  World.cell?_of_block (hg.block p.block hp (fun e => hne e.symm))
theorem own_below {w W w' : World} {B : Nat} {e : TypeId} {size n : Nat} {v : Value} {xs : List Value} (hB : Below B w W) (hBs : B ≤ W.heap.size) (hown : W.ownsRow B e size v n xs) (hg : W.grownBy w' v.ownBlock) : Below B w w' :=
  hB.grown hg hBs (fun k e => (hown.lt k e).1)
theorem grownBy_of_below {V V' : World} (hb : Below V.heap.size V V') : V.grownBy V' none := ⟨hb.os, hb.tape, hb.output, hb.size, fun i hi _ => hb.block i hi⟩

/-- The number that bytes stand for. -/
def numL (l : List UInt8) : Nat := l.foldl (fun n c => n * 256 + c.toNat) 0
theorem numL_snoc (l : List UInt8) (c : UInt8) : numL (l ++ [c]) = numL l * 256 + c.toNat := by simp [numL]
theorem numL_lt (l : List UInt8) : numL l < 256 ^ l.length := by
  rw [← l.reverse_reverse]
  generalize l.reverse = r
  induction r with
  | nil => simp [numL]
  | cons x r ih =>
    rw [List.reverse_cons, numL_snoc, List.length_append, List.length_singleton, Nat.pow_succ]
    have := x.toNat_lt
    omega
theorem or_nat (m x : Nat) (hx : x < 256) : (m * 256) ||| x = m * 256 + x := by
  have h := Nat.shiftLeft_add_eq_or_of_lt (i := 8) (b := x) (by omega) m
  rw [Nat.shiftLeft_eq] at h
  exact h.symm
/-- The bytes of a number, the greatest first. -/
def beL (n m : Nat) : List UInt8 := (List.range m).map fun i => UInt8.ofNat (n / 256 ^ (m - 1 - i))
theorem be_at (n m k : Nat) (hk : k < m) : (beL n m)[k]? = some (UInt8.ofNat (n / 256 ^ (m - 1 - k))) := by simp [beL, hk]
theorem beL_length (n m : Nat) : (beL n m).length = m := by simp [beL]
theorem beL_succ (n m : Nat) : beL n (m + 1) = beL (n / 256) m ++ [UInt8.ofNat n] := by
  unfold beL
  rw [List.range_succ, List.map_append]
  congr 1
  · apply List.map_congr_left
    intro i hi
    have hi' := List.mem_range.1 hi
    rw [Nat.div_div_eq_div_mul, ← Nat.pow_succ', show (m - 1 - i).succ = m + 1 - 1 - i by omega]
  · simp
theorem numL_beL (n m : Nat) : numL (beL n m) = n % 256 ^ m := by
  induction m generalizing n with
  | zero => simp [beL, numL, Nat.mod_one]
  | succ m ih =>
    rw [beL_succ, numL_snoc, ih, UInt8.toNat_ofNat', show (256 : Nat) ^ (m + 1) = 256 * 256 ^ m from Nat.pow_succ', Nat.mod_mul]
    omega
theorem beL_numL (l : List UInt8) : beL (numL l) l.length = l := by
  rw [← l.reverse_reverse]
  generalize l.reverse = r
  induction r with
  | nil => rfl
  | cons x r ih =>
    rw [List.reverse_cons, numL_snoc, List.length_append, List.length_singleton, beL_succ]
    have hx := x.toNat_lt
    rw [show (numL r.reverse * 256 + x.toNat) / 256 = numL r.reverse by omega, ih]
    congr 2
    apply UInt8.toNat_inj.1
    rw [UInt8.toNat_ofNat']
    omega
end Go.Proofs.YtalmjmhbpmhokaaGreat
end

/- Bytes in memory: how a slice of bytes reads; appending bytes; a text of bytes. (The half of OptM that needs no options.) -/
section
namespace Go.Proofs.YtalmjmhbpmhokaaGreat
open Go.RowKit

/-- A byte's value. -/
abbrev bV (x : UInt8) : Value := .int .u8 (x.toNat : Int)
def bcells (l : List UInt8) : List Value := l.map bV
theorem bcells_length (l : List UInt8) : (bcells l).length = l.length := by simp [bcells]
theorem bcells_append (a b : List UInt8) : bcells (a ++ b) = bcells a ++ bcells b := by simp [bcells]
theorem bcells_one (l : List UInt8) : ∀ u ∈ bcells l, u.oneCell' = true := by
  intro u hu
  obtain ⟨x, _, rfl⟩ := List.mem_map.1 hu
  rfl

/-- The slice at A reads as the bytes l, and lies below block B. -/
structure By (w : World) (B : Nat) (A : Option Addr) (l : List UInt8) : Prop where
  at_ : ∀ i x, l[i]? = some x → ∃ b o, A = some ⟨b, o, none⟩ ∧ b < B ∧ w.cell? ⟨b, o + i, none⟩ = some (bV x)

section
variable {w w' : World} {B B' : Nat} {A : Option Addr} {l : List UInt8}
theorem By.nil : By w B A [] := ⟨fun i x h => by simp at h⟩
theorem By.keep (h : By w B A l) (hk : ∀ p : Addr, p.block < B → w'.cell? p = w.cell? p) : By w' B A l :=
  ⟨fun i x hx => by
    obtain ⟨b, o, rfl, hb, h1⟩ := h.at_ i x hx
    exact ⟨b, o, rfl, hb, (hk _ hb).trans h1⟩⟩
theorem By.below (h : By w B A l) (hb : Below B w w') : By w' B A l := h.keep fun _ hp => hb.cell hp
theorem By.more (h : By w B A l) (hB : B ≤ B') : By w B' A l :=
  ⟨fun i x hx => by
    obtain ⟨b, o, rfl, hb, h1⟩ := h.at_ i x hx
    exact ⟨b, o, rfl, by omega, h1⟩⟩
theorem By.later (h : By w w.heap.size A l) (hb : Below w.heap.size w w') : By w' w'.heap.size A l := (h.below hb).more hb.size
theorem By.drew (h : By w B A l) : By w.drew B A l := ⟨h.at_⟩
theorem By.drewN (h : By w B A l) (n : Nat) : By (w.drewN n) B A l := ⟨h.at_⟩
theorem By.cells {ad : Addr} (h : By w B (some ad) l) (j : Nat) (u : Value) (hu : (bcells l)[j]? = some u) : w.cell? (ad.add j) = some u := by
  unfold bcells at hu
  rw [List.getElem?_map] at hu
  obtain ⟨x, hx, rfl⟩ := Option.map_eq_some_iff.1 hu
  obtain ⟨b, o, hA, _, h1⟩ := h.at_ j x hx
  obtain rfl := Option.some.inj hA
  rw [add_at]
  exact h1
theorem By.none_ (h : By w B none l) : l = [] := by
  match l, h with
  | [], _ => rfl
  | x :: r, h =>
    obtain ⟨b, o, hA, _⟩ := h.at_ 0 x rfl
    cases hA
/-- Bytes cut off at the front. -/
theorem By.cut (h : By w B A l) {k cap : Nat} (hk : k ≤ l.length) (hc : l.length ≤ cap) : By w B (if cap = k then A else A.map (·.add k)) (l.drop k) := by
  refine ⟨fun i x hx => ?_⟩
  rw [List.getElem?_drop] at hx
  have hlt := (List.getElem?_eq_some_iff.1 hx).1
  obtain ⟨b, o, rfl, hb, h1⟩ := h.at_ _ x hx
  rw [if_neg (by omega)]
  exact ⟨b, o + k, by rw [Option.map_some, add_at], hb, by rw [Nat.add_assoc]; exact h1⟩
theorem By.take (h : By w B A l) (k : Nat) : By w B A (l.take k) :=
  ⟨fun i x hx => h.at_ i x (by rw [List.getElem?_take] at hx; split at hx; exact hx; cases hx)⟩
theorem By.of_own {base : Nat} {e : TypeId} {n c : Nat} (h : w.ownsRow base e 1 (.slice A n c) n (bcells l)) : By w w.heap.size A l := by
  refine ⟨fun i x hx => ?_⟩
  have hi : i < l.length := (List.getElem?_eq_some_iff.1 hx).1
  have hn : n = l.length := by have := h.1; rw [bcells_length] at this; omega
  rcases h.2 with ⟨_, h0⟩ | ⟨g, cap, cur, hv, _, hh, _⟩
  · omega
  have hA : A = some ⟨g, 0, none⟩ := by injection hv
  subst hA
  have hlt : g < w.heap.size := (Array.getElem?_eq_some_iff.1 hh).1
  refine ⟨g, 0, rfl, hlt, ?_⟩
  rw [← add_at]
  exact h.cells (g := g) rfl i _ (by simp [bcells, hx])
/-- A block of bytes that is laid now. -/
theorem By.new (w : World) (l : List UInt8) (t : TypeId) : By (w.alloc (.cells (bcells l).toArray t)) (w.heap.size + 1) (some ⟨w.heap.size, 0, none⟩) l := by
  refine ⟨fun i x hx => ⟨w.heap.size, 0, rfl, by omega, ?_⟩⟩
  have : (w.alloc (.cells (bcells l).toArray t)).heap[w.heap.size]? = some (.cells (bcells l).toArray t (0, 0)) := heap_alloc_new w _
  rw [cell_of_row _ _ _ _ _ _ this]
  simp [bcells, hx]
end

theorem Tryz.infoB : (Tryz.prog.info? 5).map (fun i => (i.zero, i.size, i.bytes)) = some (some (.int .u8 0), 1, 1) := by kernel_rfl

/-- Bytes as a text. -/
theorem foldl_push (l : List UInt8) (s : ByteArray) : (l.map fun x => (x.toNat : Int)).foldl (fun r n => r.push (UInt8.ofNat n.toNat)) s = ⟨s.data ++ l.toArray⟩ := by
  induction l generalizing s with
  | nil => simp
  | cons x r ih =>
    rw [List.map_cons, List.foldl_cons, ih]
    simp [ByteArray.push]

theorem str_run {w : World} {B : Nat} {A : Option Addr} {l : List UInt8} (c : Nat) (h : By w B A l) : (convert 49 9 (.slice A l.length c)).run Tryz.prog w = .ok (.string ⟨l.toArray⟩) w := by
  rw [run_convert_bytes_string _ 49 9 5 _ _ _ Tryz.underlying49 Tryz.underlying5 Tryz.underlying9]
  cases A with
  | none =>
    obtain rfl := h.none_
    unfold Conv.bytesToString
    simp [Sem.run_pure]
    rfl
  | some ad =>
    have hl : (loadCells ad l.length).run Tryz.prog w = .ok ((l.map fun x => (x.toNat : Int)).map (Value.int .u8)).toArray w := by
      have := run_loadCells_list (P := Tryz.prog) (w := w) ad (bcells l) (fun j v hv => h.cells j v hv)
      rw [bcells_length] at this
      rw [this]
      simp [bcells, Function.comp_def]
    rw [run_bytesToString _ ad l.length c _ hl, foldl_push]
    simp

/-- Bytes behind a row of the call's own. -/
theorem run_appB (w : World) (base : Nat) (ty : TypeId) {v : Value} {n : Nat} {xs : List Value} (hown : w.ownsRow base 5 1 v n xs) {B : Nat} {A : Option Addr} {l : List UInt8} (c : Nat) (hr : By w B A l) (hsz : n + l.length ≤ 140737488355328) (hbase : base ≤ w.heap.size) :
    ∃ v' w', (Builtin.append_ #[49, 49] ty #[v, .slice A l.length c]).run Tryz.prog w = .ok v' w' ∧ w'.ownsRow base 5 1 v' (n + l.length) (xs ++ bcells l) ∧ w.grownBy w' v.ownBlock ∧ (v'.ownBlock = v.ownBlock ∨ v'.ownBlock = some w.heap.size) := by
  obtain ⟨i, hi, hz0, hz1, hz2⟩ := info_parts Tryz.infoB
  cases A with
  | some ad =>
    obtain ⟨v', w', h1, h2, h3, _, h5⟩ := run_append_own_at (P := Tryz.prog) w base 49 ty 5 i (.int .u8 0) 1 1 Tryz.underlying49 hi hz0 hz1 hz2 rfl (by decide) v n xs hown ad l.length c (bcells l) (by rw [bcells_length]; omega) (fun j u hu => hr.cells j u hu) (bcells_one l) (by unfold maxLen; omega) (by omega) hbase
    exact ⟨v', w', h1, h2, h3, h5⟩
  | none =>
    obtain rfl := hr.none_
    refine ⟨v, w, ?_, by simpa [bcells] using hown, World.grownBy.refl w _, .inl rfl⟩
    rcases hown.2 with ⟨rfl, rfl⟩ | ⟨g, cap, cur, rfl, _, _, hnc, _⟩
    · simp [Builtin.append_, run_underlying Tryz.underlying49, sizeOf, typeInfo, hi, Builtin.lenOf, Builtin.firstCells]
    · simp [Builtin.append_, run_underlying Tryz.underlying49, sizeOf, typeInfo, hi, Builtin.lenOf, Builtin.firstCells, hnc, storeCells]

theorem wpList_appB {w : World} {ops : Array Oper} {rest : List Oper} {o : Oper} {a : Act} {Q : Exit → Act → World → Prop} (hgd : o.guard = none) (s x : Operand)
    (ho : o.op = .call { callee := .builtin .append, args := #[s, x], argTypes := #[49, 49] }) (base : Nat) (v : Value) (n : Nat) (xs : List Value) (hs : a.eval s = v) (hown : w.ownsRow base 5 1 v n xs)
    (B : Nat) (A : Option Addr) (l : List UInt8) (c : Nat) (hx : a.eval x = .slice A l.length c) (hr : By w B A l) (hsz : n + l.length ≤ 140737488355328) (hbase : base ≤ w.heap.size)
    (h : ∀ v' w', w'.ownsRow base 5 1 v' (n + l.length) (xs ++ bcells l) → w.grownBy w' v.ownBlock → (v'.ownBlock = v.ownBlock ∨ v'.ownBlock = some w.heap.size) → wpList Tryz.prog ops Q rest (a.put o.dst v') w') :
    wpList Tryz.prog ops Q (o :: rest) a w := by
  refine wpList_plain hgd fun K hK => ?_
  obtain ⟨v', w', h1, h2, h3, h4⟩ := run_appB w base o.type hown c hr hsz hbase
  unfold Oper.wp execOp
  simp only [ho, resolve, invoke, builtin, Sem.run_bind, Sem.run_pure, Result.andThen_ok, List.map_toArray, List.map_cons, List.map_nil, hs, hx, h1]
  exact hK _ _ (h v' w' h2 h3 h4)

/-- The same in a region that draws its order. -/
theorem step_appB {w : World} {ops : Array Oper} {o : Oper} {a : Act} {K : Act → World → Prop} {Q : Exit → Act → World → Prop} {E : Prop} (hgd : o.guard = none) (s x : Operand)
    (ho : o.op = .call { callee := .builtin .append, args := #[s, x], argTypes := #[49, 49] }) (base : Nat) (v : Value) (n : Nat) (xs : List Value) (hs : a.eval s = v) (hown : w.ownsRow base 5 1 v n xs)
    (B : Nat) (A : Option Addr) (l : List UInt8) (c : Nat) (hx : a.eval x = .slice A l.length c) (hr : By w B A l) (hsz : n + l.length ≤ 140737488355328) (hbase : base ≤ w.heap.size)
    (h : ∀ v' w', w'.ownsRow base 5 1 v' (n + l.length) (xs ++ bcells l) → w.grownBy w' v.ownBlock → (v'.ownBlock = v.ownBlock ∨ v'.ownBlock = some w.heap.size) → K (a.put o.dst v') w') :
    if Region.wanted o (yielded ops a.tmps) = true then Oper.wp Tryz.prog o a w K Q else E := by
  rw [if_pos (by simp [Region.wanted, hgd])]
  obtain ⟨v', w', h1, h2, h3, h4⟩ := run_appB w base o.type hown c hr hsz hbase
  unfold Oper.wp execOp
  simp only [ho, resolve, invoke, builtin, Sem.run_bind, Sem.run_pure, Result.andThen_ok, List.map_toArray, List.map_cons, List.map_nil, hs, hx, h1]
  exact h v' w' h2 h3 h4

/-- The same, the length under a name of its own. -/
theorem step_appBm {w : World} {ops : Array Oper} {o : Oper} {a : Act} {K : Act → World → Prop} {Q : Exit → Act → World → Prop} {E : Prop} (hgd : o.guard = none) (s x : Operand)
    (ho : o.op = .call { callee := .builtin .append, args := #[s, x], argTypes := #[49, 49] }) (base : Nat) (v : Value) (n : Nat) (xs : List Value) (hs : a.eval s = v) (hown : w.ownsRow base 5 1 v n xs)
    (B : Nat) (A : Option Addr) (l : List UInt8) (m c : Nat) (hm : m = l.length) (hx : a.eval x = .slice A m c) (hr : By w B A l) (k : Nat) (hk : n + m = k) (hsz : n + m ≤ 140737488355328) (hbase : base ≤ w.heap.size)
    (h : ∀ A' c' w', w'.ownsRow base 5 1 (.slice A' k c') k (xs ++ bcells l) → w.grownBy w' v.ownBlock → K (a.put o.dst (.slice A' k c')) w') :
    if Region.wanted o (yielded ops a.tmps) = true then Oper.wp Tryz.prog o a w K Q else E := by
  subst hm hk
  refine step_appB hgd s x ho base v n xs hs hown B A l c hx hr hsz hbase fun v' w' h1 h2 _ => ?_
  obtain ⟨A', c', rfl, _⟩ := (show ∃ A c, v' = .slice A (n + l.length) c ∧ True by
    rcases h1.2 with ⟨rfl, h0⟩ | ⟨g, cap, cur, rfl, _⟩
    · exact ⟨none, 0, by rw [h0], trivial⟩
    · exact ⟨_, cap, rfl, trivial⟩)
  exact h A' c' w' h1 h2

/-- Bytes cut out of a slice. -/
theorem run_cut (g o n c : Nat) (lo hi : Int) (h0 : 0 ≤ lo) (h1 : lo ≤ hi) (h2 : hi ≤ c) (W : World) :
    (Instr.slice 49 (.slice (some ⟨g, o, none⟩) n c) (some (.int .i64 lo)) (some (.int .i64 hi)) none).run Tryz.prog W = .ok (.slice (some ⟨g, if c = lo.toNat then o else o + lo.toNat, none⟩) (hi.toNat - lo.toNat) (c - lo.toNat)) W := by
  obtain ⟨i, hi', hz0, hz1, hz2⟩ := info_parts Tryz.infoB
  have c1 : 0 ≤ hi ∧ hi ≤ (c : Int) := ⟨by omega, h2⟩
  have c2 : 0 ≤ lo ∧ lo ≤ ((hi.toNat : Nat) : Int) := ⟨h0, by omega⟩
  have e : (if c = lo.toNat then some ⟨g, o, none⟩ else some (Addr.add ⟨g, o, none⟩ lo.toNat)) = some (⟨g, if c = lo.toNat then o else o + lo.toNat, none⟩ : Addr) := by
    split
    · rfl
    · rw [add_at]
  simp only [Instr.slice, run_underlying Tryz.underlying49, Sem.run_bind, Result.andThen_ok, Instr.sliceBounds, Instr.sliceBound, asIntOf, Sem.run_pure, if_pos c1, if_pos c2, sizeOf, typeInfo, Option.map_some]
  simp [hi', hz1, e]

theorem cut_by {w : World} {B g o : Nat} {l : List UInt8} (h : By w B (some ⟨g, o, none⟩) l) (n c lo hi : Nat) (Lo Hi : Int) (eLo : Lo = lo) (eHi : Hi = hi) (h1 : lo ≤ hi) (h2 : hi ≤ l.length) (h3 : l.length ≤ c) :
    ∃ A', (∀ W, (Instr.slice 49 (.slice (some ⟨g, o, none⟩) n c) (some (.int .i64 Lo)) (some (.int .i64 Hi)) none).run Tryz.prog W = .ok (.slice A' (hi - lo) (c - lo)) W) ∧ By w B A' ((l.drop lo).take (hi - lo)) := by
  subst eLo eHi
  refine ⟨some ⟨g, if c = lo then o else o + lo, none⟩, fun W => by rw [run_cut g o n c lo hi (by omega) (by omega) (by omega) W]; simp only [Int.toNat_natCast], ?_⟩
  refine ⟨fun i x hx => ?_⟩
  rw [List.getElem?_take] at hx
  split at hx
  · rw [List.getElem?_drop] at hx
    have hlt := (List.getElem?_eq_some_iff.1 hx).1
    obtain ⟨b', o', hA, hb, hcell⟩ := h.at_ _ x hx
    obtain ⟨rfl, rfl⟩ : g = b' ∧ o = o' := by injection hA with hA; injection hA with h1 h2; exact ⟨h1, h2⟩
    exact ⟨g, o + lo, by rw [if_neg (by omega)], hb, by rw [Nat.add_assoc]; exact hcell⟩
  · cases hx





/-- Bytes and an error's number are answered; nothing that lay has turned. -/
def GivesB (w : World) (l : List UInt8) (k : Int) (e : Ending) (w' : World) : Prop :=
  ∃ A c, e = .returned (.tuple #[.slice A l.length c, .int .i64 k]) ∧ By w' w'.heap.size A l ∧ l.length ≤ c ∧ Below w.heap.size w w'

theorem two_bytes (w : World) (t : TypeId) (c : Int) (n : Nat) (hc0 : 0 ≤ c) (hc : c < 256) (hn : n < 256) : By (w.alloc (.cells #[.int .u8 c, .int .u8 (n : Int)] t)) (w.heap.size + 1) (some ⟨w.heap.size, 0, none⟩) [UInt8.ofNat c.toNat, UInt8.ofNat n] := by
  have h := By.new w [UInt8.ofNat c.toNat, UInt8.ofNat n] t
  have e1 : ((UInt8.ofNat c.toNat).toNat : Int) = c := by
    rw [UInt8.toNat_ofNat', Nat.mod_eq_of_lt (by omega)]; omega
  have e2 : (UInt8.ofNat n).toNat = n := by
    rw [UInt8.toNat_ofNat', Nat.mod_eq_of_lt (by omega)]
  simp only [bcells, List.map_cons, List.map_nil, bV, e1, e2] at h
  exact h
theorem one_byte (w : World) (t : TypeId) (c : Nat) (hc : c < 256) : By (w.alloc (.cells #[.int .u8 (c : Int)] t)) (w.heap.size + 1) (some ⟨w.heap.size, 0, none⟩) [UInt8.ofNat c] := by
  have h := By.new w [UInt8.ofNat c] t
  have e2 : (UInt8.ofNat c).toNat = c := by
    rw [UInt8.toNat_ofNat', Nat.mod_eq_of_lt (by omega)]
  simp only [bcells, List.map_cons, List.map_nil, bV, e2] at h
  exact h


theorem run_makeB (s : Nat) (hs : s ≤ 1048576) (W : World) : (Instr.makeSlice 49 (.int .i64 0) (.int .i64 (s : Int))).run Tryz.prog W = .ok (.slice (some ⟨W.heap.size, 0, none⟩) 0 s) (W.alloc (.cells (madeCells #[.int .u8 0] s) 5)) := by
  obtain ⟨i, hi, hz0, hz1, hz2⟩ := info_parts Tryz.infoB
  have h := run_make (P := Tryz.prog) W 49 5 i (.int .u8 0) Tryz.underlying49 hi hz0 .i64 .i64 0 (s : Int) (by omega) (by omega) (by rw [hz2]; omega) (by omega)
  rw [hz1] at h
  simp only [Int.toNat_zero, Int.toNat_natCast, Nat.mul_one] at h
  exact h

theorem made_own (W : World) (B s : Nat) (hB : B ≤ W.heap.size) (hs : s ≤ 1048576) : (W.alloc (.cells (madeCells #[.int .u8 0] s) 5)).ownsRow B 5 1 (.slice (some ⟨W.heap.size, 0, none⟩) 0 s) 0 (bcells []) :=
  World.ownsRow_made W _ s hB (by unfold maxLen; omega) (by rw [size_madeCells]; omega)

theorem own_cap {w : World} {base g n cap : Nat} {l : List UInt8} (h : w.ownsRow base 5 1 (.slice (some ⟨g, 0, none⟩) n cap) n (bcells l)) : l.length ≤ cap := by
  have h1 := h.1
  rw [bcells_length] at h1
  rcases h.2 with ⟨h', _⟩ | ⟨g', cap', cur, hv, _, _, hnc, _⟩
  · cases h'
  · injection hv with _ _ hc
    omega

end Go.Proofs.YtalmjmhbpmhokaaGreat
end

/- Rows of elements of any kind, each of some cells: how a slice of them reads; rows of the call's own that grow, are cut, and are changed in a place. (Names no function and no type of the program: the kind is a letter.) -/
section
namespace Go.Proofs.YtalmjmhbpmhokaaGreat
open Go.RowKit

/-- A kind of elements: its type, its slices' type, how many cells one has, and which. -/
structure Elem (P : Program) (V : Type) where
  e : TypeId
  ty : TypeId
  m : Nat
  bytes : Nat
  zero : Value
  cells : V → List Value
  hm : 0 < m
  hb0 : 0 < bytes
  hb : bytes ≤ 1000
  len : ∀ v, (cells v).length = m
  one : ∀ v, ∀ u ∈ cells v, u.oneCell' = true
  und : P.underlying ty = some (.slice e)
  info : (P.info? e).map (fun i => (i.zero, i.size, i.bytes)) = some (some zero, m, bytes)
  hz : zero.cells.size = m

section
variable {P : Program} {V : Type} (E : Elem P V)
def ecells (l : List V) : List Value := l.flatMap E.cells
theorem ecells_nil : ecells E [] = [] := rfl
theorem ecells_append (a b : List V) : ecells E (a ++ b) = ecells E a ++ ecells E b := by simp [ecells]
theorem ecells_one_elem (x : V) : ecells E [x] = E.cells x := by simp [ecells]
theorem ecells_cons (x : V) (l : List V) : ecells E (x :: l) = E.cells x ++ ecells E l := by simp [ecells]
theorem ecells_length (l : List V) : (ecells E l).length = l.length * E.m := by
  induction l with
  | nil => simp [ecells]
  | cons x r ih => rw [ecells_cons, List.length_append, ih, E.len, List.length_cons, Nat.succ_mul, Nat.add_comm]
theorem ecells_one (l : List V) : ∀ u ∈ ecells E l, u.oneCell' = true := by
  intro u hu
  obtain ⟨x, _, hx⟩ := List.mem_flatMap.1 hu
  exact E.one x u hx
theorem ecells_take (l : List V) (i : Nat) : (ecells E l).take (i * E.m) = ecells E (l.take i) := by
  induction i generalizing l with
  | zero => simp [ecells]
  | succ i ih =>
    cases l with
    | nil => simp [ecells]
    | cons x r =>
      rw [ecells_cons, List.take_succ_cons, ecells_cons, ← ih r, Nat.succ_mul, Nat.add_comm, ← E.len x, List.take_length_add_append]
theorem ecells_drop (l : List V) (i : Nat) : (ecells E l).drop (i * E.m) = ecells E (l.drop i) := by
  induction i generalizing l with
  | zero => simp
  | succ i ih =>
    cases l with
    | nil => simp [ecells]
    | cons x r => rw [ecells_cons, List.drop_succ_cons, ← ih r, Nat.succ_mul, Nat.add_comm, ← E.len x, List.drop_length_add_append]
theorem ecells_at (l : List V) (i k : Nat) (x : V) (u : Value) (h : l[i]? = some x) (hu : (E.cells x)[k]? = some u) : (ecells E l)[i * E.m + k]? = some u := by
  rw [← List.getElem?_drop, ecells_drop]
  obtain ⟨h1, h2⟩ := List.getElem?_eq_some_iff.1 h
  rw [List.drop_eq_getElem_cons h1, h2, ecells_cons, List.getElem?_append_left (List.getElem?_eq_some_iff.1 hu).1]
  exact hu
theorem ecells_split (l : List V) (j : Nat) (u : Value) (h : (ecells E l)[j]? = some u) : ∃ i k x, j = i * E.m + k ∧ l[i]? = some x ∧ (E.cells x)[k]? = some u := by
  have hj := (List.getElem?_eq_some_iff.1 h).1
  rw [ecells_length] at hj
  have hi : j / E.m < l.length := Nat.div_lt_of_lt_mul (by rw [Nat.mul_comm]; exact hj)
  have hx : l[j / E.m]? = some l[j / E.m] := List.getElem?_eq_getElem hi
  have hk : j % E.m < (E.cells l[j / E.m]).length := by rw [E.len]; exact Nat.mod_lt _ E.hm
  refine ⟨j / E.m, j % E.m, l[j / E.m], (by rw [Nat.mul_comm]; exact (Nat.div_add_mod j E.m).symm), hx, ?_⟩
  have h2 := ecells_at E l _ _ _ _ hx (List.getElem?_eq_getElem hk)
  rw [Nat.mul_comm, Nat.div_add_mod] at h2
  rw [h] at h2
  injection h2 with h2
  rw [List.getElem?_eq_getElem hk, h2]
theorem ecells_put (l : List V) (i : Nat) (x : V) (h : i < l.length) : ecells E (l.set i x) = (ecells E l).take (i * E.m) ++ E.cells x ++ (ecells E l).drop (i * E.m + E.m) := by
  rw [List.set_eq_take_append_cons_drop, if_pos h, ecells_append, ecells_cons, ecells_take, show i * E.m + E.m = (i + 1) * E.m by rw [Nat.succ_mul], ecells_drop, List.append_assoc]

/-- The slice at A reads as the elements l, and lies below block B. -/
structure El (w : World) (B : Nat) (A : Option Addr) (l : List V) : Prop where
  at_ : ∀ i x, l[i]? = some x → ∃ b o, A = some ⟨b, o, none⟩ ∧ b < B ∧ ∀ k u, (E.cells x)[k]? = some u → w.cell? ⟨b, o + i * E.m + k, none⟩ = some u
end

section
variable {P : Program} {V : Type} {E : Elem P V} {w w' : World} {B B' : Nat} {A : Option Addr} {l : List V}
theorem El.nil : El E w B A [] := ⟨fun i x h => by simp at h⟩
theorem El.keep (h : El E w B A l) (hk : ∀ p : Addr, p.block < B → w'.cell? p = w.cell? p) : El E w' B A l :=
  ⟨fun i x hx => by
    obtain ⟨b, o, rfl, hb, h1⟩ := h.at_ i x hx
    exact ⟨b, o, rfl, hb, fun k u hu => (hk _ hb).trans (h1 k u hu)⟩⟩
theorem El.below (h : El E w B A l) (hb : Below B w w') : El E w' B A l := h.keep fun _ hp => hb.cell hp
theorem El.more (h : El E w B A l) (hB : B ≤ B') : El E w B' A l :=
  ⟨fun i x hx => by
    obtain ⟨b, o, rfl, hb, h1⟩ := h.at_ i x hx
    exact ⟨b, o, rfl, by omega, h1⟩⟩
theorem El.later (h : El E w w.heap.size A l) (hb : Below w.heap.size w w') : El E w' w'.heap.size A l := (h.below hb).more hb.size
theorem El.drew (h : El E w B A l) : El E w.drew B A l := ⟨h.at_⟩
theorem El.cells {ad : Addr} (h : El E w B (some ad) l) (j : Nat) (u : Value) (hu : (ecells E l)[j]? = some u) : w.cell? (ad.add j) = some u := by
  obtain ⟨i, k, x, rfl, hx, hk⟩ := ecells_split E l j u hu
  obtain ⟨b, o, hA, _, h1⟩ := h.at_ i x hx
  obtain rfl := Option.some.inj hA
  rw [add_at, ← Nat.add_assoc]
  exact h1 k u hk
theorem El.none_ (h : El E w B none l) : l = [] := by
  match l, h with
  | [], _ => rfl
  | x :: r, h =>
    obtain ⟨b, o, hA, _⟩ := h.at_ 0 x rfl
    cases hA
theorem El.take (h : El E w B A l) (k : Nat) : El E w B A (l.take k) :=
  ⟨fun i x hx => h.at_ i x (by rw [List.getElem?_take] at hx; split at hx; exact hx; cases hx)⟩
/-- A slice cut off at the front. -/
theorem El.cut (h : El E w B A l) {k cap : Nat} (hk : k ≤ l.length) (hc : l.length ≤ cap) : El E w B (if cap = k then A else A.map (·.add (k * E.m))) (l.drop k) := by
  refine ⟨fun i x hx => ?_⟩
  rw [List.getElem?_drop] at hx
  have hlt := (List.getElem?_eq_some_iff.1 hx).1
  obtain ⟨b, o, rfl, hb, h1⟩ := h.at_ _ x hx
  rw [if_neg (by omega)]
  refine ⟨b, o + k * E.m, by rw [Option.map_some, add_at], hb, fun j u hu => ?_⟩
  have := h1 j u hu
  rwa [Nat.add_mul, ← Nat.add_assoc] at this
theorem El.of_own {base : Nat} {n c : Nat} (h : w.ownsRow base E.e E.m (.slice A n c) n (ecells E l)) : El E w w.heap.size A l := by
  refine ⟨fun i x hx => ?_⟩
  have hi : i < l.length := (List.getElem?_eq_some_iff.1 hx).1
  have hn : n * E.m = l.length * E.m := by have := h.1; rw [ecells_length] at this; exact this.symm
  have hn' : n = l.length := Nat.eq_of_mul_eq_mul_right E.hm hn
  rcases h.2 with ⟨_, h0⟩ | ⟨g, cap, cur, hv, _, hh, _⟩
  · omega
  have hA : A = some ⟨g, 0, none⟩ := by injection hv
  subst hA
  refine ⟨g, 0, rfl, (Array.getElem?_eq_some_iff.1 hh).1, fun k u hu => ?_⟩
  rw [Nat.zero_add, ← Nat.zero_add (i * E.m + k), ← add_at]
  exact h.cells (g := g) rfl _ _ (ecells_at E l i k x u hx hu)

/-- Elements in a block of their own are kept where another row grows. -/
theorem El.keptG {b n : Nat} (h : El E w n (some ⟨b, 0, none⟩) l) (hb : b < w.heap.size) {row : Option Nat} (hg : w.grownBy w' row) (hne : row ≠ some b) : El E w' n (some ⟨b, 0, none⟩) l :=
  ⟨fun i x hx => by
    obtain ⟨b', o, e, hb', h1⟩ := h.at_ i x hx
    refine ⟨b', o, e, hb', fun k u hu => ?_⟩
    injection e with e
    injection e with e1 e2
    subst e1
    exact (World.cell?_of_block (hg.block b hb (fun e => hne e.symm))).trans (h1 k u hu)⟩
/-- Elements behind a row of the call's own. -/
theorem run_appE (w : World) (base : Nat) (ty : TypeId) {v : Value} {n : Nat} {xs : List Value} (hown : w.ownsRow base E.e E.m v n xs) {B : Nat} {A : Option Addr} {l : List V} (c : Nat) (hr : El E w B A l) (hbytes : (n + l.length) * E.bytes ≤ 140737488355328) (hbase : base ≤ w.heap.size) :
    ∃ v' w', (Builtin.append_ #[E.ty, E.ty] ty #[v, .slice A l.length c]).run P w = .ok v' w' ∧ w'.ownsRow base E.e E.m v' (n + l.length) (xs ++ ecells E l) ∧ w.grownBy w' v.ownBlock ∧ (v'.ownBlock = v.ownBlock ∨ v'.ownBlock = some w.heap.size) := by
  obtain ⟨i, hi, hz0, hz1, hz2⟩ := info_parts E.info
  have hsz : n + l.length ≤ 140737488355328 := Nat.le_trans (Nat.le_mul_of_pos_right _ E.hb0) hbytes
  cases A with
  | some ad =>
    obtain ⟨v', w', h1, h2, h3, _, h5⟩ := run_append_own_at (P := P) w base E.ty ty E.e i E.zero E.m E.bytes E.und hi hz0 hz1 hz2 E.hz E.hm v n xs hown ad l.length c (ecells E l) (ecells_length E l) (fun j u hu => hr.cells j u hu) (ecells_one E l) (by unfold maxLen; omega) hbytes hbase
    exact ⟨v', w', h1, h2, h3, h5⟩
  | none =>
    obtain rfl := hr.none_
    refine ⟨v, w, ?_, by simpa [ecells] using hown, World.grownBy.refl w _, .inl rfl⟩
    rcases hown.2 with ⟨rfl, rfl⟩ | ⟨g, cap, cur, rfl, _, _, hnc, _⟩
    · simp [Builtin.append_, run_underlying E.und, sizeOf, typeInfo, hi, Builtin.lenOf, Builtin.firstCells]
    · simp [Builtin.append_, run_underlying E.und, sizeOf, typeInfo, hi, Builtin.lenOf, Builtin.firstCells, hnc, storeCells]
end
theorem Elem.small {P : Program} {V : Type} (E : Elem P V) {k : Nat} (h : k ≤ 100000000000) : k * E.bytes ≤ 140737488355328 := Nat.le_trans (Nat.mul_le_mul h E.hb) (by decide)

/-- The value v reads as the elements l in a row of its own, made since w0. -/
structure RowE {P : Program} {V : Type} (E : Elem P V) (w0 w : World) (v : Value) (l : List V) : Prop where
  own : w.ownsRow w0.heap.size E.e E.m v l.length (ecells E l)
  low : Below w0.heap.size w0 w
section
variable {P : Program} {V : Type} {E : Elem P V} {w00 w0 w w' : World} {v : Value} {l : List V}
theorem RowE.nil (w : World) : RowE E w w (.slice none 0 0) [] := ⟨World.ownsRow_nil _ _ _ _, Below.refl _ _⟩
theorem RowE.later (h : RowE E w0 w v l) (hb : Below w.heap.size w w') : RowE E w0 w' v l :=
  ⟨h.own.kept (grownBy_of_below hb) (by cases v.ownBlock <;> simp), h.low.trans (hb.mono h.low.size)⟩
theorem RowE.alloc (h : RowE E w0 w v l) (o : Obj) : RowE E w0 (w.alloc o) v l := h.later ((Below.refl _ _).alloc (Nat.le_refl _) _)
theorem RowE.drew (h : RowE E w0 w v l) : RowE E w0 w.drew v l := ⟨h.own.drew, h.low.drew⟩
theorem RowE.form (h : RowE E w0 w v l) : ∃ A c, v = .slice A l.length c ∧ l.length ≤ c ∧ El E w w.heap.size A l := by
  obtain ⟨A, c, rfl, hc⟩ := own_form h.own
  exact ⟨A, c, rfl, hc, El.of_own h.own⟩
theorem RowE.lt (h : RowE E w0 w v l) : ∀ k, v.ownBlock = some k → w0.heap.size ≤ k ∧ k < w.heap.size := h.own.lt
/-- A block of another type is not the row's. -/
theorem RowE.apart (h : RowE E w0 w v l) {g : Nat} {cs : Array Value} {t : TypeId} {fr : Nat × Nat} (hg : w.heap[g]? = some (.cells cs t fr)) (ht : t ≠ E.e) : v.ownBlock ≠ some g := by
  rcases h.own.2 with ⟨rfl, _⟩ | ⟨g1, _, _, rfl, _, hh1, _⟩
  · simp [Value.ownBlock]
  · intro e
    simp [Value.ownBlock] at e
    subst e
    rw [hh1] at hg
    injection hg with hg
    injection hg with _ h2
    exact ht h2.symm
theorem RowE.grows (h : RowE E w0 w v l) {v' : Value} {l' : List V} (ho : w'.ownsRow w0.heap.size E.e E.m v' l'.length (ecells E l')) (hg : w.grownBy w' v.ownBlock) : RowE E w0 w' v' l' :=
  ⟨ho, own_below h.low h.low.size h.own hg⟩
/-- What is kept of it where something else is changed. -/
theorem RowE.kept (h : RowE E w0 w v l) {row : Option Nat} (hg : w.grownBy w' row) (hr : ∀ k, row = some k → w0.heap.size ≤ k) (hne : row = none ∨ row ≠ v.ownBlock) : RowE E w0 w' v l := by
  refine ⟨?_, h.low.grown hg h.low.size hr⟩
  refine ⟨h.own.1, ?_⟩
  rcases h.own.2 with h1 | ⟨g, cap, cur, rfl, hb, hh, r⟩
  · exact .inl h1
  · refine .inr ⟨g, cap, cur, rfl, hb, (hg.block g (Array.getElem?_eq_some_iff.1 hh).1 ?_).trans hh, r⟩
    rcases hne with rfl | hne
    · simp
    · exact fun e => hne (by rw [← e]; rfl)
theorem RowE.base (h : RowE E w0 w v l) (hb : Below w00.heap.size w00 w0) : RowE E w00 w v l :=
  ⟨⟨h.own.1, by
    rcases h.own.2 with h1 | ⟨g, cap, cur, e, hg, r⟩
    · exact .inl h1
    · exact .inr ⟨g, cap, cur, e, Nat.le_trans hb.size hg, r⟩⟩, hb.trans (h.low.mono hb.size)⟩
/-- A block of elements that is laid now. -/
theorem RowE.lit (hB : Below w0.heap.size w0 w) (l : List V) (hl : l.length ≤ 1000000) (cs : Array Value) (hcs : cs.toList = ecells E l) : RowE E w0 (w.alloc (.cells cs E.e)) (.slice (some ⟨w.heap.size, 0, none⟩) l.length l.length) l := by
  have hsz : cs.size = l.length * E.m := by rw [← Array.length_toList, hcs, ecells_length]
  have h := World.ownsRow_lit (base := w0.heap.size) (e := E.e) (size := E.m) w cs l.length hB.size (by unfold maxLen; omega) hsz
  rw [hcs] at h
  exact ⟨h, hB.alloc hB.size _⟩
theorem El.lit (w : World) (l : List V) (cs : Array Value) (t : TypeId) (hcs : cs.toList = ecells E l) : El E (w.alloc (.cells cs t)) (w.heap.size + 1) (some ⟨w.heap.size, 0, none⟩) l := by
  refine ⟨fun i x hx => ⟨w.heap.size, 0, rfl, by omega, fun k u hu => ?_⟩⟩
  have : (w.alloc (.cells cs t)).heap[w.heap.size]? = some (.cells cs t (0, 0)) := heap_alloc_new w _
  rw [cell_of_row _ _ _ _ _ _ this, Nat.zero_add, ← Array.getElem?_toList, hcs]
  exact ecells_at E l i k x u hx hu

/-- Cells are stored one behind the other. -/
def putCells (w : World) (b o : Nat) : List Value → World
  | [] => w
  | u :: r => putCells (w.setCell ⟨b, o, none⟩ u) b (o + 1) r
theorem putCells_own {base g n cap m : Nat} {e : TypeId} : ∀ (us : List Value) (o : Nat) (xs : List Value) (w : World), w.ownsRow base e m (.slice (some ⟨g, 0, none⟩) n cap) n xs → o + us.length ≤ xs.length →
    (putCells w g o us).ownsRow base e m (.slice (some ⟨g, 0, none⟩) n cap) n (xs.take o ++ us ++ xs.drop (o + us.length)) ∧ w.grownBy (putCells w g o us) (some g)
  | [], o, xs, w, h, _ => by
    refine ⟨?_, World.grownBy.refl w _⟩
    show w.ownsRow _ _ _ _ _ (xs.take o ++ [] ++ xs.drop (o + 0))
    rw [List.append_nil, Nat.add_zero, List.take_append_drop]
    exact h
  | u :: r, o, xs, w, h, hl => by
    obtain ⟨h1, h2⟩ := h.stored o u
    rw [List.length_cons] at hl
    obtain ⟨h3, h4⟩ := putCells_own r (o + 1) (xs.set o u) (w.setCell ⟨g, o, none⟩ u) h1 (by rw [List.length_set]; omega)
    refine ⟨?_, ?_⟩
    · show (putCells (w.setCell ⟨g, o, none⟩ u) g (o + 1) r).ownsRow _ _ _ _ _ _
      have e1 : (xs.set o u).take (o + 1) = xs.take o ++ [u] := by
        rw [List.take_set, take_snoc_of xs o xs[o] (List.getElem?_eq_getElem (by omega))]
        rw [List.set_append_right _ _ (by rw [List.length_take]; omega), List.length_take, Nat.min_eq_left (by omega), Nat.sub_self]
        rfl
      have e2 : (xs.set o u).drop (o + 1 + r.length) = xs.drop (o + (u :: r).length) := by
        rw [List.drop_set_of_lt (by omega), List.length_cons]
        congr 1
        omega
      rw [e1, e2] at h3
      rw [show xs.take o ++ u :: r = xs.take o ++ [u] ++ r by simp]
      exact h3
    · show w.grownBy (putCells (w.setCell ⟨g, o, none⟩ u) g (o + 1) r) (some g)
      exact ⟨h4.os.trans h2.os, h4.tape.trans h2.tape, h4.output.trans h2.output, Nat.le_trans h2.size h4.size, fun k hk hne => (h4.block k (Nat.lt_of_lt_of_le hk h2.size) hne).trans (h2.block k hk hne)⟩
/-- One element of a row is put in the place of another one. -/
theorem RowE.put {g c : Nat} (h : RowE E w0 w (.slice (some ⟨g, 0, none⟩) l.length c) l) (i : Nat) (x : V) (hi : i < l.length) :
    RowE E w0 (putCells w g (i * E.m) (E.cells x)) (.slice (some ⟨g, 0, none⟩) (l.set i x).length c) (l.set i x) ∧ w.grownBy (putCells w g (i * E.m) (E.cells x)) (some g) := by
  have hle : i * E.m + E.m ≤ l.length * E.m := by rw [← Nat.succ_mul]; exact Nat.mul_le_mul_right _ hi
  obtain ⟨h1, h2⟩ := putCells_own (E.cells x) (i * E.m) (ecells E l) w h.own (by rw [E.len, ecells_length]; exact hle)
  rw [E.len, ← ecells_put E l i x hi] at h1
  refine ⟨h.grows ?_ h2, h2⟩
  rw [List.length_set]
  exact h1
end

theorem wpList_rowEb {P : Program} {V : Type} {E : Elem P V} {w0 w : World} {ops : Array Oper} {rest : List Oper} {o : Oper} {a : Act} {Q : Exit → Act → World → Prop} (hgd : o.guard = none) (s x : Operand)
    (ho : o.op = .call { callee := .builtin .append, args := #[s, x], argTypes := #[E.ty, E.ty] }) {v : Value} {l : List V} (hs : a.eval s = v) (h : RowE E w0 w v l)
    {B : Nat} {A : Option Addr} (l2 : List V) {m c : Nat} (hm : l2.length = m) (hx : a.eval x = .slice A m c) (hr : El E w B A l2) (hsz : (l.length + l2.length) * E.bytes ≤ 140737488355328)
    (hk : ∀ A' c' w' l3, Hid (l3 = l ++ l2) → RowE E w0 w' (.slice A' l3.length c') l3 → l3.length ≤ c' → El E w' w'.heap.size A' l3 → w.grownBy w' v.ownBlock → wpList P ops Q rest (a.put o.dst (.slice A' l3.length c')) w') :
    wpList P ops Q (o :: rest) a w := by
  subst hm
  refine wpList_plain hgd fun K hK => ?_
  obtain ⟨v', w', h1, h2, h3, _⟩ := run_appE w w0.heap.size o.type h.own c hr hsz h.low.size
  have h4 : RowE E w0 w' v' (l ++ l2) := h.grows (by rw [List.length_append, ecells_append]; exact h2) h3
  unfold Oper.wp execOp
  simp only [ho, resolve, invoke, builtin, Sem.run_bind, Sem.run_pure, Result.andThen_ok, List.map_toArray, List.map_cons, List.map_nil, hs, hx, h1]
  obtain ⟨A', c', rfl, h5, h6⟩ := h4.form
  exact hK _ _ (hk A' c' w' _ (Lib.hid rfl) h4 h5 h6 h3)
/-- The same in a region that draws its order. -/
theorem step_rowEb {P : Program} {V : Type} {E : Elem P V} {w0 w : World} {ops : Array Oper} {o : Oper} {a : Act} {K : Act → World → Prop} {Q : Exit → Act → World → Prop} {F : Prop} (hgd : o.guard = none) (s x : Operand)
    (ho : o.op = .call { callee := .builtin .append, args := #[s, x], argTypes := #[E.ty, E.ty] }) {v : Value} {l : List V} (hs : a.eval s = v) (h : RowE E w0 w v l)
    {B : Nat} {A : Option Addr} (l2 : List V) {m c : Nat} (hm : l2.length = m) (hx : a.eval x = .slice A m c) (hr : El E w B A l2) (hsz : (l.length + l2.length) * E.bytes ≤ 140737488355328)
    (hk : ∀ A' c' w' l3, Hid (l3 = l ++ l2) → RowE E w0 w' (.slice A' l3.length c') l3 → l3.length ≤ c' → El E w' w'.heap.size A' l3 → w.grownBy w' v.ownBlock → K (a.put o.dst (.slice A' l3.length c')) w') :
    if Region.wanted o (yielded ops a.tmps) = true then Oper.wp P o a w K Q else F := by
  subst hm
  rw [if_pos (by simp [Region.wanted, hgd])]
  obtain ⟨v', w', h1, h2, h3, _⟩ := run_appE w w0.heap.size o.type h.own c hr hsz h.low.size
  have h4 : RowE E w0 w' v' (l ++ l2) := h.grows (by rw [List.length_append, ecells_append]; exact h2) h3
  unfold Oper.wp execOp
  simp only [ho, resolve, invoke, builtin, Sem.run_bind, Sem.run_pure, Result.andThen_ok, List.map_toArray, List.map_cons, List.map_nil, hs, hx, h1]
  obtain ⟨A', c', rfl, h5, h6⟩ := h4.form
  exact hk A' c' w' _ (Lib.hid rfl) h4 h5 h6 h3

theorem wpList_rowE {P : Program} {V : Type} {E : Elem P V} {w0 w : World} {ops : Array Oper} {rest : List Oper} {o : Oper} {a : Act} {Q : Exit → Act → World → Prop} (hgd : o.guard = none) (s x : Operand)
    (ho : o.op = .call { callee := .builtin .append, args := #[s, x], argTypes := #[E.ty, E.ty] }) {v : Value} {l : List V} (hs : a.eval s = v) (h : RowE E w0 w v l)
    {B : Nat} {A : Option Addr} (l2 : List V) {m c : Nat} (hm : l2.length = m) (hx : a.eval x = .slice A m c) (hr : El E w B A l2) (hsz : l.length + l2.length ≤ 100000000000)
    (hk : ∀ A' c' w' l3, Hid (l3 = l ++ l2) → RowE E w0 w' (.slice A' l3.length c') l3 → l3.length ≤ c' → El E w' w'.heap.size A' l3 → w.grownBy w' v.ownBlock → wpList P ops Q rest (a.put o.dst (.slice A' l3.length c')) w') :
    wpList P ops Q (o :: rest) a w :=
  wpList_rowEb hgd s x ho hs h l2 hm hx hr (E.small hsz) hk
theorem step_rowE {P : Program} {V : Type} {E : Elem P V} {w0 w : World} {ops : Array Oper} {o : Oper} {a : Act} {K : Act → World → Prop} {Q : Exit → Act → World → Prop} {F : Prop} (hgd : o.guard = none) (s x : Operand)
    (ho : o.op = .call { callee := .builtin .append, args := #[s, x], argTypes := #[E.ty, E.ty] }) {v : Value} {l : List V} (hs : a.eval s = v) (h : RowE E w0 w v l)
    {B : Nat} {A : Option Addr} (l2 : List V) {m c : Nat} (hm : l2.length = m) (hx : a.eval x = .slice A m c) (hr : El E w B A l2) (hsz : l.length + l2.length ≤ 100000000000)
    (hk : ∀ A' c' w' l3, Hid (l3 = l ++ l2) → RowE E w0 w' (.slice A' l3.length c') l3 → l3.length ≤ c' → El E w' w'.heap.size A' l3 → w.grownBy w' v.ownBlock → K (a.put o.dst (.slice A' l3.length c')) w') :
    if Region.wanted o (yielded ops a.tmps) = true then Oper.wp P o a w K Q else F :=
  step_rowEb hgd s x ho hs h l2 hm hx hr (E.small hsz) hk

/-- A slice cut at its end, at its front. -/
theorem run_headE {P : Program} {V : Type} (E : Elem P V) (A : Option Addr) (n c : Nat) (hi : Int) (h1 : 0 ≤ hi) (h2 : hi ≤ c) (W : World) :
    (Instr.slice E.ty (.slice A n c) none (some (.int .i64 hi)) none).run P W = .ok (.slice A hi.toNat c) W := by
  obtain ⟨i, hi', hz0, hz1, hz2⟩ := info_parts E.info
  have c1 : 0 ≤ hi ∧ hi ≤ (c : Int) := ⟨h1, h2⟩
  cases A with
  | none => simp [Instr.slice, run_underlying E.und, Instr.sliceBounds, Instr.sliceBound, asIntOf, if_pos c1, sizeOf, typeInfo, hi']
  | some a => simp [Instr.slice, run_underlying E.und, Instr.sliceBounds, Instr.sliceBound, asIntOf, if_pos c1, sizeOf, typeInfo, hi', Addr.add]
theorem run_tailE {P : Program} {V : Type} (E : Elem P V) (A : Option Addr) (n c : Nat) (lo : Int) (h0 : 0 ≤ lo) (h1 : lo ≤ n) (W : World) :
    (Instr.slice E.ty (.slice A n c) (some (.int .i64 lo)) none none).run P W = .ok (.slice (if c = lo.toNat then A else A.map (·.add (lo.toNat * E.m))) (n - lo.toNat) (c - lo.toNat)) W := by
  obtain ⟨i, hi', hz0, hz1, hz2⟩ := info_parts E.info
  have c2 : 0 ≤ lo ∧ lo ≤ (n : Int) := ⟨h0, h1⟩
  cases A with
  | none => simp [Instr.slice, run_underlying E.und, Instr.sliceBounds, Instr.sliceBound, asIntOf, if_pos c2, sizeOf, typeInfo, hi']
  | some a => simp [Instr.slice, run_underlying E.und, Instr.sliceBounds, Instr.sliceBound, asIntOf, if_pos c2, sizeOf, typeInfo, hi', hz1]
end Go.Proofs.YtalmjmhbpmhokaaGreat
end

/- Numbers and their bytes; rows of bytes that grow; noughts behind a row; slices cut. (Gathered from OptN, NumL, PktN, OptZ and DecT: what needs no options.) -/
section
namespace Go.Proofs.YtalmjmhbpmhokaaGreat
open Go.RowKit


theorem or_i64 (m x : Nat) (hm : m < 36028797018963968) (hx : x < 256) : bits .or .i64 ((m : Int) * 256) (x : Int) = ((m * 256 + x : Nat) : Int) := by
  show IntKind.i64.wrap ((BitVec.ofInt 64 ((m : Int) * 256) ||| BitVec.ofInt 64 (x : Int)).toNat : Int) = _
  have e1 : (BitVec.ofInt 64 ((m : Int) * 256)).toNat = m * 256 := by
    rw [show ((m : Int) * 256) = ((m * 256 : Nat) : Int) by omega, BitVec.ofInt_natCast, BitVec.toNat_ofNat]
    exact Nat.mod_eq_of_lt (by omega)
  have e2 : (BitVec.ofInt 64 (x : Int)).toNat = x := by
    rw [BitVec.ofInt_natCast, BitVec.toNat_ofNat]
    exact Nat.mod_eq_of_lt (by omega)
  rw [BitVec.toNat_or, e1, e2, or_nat m x hx, IntKind.wrap_i64]
  omega


theorem run_makeF (s : Nat) (hs : s ≤ 1048576) (W : World) : (Instr.makeSlice 49 (.int .i64 (s : Int)) (.int .i64 (s : Int))).run Tryz.prog W = .ok (.slice (some ⟨W.heap.size, 0, none⟩) s s) (W.alloc (.cells (madeCells #[.int .u8 0] s) 5)) := by
  obtain ⟨i, hi, hz0, hz1, hz2⟩ := info_parts Tryz.infoB
  have h := run_make (P := Tryz.prog) W 49 5 i (.int .u8 0) Tryz.underlying49 hi hz0 .i64 .i64 (s : Int) (s : Int) (by omega) (by omega) (by rw [hz2]; omega) (by omega)
  rw [hz1] at h
  simp only [Int.toNat_natCast, Nat.mul_one] at h
  exact h
theorem madeF_own (W : World) (B s : Nat) (hB : B ≤ W.heap.size) (hs : s ≤ 1048576) : (W.alloc (.cells (madeCells #[.int .u8 0] s) 5)).ownsRow B 5 1 (.slice (some ⟨W.heap.size, 0, none⟩) s s) s (bcells (List.replicate s 0)) := by
  have h := World.ownsRow_lit (base := B) (e := 5) (size := 1) W (madeCells #[.int .u8 0] s) s hB (by unfold maxLen; omega) (by rw [size_madeCells]; omega)
  rw [toList_madeCells_one] at h
  have e : bV 0 = .int .u8 0 := rfl
  simp only [bcells, List.map_replicate, e]
  exact h

/-- The first k bytes are there. -/
def part (n m k : Nat) : List UInt8 := (beL n m).take k ++ List.replicate (m - k) 0
theorem part_length (n m k : Nat) (hk : k ≤ m) : (part n m k).length = m := by simp [part, beL_length]; omega
theorem part_zero (n m : Nat) : part n m 0 = List.replicate m 0 := by simp [part]
theorem part_all (n m : Nat) : part n m m = beL n m := by simp [part, List.take_of_length_le, beL_length]
theorem part_set (n m k : Nat) (hk : k < m) : (part n m k).set k (UInt8.ofNat (n / 256 ^ (m - 1 - k))) = part n m (k + 1) := by
  unfold part
  rw [take_snoc_of _ _ _ (be_at n m k hk), List.set_append_right _ _ (by simp [beL_length]; omega), show m - k = (m - (k + 1)) + 1 by omega, List.replicate_succ]
  simp [beL_length, Nat.min_eq_left (Nat.le_of_lt hk)]
theorem bcells_set (l : List UInt8) (k : Nat) (x : UInt8) : (bcells l).set k (bV x) = bcells (l.set k x) := by simp [bcells, List.map_set]
theorem byte_at (n j : Nat) : (n : Int) / 2 ^ (8 * j) % 256 = ((UInt8.ofNat (n / 256 ^ j)).toNat : Int) := by
  rw [UInt8.toNat_ofNat', show (256 : Nat) ^ j = 2 ^ (8 * j) by rw [Nat.pow_mul]]
  have : (n : Int) / 2 ^ (8 * j) % 256 = ((n / 2 ^ (8 * j) % 256 : Nat) : Int) := by rw [Int.natCast_emod, Int.natCast_ediv, Int.natCast_pow]; rfl
  rw [this]
theorem u8_of (n : Nat) : IntKind.u8.wrap (n : Int) = ((UInt8.ofNat n).toNat : Int) := by
  rw [UInt8.toNat_ofNat']
  simp [IntKind.wrap, IntKind.bits, IntKind.signed]

def tailP (n m k : Nat) : List UInt8 := List.replicate (m - k) 0 ++ (beL n m).drop (m - k)
theorem tailP_length (n m k : Nat) : (tailP n m k).length = m := by simp [tailP, beL_length]; try omega
theorem tailP_zero (n m : Nat) : tailP n m 0 = List.replicate m 0 := by simp [tailP, List.drop_of_length_le, beL_length]
theorem tailP_all (n m : Nat) : tailP n m m = beL n m := by simp [tailP]
theorem tailP_set (n m k : Nat) (hk : k < m) : (tailP n m k).set (m - 1 - k) (UInt8.ofNat (n / 256 ^ k)) = tailP n m (k + 1) := by
  unfold tailP
  rw [show m - k = m - 1 - k + 1 by omega, show m - (k + 1) = m - 1 - k by omega, List.replicate_succ', List.append_assoc, List.set_append_right _ _ (by simp)]
  have hb := be_at n m (m - 1 - k) (by omega)
  rw [show m - 1 - (m - 1 - k) = k by omega] at hb
  obtain ⟨h1, h2⟩ := List.getElem?_eq_some_iff.1 hb
  rw [List.drop_eq_getElem_cons h1, h2]
  simp


/-- Bytes are answered; nothing that lay has turned. -/
def GivesV (w : World) (l : List UInt8) (e : Ending) (w' : World) : Prop :=
  ∃ A c, e = .returned (.slice A l.length c) ∧ By w' w'.heap.size A l ∧ Below w.heap.size w w'

/-- The value v reads as the bytes l in a row of its own, made since w0. -/
structure Row (w0 w : World) (v : Value) (l : List UInt8) : Prop where
  own : w.ownsRow w0.heap.size 5 1 v l.length (bcells l)
  low : Below w0.heap.size w0 w
section
variable {w0 w w' : World} {v : Value} {l : List UInt8}
theorem Row.later (h : Row w0 w v l) (hb : Below w.heap.size w w') : Row w0 w' v l :=
  ⟨h.own.kept (grownBy_of_below hb) (by cases v.ownBlock <;> simp), h.low.trans (hb.mono h.low.size)⟩
theorem Row.alloc (h : Row w0 w v l) (o : Obj) : Row w0 (w.alloc o) v l := h.later ((Below.refl _ _).alloc (Nat.le_refl _) _)
theorem Row.drew (h : Row w0 w v l) : Row w0 w.drew v l := ⟨h.own.drew, h.low.drew⟩
theorem Row.form (h : Row w0 w v l) : ∃ A c, v = .slice A l.length c ∧ l.length ≤ c ∧ By w w.heap.size A l := by
  obtain ⟨A, c, rfl, hc⟩ := own_form h.own
  exact ⟨A, c, rfl, hc, By.of_own h.own⟩
/-- A block of another type is not the row's. -/
theorem Row.apart (h : Row w0 w v l) {g : Nat} {cs : Array Value} {t : TypeId} {fr : Nat × Nat} (hg : w.heap[g]? = some (.cells cs t fr)) (ht : t ≠ 5) : v.ownBlock ≠ some g := by
  rcases h.own.2 with ⟨rfl, _⟩ | ⟨g1, _, _, rfl, _, hh1, _⟩
  · simp [Value.ownBlock]
  · intro e
    simp [Value.ownBlock] at e
    subst e
    rw [hh1] at hg
    injection hg with hg
    injection hg with _ h2
    exact ht h2.symm
theorem Row.grows (h : Row w0 w v l) {v' : Value} {l' : List UInt8} (ho : w'.ownsRow w0.heap.size 5 1 v' l'.length (bcells l')) (hg : w.grownBy w' v.ownBlock) : Row w0 w' v' l' :=
  ⟨ho, own_below h.low h.low.size h.own hg⟩
end

theorem wpList_row {w0 w : World} {ops : Array Oper} {rest : List Oper} {o : Oper} {a : Act} {Q : Exit → Act → World → Prop} (hgd : o.guard = none) (s x : Operand)
    (ho : o.op = .call { callee := .builtin .append, args := #[s, x], argTypes := #[49, 49] }) {v : Value} {l : List UInt8} (hs : a.eval s = v) (h : Row w0 w v l)
    {B : Nat} {A : Option Addr} (l2 : List UInt8) {m c : Nat} (hm : l2.length = m) (hx : a.eval x = .slice A m c) (hr : By w B A l2) (hsz : l.length + l2.length ≤ 140737488355328)
    (hk : ∀ v' w', Row w0 w' v' (l ++ l2) → w.grownBy w' v.ownBlock → wpList Tryz.prog ops Q rest (a.put o.dst v') w') :
    wpList Tryz.prog ops Q (o :: rest) a w := by
  subst hm
  refine wpList_appB hgd s x ho w0.heap.size v l.length (bcells l) hs h.own B A l2 c hx hr hsz h.low.size fun v' w' h1 h2 _ => hk v' w' (h.grows ?_ h2) h2
  rw [List.length_append, bcells_append]
  exact h1

theorem zeros_list (n : Nat) : (Builtin.zeroCells #[.int .u8 0] n).toList = bcells (List.replicate n 0) := by
  have e : bV 0 = .int .u8 0 := rfl
  simp only [bcells, List.map_replicate, e]
  apply List.ext_getElem?
  intro j
  by_cases hj : j < n
  · simp [Builtin.zeroCells, hj, Nat.mod_one]
  · simp [Builtin.zeroCells, hj]

theorem run_zeros (w : World) (base ty g m cap n : Nat) (xs : List Value) (hown : w.ownsRow base 5 1 (.slice (some ⟨g, 0, none⟩) m cap) m xs) (hsz : m + n ≤ 1048576) (hbase : base ≤ w.heap.size) :
    ∃ A' c' w', (Builtin.append_ #[49, 3] ty #[.slice (some ⟨g, 0, none⟩) m cap, .int .i64 (n : Int)]).run Tryz.prog w = .ok (.slice A' (m + n) c') w' ∧
      w'.ownsRow base 5 1 (.slice A' (m + n) c') (m + n) (xs ++ bcells (List.replicate n 0)) ∧ w.grownBy w' (some g) := by
  obtain ⟨i, hi, hz0, hz1, hz2⟩ := info_parts Tryz.infoB
  have hw : IntKind.i64.wrap (n : Int) = n := by rw [IntKind.wrap_i64]; omega
  have hneg : ¬ ((n : Int) < 0) := by omega
  have h48i : ¬ (281474976710656 < (n : Int)) := by omega
  rcases hown.2 with ⟨h', _⟩ | ⟨g', cap', cur, h', hbg, hg, hnc, hcm, hcs, htake⟩
  · simp at h'
  simp only [Value.slice.injEq, Option.some.injEq, Addr.mk.injEq, and_true, true_and] at h'
  obtain ⟨rfl, rfl⟩ := h'
  have hlen := hown.1
  by_cases hn : n = 0
  · subst hn
    refine ⟨some ⟨g, 0, none⟩, cap, w, ?_, by simpa [bcells] using hown, World.grownBy.refl w _⟩
    have hw0 : IntKind.i64.wrap 0 = 0 := by decide
    simp [Builtin.append_, run_underlying Tryz.underlying49, run_underlying Tryz.underlying3, sizeOf, typeInfo, hi, hz2, asInt, asIntOf, hnc, storeCells, hw0]
  · by_cases hroom : m + n ≤ cap
    · have hst := run_storeCells_at Tryz.prog g m 5 (bcells (List.replicate n 0)) 0 cur w hg (by rw [bcells_length]; simp; omega) (bcells_one _)
      simp only [Nat.add_zero] at hst
      rw [← zeros_list] at hst
      refine ⟨some ⟨g, 0, none⟩, cap, w.setRow g (cur.toList.take m ++ bcells (List.replicate n 0) ++ cur.toList.drop (m + (bcells (List.replicate n 0)).length)).toArray, ?_, ⟨?_, .inr ⟨g, cap, _, rfl, hbg, setRow_heap w g cur _ _ _ hg, hroom, hcm, ?_, ?_⟩⟩, ⟨rfl, rfl, rfl, by simp, fun k _ hk => setRow_other w g k _ (fun e => hk (by simp [e]))⟩⟩
      · have hz : (Value.int IntKind.u8 0).cells = #[.int .u8 0] := rfl
        rw [← zeros_list]
        simp [Builtin.append_, run_underlying Tryz.underlying49, run_underlying Tryz.underlying3, sizeOf, typeInfo, zeroValue, hi, hz0, hz1, hz2, asInt, asIntOf, hw, hneg, hn, h48i, hroom, Addr.add_lit, hz, hst]
      · rw [List.length_append, bcells_length, hlen]; simp
      · simp only [List.size_toArray, List.length_append, List.length_take, List.length_drop, Array.length_toList, bcells_length, List.length_replicate]
        omega
      · rw [Nat.mul_one] at htake hcs ⊢
        rw [htake]
        have h1 : (xs ++ bcells (List.replicate n 0)).length = m + n := by rw [List.length_append, bcells_length, hlen]; simp
        rw [← h1]
        exact List.take_left
    · have hz : (Value.int IntKind.u8 0).cells = #[.int .u8 0] := rfl
      have h63' : ¬ (9223372036854775807 < (m : Int) + (n : Int)) := by omega
      have h48' : ¬ (281474976710656 < Builtin.nextslicecap (m + n) cap) := by
        have := growslice_fits (need := m + n) (old := cap) (bytes := 1) (by omega) (by omega)
        omega
      have hfo := run_firstCells_some (P := Tryz.prog) w.drew 1 m ⟨g, 0, none⟩ m cap xs hlen (fun j u hu => hown.cells (g := g) rfl j u hu)
      have hge := grownCap_ge w (m + n) cap 5
      refine ⟨some ⟨w.heap.size, 0, none⟩, grownCap w (m + n) cap 5, w.drew.alloc (.cells (xs.toArray ++ Builtin.zeroCells #[.int .u8 0] n ++ Builtin.zeroCells #[.int .u8 0] (grownCap w (m + n) cap 5 - (m + n))) 5), ?_, ⟨?_, .inr ⟨w.heap.size, grownCap w (m + n) cap 5, _, rfl, hbase, heap_alloc_new w.drew _, hge, grownCap_le_maxLen _ _ _ _ (by unfold maxLen; omega), ?_, ?_⟩⟩, ?_⟩
      · simp [Builtin.append_, run_underlying Tryz.underlying49, run_underlying Tryz.underlying3, sizeOf, typeInfo, zeroValue, hi, hz0, hz1, hz2, asInt, asIntOf, hw, hneg, hn, h48i, hroom, h63', h48', Question.forced, hfo, hz, newRow, grownCap]
      · rw [List.length_append, bcells_length, hlen]; simp
      · simp [Builtin.zeroCells]
        omega
      · rw [Nat.mul_one, Array.toList_append, Array.toList_append, zeros_list]
        have h1 : (xs ++ bcells (List.replicate n 0)).length = m + n := by rw [List.length_append, bcells_length, hlen]; simp
        exact List.take_left' h1
      · have hgr := World.grownBy_alloc w.drew (.cells (xs.toArray ++ Builtin.zeroCells #[.int .u8 0] n ++ Builtin.zeroCells #[.int .u8 0] (grownCap w (m + n) cap 5 - (m + n))) 5) (some g)
        exact ⟨hgr.os, hgr.tape, hgr.output, hgr.size, hgr.block⟩

theorem wpList_rowZ {w0 w : World} {ops : Array Oper} {rest : List Oper} {o : Oper} {a : Act} {Q : Exit → Act → World → Prop} (hgd : o.guard = none) (s x : Operand)
    (ho : o.op = .call { callee := .builtin .append, args := #[s, x], argTypes := #[49, 3] }) {v : Value} {l : List UInt8} (hs : a.eval s = v) (h : Row w0 w v l) (hl : 0 < l.length)
    (n : Nat) {N : Int} (hN : N = (n : Int)) (hx : a.eval x = .int .i64 N) (hsz : l.length + n ≤ 1048576)
    (hk : ∀ v' w', Row w0 w' v' (l ++ List.replicate n 0) → w.grownBy w' v.ownBlock → wpList Tryz.prog ops Q rest (a.put o.dst v') w') :
    wpList Tryz.prog ops Q (o :: rest) a w := by
  subst hN
  have hown := h.own
  rcases hown.2 with ⟨_, h0⟩ | ⟨g, cap, cur, rfl, _⟩
  · omega
  refine wpList_plain hgd fun K hK => ?_
  obtain ⟨A', c', w', h1, h2, h3⟩ := run_zeros w w0.heap.size o.type g l.length cap n (bcells l) hown hsz h.low.size
  unfold Oper.wp execOp
  simp only [ho, resolve, invoke, builtin, Sem.run_bind, Sem.run_pure, Result.andThen_ok, List.map_toArray, List.map_cons, List.map_nil, hs, hx, h1]
  refine hK _ _ (hk _ w' (h.grows ?_ h3) h3)
  rw [List.length_append, bcells_append, List.length_replicate]
  exact h2

theorem run_headB (A : Option Addr) (n c : Nat) (hi : Int) (h1 : 0 ≤ hi) (h2 : hi ≤ c) (W : World) :
    (Instr.slice 49 (.slice A n c) none (some (.int .i64 hi)) none).run Tryz.prog W = .ok (.slice A hi.toNat c) W := by
  obtain ⟨i, hi', hz0, hz1, hz2⟩ := info_parts Tryz.infoB
  have c1 : 0 ≤ hi ∧ hi ≤ (c : Int) := ⟨h1, h2⟩
  cases A with
  | none => simp [Instr.slice, run_underlying Tryz.underlying49, Instr.sliceBounds, Instr.sliceBound, asIntOf, if_pos c1, sizeOf, typeInfo, hi']
  | some a => simp [Instr.slice, run_underlying Tryz.underlying49, Instr.sliceBounds, Instr.sliceBound, asIntOf, if_pos c1, sizeOf, typeInfo, hi', Addr.add]

theorem run_tailB (A : Option Addr) (n c : Nat) (lo : Int) (h0 : 0 ≤ lo) (h1 : lo ≤ n) (W : World) :
    (Instr.slice 49 (.slice A n c) (some (.int .i64 lo)) none none).run Tryz.prog W = .ok (.slice (if c = lo.toNat then A else A.map (·.add lo.toNat)) (n - lo.toNat) (c - lo.toNat)) W := by
  obtain ⟨i, hi', hz0, hz1, hz2⟩ := info_parts Tryz.infoB
  have c2 : 0 ≤ lo ∧ lo ≤ (n : Int) := ⟨h0, h1⟩
  cases A with
  | none => simp [Instr.slice, run_underlying Tryz.underlying49, Instr.sliceBounds, Instr.sliceBound, asIntOf, if_pos c2, sizeOf, typeInfo, hi']
  | some a => simp [Instr.slice, run_underlying Tryz.underlying49, Instr.sliceBounds, Instr.sliceBound, asIntOf, if_pos c2, sizeOf, typeInfo, hi', hz1]
end Go.Proofs.YtalmjmhbpmhokaaGreat
end

/- Rows of bytes that grow by bytes, by one byte, by a text; blocks of one byte. (Gathered from MsgT.) -/
section
namespace Go.Proofs.YtalmjmhbpmhokaaGreat
open Go.RowKit

theorem len_data (x : ByteArray) : x.data.toList.length = x.size := Array.length_toList (xs := x.data)
theorem oneI (w : World) (t : TypeId) (c : Int) (h0 : 0 ≤ c) (h1 : c < 256) : By (w.alloc (.cells #[.int .u8 c] t)) (w.heap.size + 1) (some ⟨w.heap.size, 0, none⟩) [UInt8.ofNat c.toNat] := by
  have h := one_byte w t c.toNat (by omega)
  rw [Int.toNat_of_nonneg h0] at h
  exact h
theorem rowI (w0 w : World) (c : Int) (h0 : 0 ≤ c) (h1 : c < 256) (hB : Below w0.heap.size w0 w) : Row w0 (w.alloc (.cells #[.int .u8 c] 5)) (.slice (some ⟨w.heap.size, 0, none⟩) 1 1) [UInt8.ofNat c.toNat] := by
  have e1 : ((UInt8.ofNat c.toNat).toNat : Int) = c := by
    rw [UInt8.toNat_ofNat', Nat.mod_eq_of_lt (by omega)]; omega
  have h := World.ownsRow_lit (base := w0.heap.size) (e := 5) (size := 1) w #[.int .u8 c] 1 hB.size (by unfold maxLen; omega) rfl
  refine ⟨?_, hB.alloc hB.size _⟩
  simp only [bcells, List.map_cons, List.map_nil, bV, e1]
  exact h
theorem wayA {w w2 : World} {o : Obj} (h : Below (w.alloc o).drew.heap.size (w.alloc o).drew w2) : Below w.heap.size w w2 :=
  ⟨h.os, h.tape, h.output, Nat.le_trans (by show w.heap.size ≤ (w.alloc o).heap.size; simp) h.size, fun k hk => (h.block k (by show k < (w.alloc o).heap.size; simp; omega)).trans (Below.heap_alloc w o k hk)⟩
theorem wayB {w w2 : World} (h : Below w.drew.heap.size w.drew w2) : Below w.heap.size w w2 := ⟨h.os, h.tape, h.output, h.size, h.block⟩
theorem rowA {w w2 : World} {c : Int} (h0 : 0 ≤ c) (h1 : c < 256) (h : Below (w.alloc (.cells #[.int .u8 c] 5)).drew.heap.size (w.alloc (.cells #[.int .u8 c] 5)).drew w2) : Row w w2 (.slice (some ⟨w.heap.size, 0, none⟩) 1 1) [UInt8.ofNat c.toNat] :=
  (rowI w w c h0 h1 (Below.refl _ w)).drew.later h
theorem step_row {w0 w : World} {ops : Array Oper} {o : Oper} {a : Act} {K : Act → World → Prop} {Q : Exit → Act → World → Prop} {E : Prop} (hgd : o.guard = none) (s x : Operand)
    (ho : o.op = .call { callee := .builtin .append, args := #[s, x], argTypes := #[49, 49] }) {v : Value} {l : List UInt8} (hs : a.eval s = v) (h : Row w0 w v l)
    {B : Nat} {A : Option Addr} (l2 : List UInt8) {m c : Nat} (hm : l2.length = m) (hx : a.eval x = .slice A m c) (hr : By w B A l2) (hsz : l.length + l2.length ≤ 140737488355328)
    (hk : ∀ A' c' w', Row w0 w' (.slice A' (l ++ l2).length c') (l ++ l2) → w.grownBy w' v.ownBlock → K (a.put o.dst (.slice A' (l ++ l2).length c')) w') :
    if Region.wanted o (yielded ops a.tmps) = true then Oper.wp Tryz.prog o a w K Q else E := by
  subst hm
  refine step_appB hgd s x ho w0.heap.size v l.length (bcells l) hs h.own B A l2 c hx hr hsz h.low.size fun v' w' h1 h2 _ => ?_
  have h3 : Row w0 w' v' (l ++ l2) := h.grows (by rw [List.length_append, bcells_append]; exact h1) h2
  obtain ⟨A', c', rfl, _, _⟩ := h3.form
  exact hk A' c' w' h3 h2
/-- Bytes in a block that is newer than a row stay where the row grows. -/
theorem By.newer {w w' : World} {v : Value} {l2 : List UInt8} {A : Option Addr} {b n : Nat} (h : By w n A l2) (hA : A = some ⟨b, 0, none⟩) (hn : n ≤ w.heap.size) (hv : ∀ k, v.ownBlock = some k → k ≠ b) (hg : w.grownBy w' v.ownBlock) : By w' n A l2 := by
  refine ⟨fun i x hx => ?_⟩
  obtain ⟨b', o, e, hb, hc⟩ := h.at_ i x hx
  rw [hA] at e
  injection e with e
  injection e with e1 e2
  subst e1 e2
  exact ⟨b, 0, hA, hb, (World.cell?_of_block (hg.block b (by omega) (fun e => hv b e.symm rfl))).trans hc⟩
theorem Row.lt {w0 w : World} {v : Value} {l : List UInt8} (h : Row w0 w v l) : ∀ k, v.ownBlock = some k → k < w.heap.size := fun k hk => (h.own.lt k hk).2

theorem newA (w w2 : World) (c : Int) (h0 : 0 ≤ c) (h1 : c < 256) (h : Below (w.alloc (.cells #[.int .u8 c] 5)).drew.heap.size (w.alloc (.cells #[.int .u8 c] 5)).drew w2) : By w2 (w.heap.size + 1) (some ⟨w.heap.size, 0, none⟩) [UInt8.ofNat c.toNat] ∧ w.heap.size + 1 ≤ w2.heap.size ∧ Below w.heap.size w w2 := by
  have hs : w.heap.size + 1 ≤ w2.heap.size := by have := h.size; have e : (w.alloc (.cells #[.int .u8 c] 5)).drew.heap.size = w.heap.size + 1 := by show (w.alloc _).heap.size = _; simp
                                                 omega
  refine ⟨?_, hs, wayA h⟩
  have hb : Below (w.heap.size + 1) (w.alloc (.cells #[.int .u8 c] 5)).drew w2 := h.mono (by show _ ≤ (w.alloc _).heap.size; simp)
  exact ((oneI w 5 c h0 h1).drew).below hb
theorem newC {w0 w w2 w3 : World} {v : Value} {l l2 : List UInt8} (hR : Row w0 w v l) (hg : w2.grownBy w3 v.ownBlock) (h : By w2 (w.heap.size + 1) (some ⟨w.heap.size, 0, none⟩) l2 ∧ w.heap.size + 1 ≤ w2.heap.size ∧ Below w.heap.size w w2) : By w3 (w.heap.size + 1) (some ⟨w.heap.size, 0, none⟩) l2 :=
  h.1.newer rfl h.2.1 (fun k hk => by have := hR.lt k hk; omega) hg
theorem newB {w0 w w3 : World} {v : Value} {l : List UInt8} {c : Int} (hR : Row w0 w v l) (h0 : 0 ≤ c) (h1 : c < 256) (hg : (w.alloc (.cells #[.int .u8 c] 5)).grownBy w3 v.ownBlock) : By w3 (w.heap.size + 1) (some ⟨w.heap.size, 0, none⟩) [UInt8.ofNat c.toNat] :=
  (oneI w 5 c h0 h1).newer rfl (by simp) (fun k hk => by have := hR.lt k hk; omega) hg
theorem oneN (w : World) (t : TypeId) (c : Nat) (h1 : c < 256) : By (w.alloc (.cells #[.int .u8 (c : Int)] t)) (w.heap.size + 1) (some ⟨w.heap.size, 0, none⟩) [UInt8.ofNat c] := one_byte w t c h1

theorem wpList_rowV {w0 w : World} {ops : Array Oper} {rest : List Oper} {o : Oper} {a : Act} {Q : Exit → Act → World → Prop} (hgd : o.guard = none) (s x : Operand)
    (ho : o.op = .call { callee := .builtin .append, args := #[s, x], argTypes := #[49, 49] }) {v : Value} {l : List UInt8} (hs : a.eval s = v) (h : Row w0 w v l)
    {B : Nat} {A : Option Addr} (l2 : List UInt8) {m c : Nat} (hm : l2.length = m) (hx : a.eval x = .slice A m c) (hr : By w B A l2) (n n2 : Nat) (hn : l.length ≤ n) (hn2 : l2.length ≤ n2) (hsz : n + n2 ≤ 100000)
    (hk : ∀ A' c' w' l3, Hid (l3 = l ++ l2) → l3.length ≤ n + n2 → Row w0 w' (.slice A' l3.length c') l3 → l3.length ≤ c' → By w' w'.heap.size A' l3 → wpList Tryz.prog ops Q rest (a.put o.dst (.slice A' l3.length c')) w') :
    wpList Tryz.prog ops Q (o :: rest) a w := by
  refine wpList_row hgd s x ho hs h l2 hm hx hr (by omega) fun v' w' h1 _ => ?_
  obtain ⟨A', c', rfl, h2, h3⟩ := h1.form
  exact hk A' c' w' _ (Lib.hid rfl) (by rw [List.length_append]; omega) h1 h2 h3
theorem step_rowV {w0 w : World} {ops : Array Oper} {o : Oper} {a : Act} {K : Act → World → Prop} {Q : Exit → Act → World → Prop} {E : Prop} (hgd : o.guard = none) (s x : Operand)
    (ho : o.op = .call { callee := .builtin .append, args := #[s, x], argTypes := #[49, 49] }) {v : Value} {l : List UInt8} (hs : a.eval s = v) (h : Row w0 w v l)
    {B : Nat} {A : Option Addr} (l2 : List UInt8) {m c : Nat} (hm : l2.length = m) (hx : a.eval x = .slice A m c) (hr : By w B A l2) (n n2 : Nat) (hn : l.length ≤ n) (hn2 : l2.length ≤ n2) (hsz : n + n2 ≤ 100000)
    (hk : ∀ A' c' w' l3, Hid (l3 = l ++ l2) → l3.length ≤ n + n2 → Row w0 w' (.slice A' l3.length c') l3 → l3.length ≤ c' → By w' w'.heap.size A' l3 → w.grownBy w' v.ownBlock → K (a.put o.dst (.slice A' l3.length c')) w') :
    if Region.wanted o (yielded ops a.tmps) = true then Oper.wp Tryz.prog o a w K Q else E := by
  refine step_row hgd s x ho hs h l2 hm hx hr (by omega) fun A' c' w' h1 h2 => ?_
  obtain ⟨A2, c2, e, h3, h4⟩ := h1.form
  injection e with e1 e2 e3
  subst e1 e3
  exact hk A' c' w' _ (Lib.hid rfl) (by rw [List.length_append]; omega) h1 h3 h4 h2

theorem wpList_rowStr {w0 w : World} {ops : Array Oper} {rest : List Oper} {o : Oper} {a : Act} {Q : Exit → Act → World → Prop} (hgd : o.guard = none) (s x : Operand)
    (ho : o.op = .call { callee := .builtin .append, args := #[s, x], argTypes := #[49, 9] }) {v : Value} {l : List UInt8} (hs : a.eval s = v) (h : Row w0 w v l)
    (t : ByteArray) (hx : a.eval x = .string t) (hsz : l.length + t.size ≤ 140737488355328)
    (hk : ∀ A' c' w' l3, Hid (l3 = l ++ t.data.toList) → Row w0 w' (.slice A' l3.length c') l3 → l3.length ≤ c' → By w' w'.heap.size A' l3 → wpList Tryz.prog ops Q rest (a.put o.dst (.slice A' l3.length c')) w') :
    wpList Tryz.prog ops Q (o :: rest) a w := by
  obtain ⟨i, hi, hz0, hz1, hz2⟩ := info_parts Tryz.infoB
  refine wpList_plain hgd fun K hK => ?_
  obtain ⟨v', w', h1, h2, h3, _⟩ := Lib.run_append_own_string (P := Tryz.prog) w w0.heap.size 49 9 o.type 5 i Tryz.underlying49 Tryz.underlying9 hi hz0 hz1 hz2 v l.length (bcells l) h.own t (by unfold maxLen; omega) hsz h.low.size
  have h4 : Row w0 w' v' (l ++ t.data.toList) := h.grows (by rw [List.length_append, bcells_append, len_data]; exact h2) h3
  unfold Oper.wp execOp
  simp only [ho, resolve, invoke, builtin, Sem.run_bind, Sem.run_pure, Result.andThen_ok, List.map_toArray, List.map_cons, List.map_nil, hs, hx, h1]
  obtain ⟨A', c', rfl, h5, h6⟩ := h4.form
  exact hK _ _ (hk A' c' w' _ (Lib.hid rfl) h4 h5 h6)

end Go.Proofs.YtalmjmhbpmhokaaGreat
end
