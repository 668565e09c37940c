/- Numbers and their bytes; rows of bytes that grow; noughts behind a row; slices cut. (Gathered from OptN, NumL, PktN, OptZ and DecT: what needs no options.) -/
import Derived.Test.YtfikdocpcepmmaaBytM
import Derived.Laws.BitsAllLaws
import Derived.Laws.BitsLemmas
import Derived.Lib.AppendZeros
namespace Go.Proofs.Ytfikdocpcepmmaa
open Go.RowKit


theorem or_i64 (m x : Nat) (hm : m < 36028797018963968) (hx : x < 256) : bits .or .i64 ((m : Int) * 256) (x : Int) = ((m * 256 + x : Nat) : Int) := by
  show IntKind.i64.wrap ((BitVec.ofInt 64 ((m : Int) * 256) ||| BitVec.ofInt 64 (x : Int)).toNat : Int) = _
  have e1 : (BitVec.ofInt 64 ((m : Int) * 256)).toNat = m * 256 := by
    rw [show ((m : Int) * 256) = ((m * 256 : Nat) : Int) by omega, BitVec.ofInt_natCast, BitVec.toNat_ofNat]
    exact Nat.mod_eq_of_lt (by omega)
  have e2 : (BitVec.ofInt 64 (x : Int)).toNat = x := by
    rw [BitVec.ofInt_natCast, BitVec.toNat_ofNat]
    exact Nat.mod_eq_of_lt (by omega)
  rw [BitVec.toNat_or, e1, e2, or_nat m x hx, IntKind.wrap_i64]
  omega


theorem run_makeF (s : Nat) (hs : s ≤ 1048576) (W : World) : (Instr.makeSlice 72 (.int .i64 (s : Int)) (.int .i64 (s : Int))).run Try.prog W = .ok (.slice (some ⟨W.heap.size, 0, none⟩) s s) (W.alloc (.cells (madeCells #[.int .u8 0] s) 5)) := by
  obtain ⟨i, hi, hz0, hz1, hz2⟩ := info_parts Try.infoB
  have h := run_make (P := Try.prog) W 72 5 i (.int .u8 0) Try.underlying72 hi hz0 .i64 .i64 (s : Int) (s : Int) (by omega) (by omega) (by rw [hz2]; omega) (by omega)
  rw [hz1] at h
  simp only [Int.toNat_natCast, Nat.mul_one] at h
  exact h
theorem madeF_own (W : World) (B s : Nat) (hB : B ≤ W.heap.size) (hs : s ≤ 1048576) : (W.alloc (.cells (madeCells #[.int .u8 0] s) 5)).ownsRow B 5 1 (.slice (some ⟨W.heap.size, 0, none⟩) s s) s (bcells (List.replicate s 0)) := by
  have h := World.ownsRow_lit (base := B) (e := 5) (size := 1) W (madeCells #[.int .u8 0] s) s hB (by unfold maxLen; omega) (by rw [size_madeCells]; omega)
  rw [toList_madeCells_one] at h
  have e : bV 0 = .int .u8 0 := rfl
  simp only [bcells, List.map_replicate, e]
  exact h

/-- The first k bytes are there. -/
def part (n m k : Nat) : List UInt8 := (beL n m).take k ++ List.replicate (m - k) 0
theorem part_length (n m k : Nat) (hk : k ≤ m) : (part n m k).length = m := by simp [part, beL_length]; omega
theorem part_zero (n m : Nat) : part n m 0 = List.replicate m 0 := by simp [part]
theorem part_all (n m : Nat) : part n m m = beL n m := by simp [part, List.take_of_length_le, beL_length]
theorem part_set (n m k : Nat) (hk : k < m) : (part n m k).set k (UInt8.ofNat (n / 256 ^ (m - 1 - k))) = part n m (k + 1) := by
  unfold part
  rw [take_snoc_of _ _ _ (be_at n m k hk), List.set_append_right _ _ (by simp [beL_length]; omega), show m - k = (m - (k + 1)) + 1 by omega, List.replicate_succ]
  simp [beL_length, Nat.min_eq_left (Nat.le_of_lt hk)]
theorem bcells_set (l : List UInt8) (k : Nat) (x : UInt8) : (bcells l).set k (bV x) = bcells (l.set k x) := by simp [bcells, List.map_set]
theorem byte_at (n j : Nat) : (n : Int) / 2 ^ (8 * j) % 256 = ((UInt8.ofNat (n / 256 ^ j)).toNat : Int) := by
  rw [UInt8.toNat_ofNat', show (256 : Nat) ^ j = 2 ^ (8 * j) by rw [Nat.pow_mul]]
  have : (n : Int) / 2 ^ (8 * j) % 256 = ((n / 2 ^ (8 * j) % 256 : Nat) : Int) := by rw [Int.natCast_emod, Int.natCast_ediv, Int.natCast_pow]; rfl
  rw [this]
theorem u8_of (n : Nat) : IntKind.u8.wrap (n : Int) = ((UInt8.ofNat n).toNat : Int) := by
  rw [UInt8.toNat_ofNat']
  simp [IntKind.wrap, IntKind.bits, IntKind.signed]

def tailP (n m k : Nat) : List UInt8 := List.replicate (m - k) 0 ++ (beL n m).drop (m - k)
theorem tailP_length (n m k : Nat) : (tailP n m k).length = m := by simp [tailP, beL_length]; try omega
theorem tailP_zero (n m : Nat) : tailP n m 0 = List.replicate m 0 := by simp [tailP, List.drop_of_length_le, beL_length]
theorem tailP_all (n m : Nat) : tailP n m m = beL n m := by simp [tailP]
theorem tailP_set (n m k : Nat) (hk : k < m) : (tailP n m k).set (m - 1 - k) (UInt8.ofNat (n / 256 ^ k)) = tailP n m (k + 1) := by
  unfold tailP
  rw [show m - k = m - 1 - k + 1 by omega, show m - (k + 1) = m - 1 - k by omega, List.replicate_succ', List.append_assoc, List.set_append_right _ _ (by simp)]
  have hb := be_at n m (m - 1 - k) (by omega)
  rw [show m - 1 - (m - 1 - k) = k by omega] at hb
  obtain ⟨h1, h2⟩ := List.getElem?_eq_some_iff.1 hb
  rw [List.drop_eq_getElem_cons h1, h2]
  simp


/-- Bytes are answered; nothing that lay has turned. -/
def GivesV (w : World) (l : List UInt8) (e : Ending) (w' : World) : Prop :=
  ∃ A c, e = .returned (.slice A l.length c) ∧ By w' w'.heap.size A l ∧ Below w.heap.size w w'

/-- The value v reads as the bytes l in a row of its own, made since w0. -/
structure Row (w0 w : World) (v : Value) (l : List UInt8) : Prop where
  own : w.ownsRow w0.heap.size 5 1 v l.length (bcells l)
  low : Below w0.heap.size w0 w
section
variable {w0 w w' : World} {v : Value} {l : List UInt8}
theorem Row.later (h : Row w0 w v l) (hb : Below w.heap.size w w') : Row w0 w' v l :=
  ⟨h.own.kept (grownBy_of_below hb) (by cases v.ownBlock <;> simp), h.low.trans (hb.mono h.low.size)⟩
theorem Row.alloc (h : Row w0 w v l) (o : Obj) : Row w0 (w.alloc o) v l := h.later ((Below.refl _ _).alloc (Nat.le_refl _) _)
theorem Row.drew (h : Row w0 w v l) : Row w0 w.drew v l := ⟨h.own.drew, h.low.drew⟩
theorem Row.form (h : Row w0 w v l) : ∃ A c, v = .slice A l.length c ∧ l.length ≤ c ∧ By w w.heap.size A l := by
  obtain ⟨A, c, rfl, hc⟩ := own_form h.own
  exact ⟨A, c, rfl, hc, By.of_own h.own⟩
/-- A block of another type is not the row's. -/
theorem Row.apart (h : Row w0 w v l) {g : Nat} {cs : Array Value} {t : TypeId} {fr : Nat × Nat} (hg : w.heap[g]? = some (.cells cs t fr)) (ht : t ≠ 5) : v.ownBlock ≠ some g := by
  rcases h.own.2 with ⟨rfl, _⟩ | ⟨g1, _, _, rfl, _, hh1, _⟩
  · simp [Value.ownBlock]
  · intro e
    simp [Value.ownBlock] at e
    subst e
    rw [hh1] at hg
    injection hg with hg
    injection hg with _ h2
    exact ht h2.symm
theorem Row.grows (h : Row w0 w v l) {v' : Value} {l' : List UInt8} (ho : w'.ownsRow w0.heap.size 5 1 v' l'.length (bcells l')) (hg : w.grownBy w' v.ownBlock) : Row w0 w' v' l' :=
  ⟨ho, own_below h.low h.low.size h.own hg⟩
end

theorem wpList_row {w0 w : World} {ops : Array Oper} {rest : List Oper} {o : Oper} {a : Act} {Q : Exit → Act → World → Prop} (hgd : o.guard = none) (s x : Operand)
    (ho : o.op = .call { callee := .builtin .append, args := #[s, x], argTypes := #[72, 72] }) {v : Value} {l : List UInt8} (hs : a.eval s = v) (h : Row w0 w v l)
    {B : Nat} {A : Option Addr} (l2 : List UInt8) {m c : Nat} (hm : l2.length = m) (hx : a.eval x = .slice A m c) (hr : By w B A l2) (hsz : l.length + l2.length ≤ 140737488355328)
    (hk : ∀ v' w', Row w0 w' v' (l ++ l2) → w.grownBy w' v.ownBlock → wpList Try.prog ops Q rest (a.put o.dst v') w') :
    wpList Try.prog ops Q (o :: rest) a w := by
  subst hm
  refine wpList_appB hgd s x ho w0.heap.size v l.length (bcells l) hs h.own B A l2 c hx hr hsz h.low.size fun v' w' h1 h2 _ => hk v' w' (h.grows ?_ h2) h2
  rw [List.length_append, bcells_append]
  exact h1

theorem zeros_list (n : Nat) : (Builtin.zeroCells #[.int .u8 0] n).toList = bcells (List.replicate n 0) := by
  have e : bV 0 = .int .u8 0 := rfl
  simp only [bcells, List.map_replicate, e]
  apply List.ext_getElem?
  intro j
  by_cases hj : j < n
  · simp [Builtin.zeroCells, hj, Nat.mod_one]
  · simp [Builtin.zeroCells, hj]

theorem run_zeros (w : World) (base ty g m cap n : Nat) (xs : List Value) (hown : w.ownsRow base 5 1 (.slice (some ⟨g, 0, none⟩) m cap) m xs) (hsz : m + n ≤ 1048576) (hbase : base ≤ w.heap.size) :
    ∃ A' c' w', (Builtin.append_ #[72, 3] ty #[.slice (some ⟨g, 0, none⟩) m cap, .int .i64 (n : Int)]).run Try.prog w = .ok (.slice A' (m + n) c') w' ∧
      w'.ownsRow base 5 1 (.slice A' (m + n) c') (m + n) (xs ++ bcells (List.replicate n 0)) ∧ w.grownBy w' (some g) := by
  obtain ⟨i, hi, hz0, hz1, hz2⟩ := info_parts Try.infoB
  have hw : IntKind.i64.wrap (n : Int) = n := by rw [IntKind.wrap_i64]; omega
  have hneg : ¬ ((n : Int) < 0) := by omega
  have h48i : ¬ (281474976710656 < (n : Int)) := by omega
  rcases hown.2 with ⟨h', _⟩ | ⟨g', cap', cur, h', hbg, hg, hnc, hcm, hcs, htake⟩
  · simp at h'
  simp only [Value.slice.injEq, Option.some.injEq, Addr.mk.injEq, and_true, true_and] at h'
  obtain ⟨rfl, rfl⟩ := h'
  have hlen := hown.1
  by_cases hn : n = 0
  · subst hn
    refine ⟨some ⟨g, 0, none⟩, cap, w, ?_, by simpa [bcells] using hown, World.grownBy.refl w _⟩
    have hw0 : IntKind.i64.wrap 0 = 0 := by decide
    simp [Builtin.append_, run_underlying Try.underlying72, run_underlying Try.underlying3, sizeOf, typeInfo, hi, hz2, asInt, asIntOf, hnc, storeCells, hw0]
  · by_cases hroom : m + n ≤ cap
    · have hst := run_storeCells_at Try.prog g m 5 (bcells (List.replicate n 0)) 0 cur w hg (by rw [bcells_length]; simp; omega) (bcells_one _)
      simp only [Nat.add_zero] at hst
      rw [← zeros_list] at hst
      refine ⟨some ⟨g, 0, none⟩, cap, w.setRow g (cur.toList.take m ++ bcells (List.replicate n 0) ++ cur.toList.drop (m + (bcells (List.replicate n 0)).length)).toArray, ?_, ⟨?_, .inr ⟨g, cap, _, rfl, hbg, setRow_heap w g cur _ _ _ hg, hroom, hcm, ?_, ?_⟩⟩, ⟨rfl, rfl, rfl, by simp, fun k _ hk => setRow_other w g k _ (fun e => hk (by simp [e]))⟩⟩
      · have hz : (Value.int IntKind.u8 0).cells = #[.int .u8 0] := rfl
        rw [← zeros_list]
        simp [Builtin.append_, run_underlying Try.underlying72, run_underlying Try.underlying3, sizeOf, typeInfo, zeroValue, hi, hz0, hz1, hz2, asInt, asIntOf, hw, hneg, hn, h48i, hroom, Addr.add_lit, hz, hst]
      · rw [List.length_append, bcells_length, hlen]; simp
      · simp only [List.size_toArray, List.length_append, List.length_take, List.length_drop, Array.length_toList, bcells_length, List.length_replicate]
        omega
      · rw [Nat.mul_one] at htake hcs ⊢
        rw [htake]
        have h1 : (xs ++ bcells (List.replicate n 0)).length = m + n := by rw [List.length_append, bcells_length, hlen]; simp
        rw [← h1]
        exact List.take_left
    · have hz : (Value.int IntKind.u8 0).cells = #[.int .u8 0] := rfl
      have h63' : ¬ (9223372036854775807 < (m : Int) + (n : Int)) := by omega
      have h48' : ¬ (281474976710656 < Builtin.nextslicecap (m + n) cap) := by
        have := growslice_fits (need := m + n) (old := cap) (bytes := 1) (by omega) (by omega)
        omega
      have hfo := run_firstCells_some (P := Try.prog) w.drew 1 m ⟨g, 0, none⟩ m cap xs hlen (fun j u hu => hown.cells (g := g) rfl j u hu)
      have hge := grownCap_ge w (m + n) cap 5
      refine ⟨some ⟨w.heap.size, 0, none⟩, grownCap w (m + n) cap 5, w.drew.alloc (.cells (xs.toArray ++ Builtin.zeroCells #[.int .u8 0] n ++ Builtin.zeroCells #[.int .u8 0] (grownCap w (m + n) cap 5 - (m + n))) 5), ?_, ⟨?_, .inr ⟨w.heap.size, grownCap w (m + n) cap 5, _, rfl, hbase, heap_alloc_new w.drew _, hge, grownCap_le_maxLen _ _ _ _ (by unfold maxLen; omega), ?_, ?_⟩⟩, ?_⟩
      · simp [Builtin.append_, run_underlying Try.underlying72, run_underlying Try.underlying3, sizeOf, typeInfo, zeroValue, hi, hz0, hz1, hz2, asInt, asIntOf, hw, hneg, hn, h48i, hroom, h63', h48', Question.forced, hfo, hz, newRow, grownCap]
      · rw [List.length_append, bcells_length, hlen]; simp
      · simp [Builtin.zeroCells]
        omega
      · rw [Nat.mul_one, Array.toList_append, Array.toList_append, zeros_list]
        have h1 : (xs ++ bcells (List.replicate n 0)).length = m + n := by rw [List.length_append, bcells_length, hlen]; simp
        exact List.take_left' h1
      · have hgr := World.grownBy_alloc w.drew (.cells (xs.toArray ++ Builtin.zeroCells #[.int .u8 0] n ++ Builtin.zeroCells #[.int .u8 0] (grownCap w (m + n) cap 5 - (m + n))) 5) (some g)
        exact ⟨hgr.os, hgr.tape, hgr.output, hgr.size, hgr.block⟩

theorem wpList_rowZ {w0 w : World} {ops : Array Oper} {rest : List Oper} {o : Oper} {a : Act} {Q : Exit → Act → World → Prop} (hgd : o.guard = none) (s x : Operand)
    (ho : o.op = .call { callee := .builtin .append, args := #[s, x], argTypes := #[72, 3] }) {v : Value} {l : List UInt8} (hs : a.eval s = v) (h : Row w0 w v l) (hl : 0 < l.length)
    (n : Nat) {N : Int} (hN : N = (n : Int)) (hx : a.eval x = .int .i64 N) (hsz : l.length + n ≤ 1048576)
    (hk : ∀ v' w', Row w0 w' v' (l ++ List.replicate n 0) → w.grownBy w' v.ownBlock → wpList Try.prog ops Q rest (a.put o.dst v') w') :
    wpList Try.prog ops Q (o :: rest) a w := by
  subst hN
  have hown := h.own
  rcases hown.2 with ⟨_, h0⟩ | ⟨g, cap, cur, rfl, _⟩
  · omega
  refine wpList_plain hgd fun K hK => ?_
  obtain ⟨A', c', w', h1, h2, h3⟩ := run_zeros w w0.heap.size o.type g l.length cap n (bcells l) hown hsz h.low.size
  unfold Oper.wp execOp
  simp only [ho, resolve, invoke, builtin, Sem.run_bind, Sem.run_pure, Result.andThen_ok, List.map_toArray, List.map_cons, List.map_nil, hs, hx, h1]
  refine hK _ _ (hk _ w' (h.grows ?_ h3) h3)
  rw [List.length_append, bcells_append, List.length_replicate]
  exact h2

theorem run_headB (A : Option Addr) (n c : Nat) (hi : Int) (h1 : 0 ≤ hi) (h2 : hi ≤ c) (W : World) :
    (Instr.slice 72 (.slice A n c) none (some (.int .i64 hi)) none).run Try.prog W = .ok (.slice A hi.toNat c) W := by
  obtain ⟨i, hi', hz0, hz1, hz2⟩ := info_parts Try.infoB
  have c1 : 0 ≤ hi ∧ hi ≤ (c : Int) := ⟨h1, h2⟩
  cases A with
  | none => simp [Instr.slice, run_underlying Try.underlying72, Instr.sliceBounds, Instr.sliceBound, asIntOf, if_pos c1, sizeOf, typeInfo, hi']
  | some a => simp [Instr.slice, run_underlying Try.underlying72, Instr.sliceBounds, Instr.sliceBound, asIntOf, if_pos c1, sizeOf, typeInfo, hi', Addr.add]

theorem run_tailB (A : Option Addr) (n c : Nat) (lo : Int) (h0 : 0 ≤ lo) (h1 : lo ≤ n) (W : World) :
    (Instr.slice 72 (.slice A n c) (some (.int .i64 lo)) none none).run Try.prog W = .ok (.slice (if c = lo.toNat then A else A.map (·.add lo.toNat)) (n - lo.toNat) (c - lo.toNat)) W := by
  obtain ⟨i, hi', hz0, hz1, hz2⟩ := info_parts Try.infoB
  have c2 : 0 ≤ lo ∧ lo ≤ (n : Int) := ⟨h0, h1⟩
  cases A with
  | none => simp [Instr.slice, run_underlying Try.underlying72, Instr.sliceBounds, Instr.sliceBound, asIntOf, if_pos c2, sizeOf, typeInfo, hi']
  | some a => simp [Instr.slice, run_underlying Try.underlying72, Instr.sliceBounds, Instr.sliceBound, asIntOf, if_pos c2, sizeOf, typeInfo, hi', hz1]
end Go.Proofs.Ytfikdocpcepmmaa
