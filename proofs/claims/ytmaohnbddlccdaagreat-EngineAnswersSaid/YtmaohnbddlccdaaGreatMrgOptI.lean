/- Joined texts: OptI, OptK, OptZ. -/
import Derived.Test.YtmaohnbddlccdaaGreatMrgPktM
import Derived.Test.YtmaohnbddlccdaaGreatMrgOptD
import Derived.Lib.AppendZeros

/- option.options: the options of bytes, one by one. -/
section
namespace Go.Proofs.YtmaohnbddlccdaaGreat.NO
open Go.RowKit Go.Shelf
attribute [local go_sem] Oper.semAt_some

/-- What a round keeps: what lay below n, and every block of bytes. -/
def Kb (n : Nat) (V V' : World) : Prop := Below n V V' ∧ ∀ (k : Nat) (c : Array Value) (f : Nat × Nat), V.heap[k]? = some (Obj.cells c 5 f) → V'.heap[k]? = some (Obj.cells c 5 f)
theorem Kb.refl (n : Nat) (V : World) : Kb n V V := ⟨Below.refl _ _, fun _ _ _ h => h⟩
theorem kb_t {n : Nat} {A B C : World} (h : Kb n A B) (k : Kb n B C) : Kb n A C := ⟨h.1.trans k.1, fun i c f hi => k.2 i c f (h.2 i c f hi)⟩
theorem kb_b {n B : Nat} (hn : n ≤ B) (V : World) : Booked B (Kb n V) := by
  intro V' l o o' h hl hlo ho
  refine ⟨h.1.grown (grownBy_putObj' V' l o') (by have := (Array.getElem?_eq_some_iff.1 hlo).1; omega) (fun k e => by cases e; omega), fun k c f hk => ?_⟩
  have h2 := h.2 k c f hk
  have hne : k ≠ l := by
    rintro rfl
    rw [hlo] at h2
    cases h2
    simp [Obj.isCells] at ho
  exact (World.putObj_heap_other hne).trans h2
theorem Kb.alloc {n : Nat} {V V' : World} (h : Kb n V V') (hn : n ≤ V'.heap.size) (o : Obj) : Kb n V (V'.alloc o) :=
  ⟨h.1.alloc hn o, fun k c f hk => (Below.heap_alloc V' o k (Array.getElem?_eq_some_iff.1 (h.2 k c f hk)).1).trans (h.2 k c f hk)⟩
/-- A row of another type grows. -/
theorem Kb.grown {n : Nat} {V V' V2 : World} (h : Kb n V V') {b : Nat} {e : TypeId} {s m : Nat} {v : Value} {xs : List Value} (hv : V'.ownsRow b e s v m xs) (he : e ≠ 5) (hb : n ≤ b) (hn : n ≤ V'.heap.size) (hg : V'.grownBy V2 v.ownBlock) : Kb n V V2 := by
  refine ⟨h.1.grown hg hn (fun k e => Nat.le_trans hb (hv.lt k e).1), fun k c f hk => ?_⟩
  have h2 := h.2 k c f hk
  refine (hg.block k (Array.getElem?_eq_some_iff.1 h2).1 (fun e' => ?_)).trans h2
  rcases hv.2 with ⟨rfl, _⟩ | ⟨g, _, _, rfl, _, hh, _⟩
  · cases e'
  · simp [Value.ownBlock] at e'
    subst e'
    rw [hh] at h2
    injection h2 with h2
    injection h2 with _ ht
    exact he ht
/-- A box of another type is written. -/
theorem Kb.set {n : Nat} {V V' : World} (h : Kb n V V') {b : Nat} {t : TypeId} {v : Value} (hv : Boxed V' b t v) (ht : t ≠ 5) (hb : n ≤ b) (u : Value) : Kb n V (V'.setCell ⟨b, 0, none⟩ u) := by
  refine ⟨h.1.setCell hb u, fun k c f hk => ?_⟩
  have h2 := h.2 k c f hk
  refine (heap_setCell_other V' ⟨b, 0, none⟩ k u (fun e => ?_)).trans h2
  subst e
  unfold Boxed at hv
  rw [hv] at h2
  injection h2 with h2
  injection h2 with _ ht'
  exact ht ht'
theorem OwnAll.kb {V V' : World} {n lo : Nat} {L : List OptV} (h : OwnAll V lo L) (hk : Kb n V V') : OwnAll V' lo L := by
  intro x hx
  have hh := h x hx
  refine ⟨hh.1, ?_⟩
  rcases hh.2 with h0 | ⟨g, cap, cur, e1, e2, e3, e4⟩
  · exact .inl h0
  · exact .inr ⟨g, cap, cur, e1, e2, hk.2 g _ _ e3, e4⟩
theorem OwnAll.below {V V' : World} {lo : Nat} {L : List OptV} (h : OwnAll V lo L) (hb : Below V.heap.size V V') : OwnAll V' lo L :=
  fun x hx => (h x hx).kept (row := none) ⟨hb.os, hb.tape, hb.output, hb.size, fun i hi _ => hb.block i hi⟩ (by cases hx' : (Value.slice x.ad x.data.length x.cap).ownBlock <;> simp)
theorem OwnAll.booked (lo B : Nat) (L : List OptV) : Booked B (fun V => OwnAll V lo L) := by
  intro V l o o' h _ hlo ho x hx
  refine (h x hx).kept (grownBy_putObj' V l o') ?_
  rcases (h x hx).2 with ⟨e, _⟩ | ⟨g, cap, cur, e1, _, e3, _⟩
  · rw [e]; exact .inl rfl
  · rw [e1]
    refine .inr (fun e => ?_)
    simp [Value.ownBlock] at e
    subst e
    rw [e3] at hlo
    cases hlo
    simp [Obj.isCells] at ho

/-- An element: an option as it lies, and an error's number. -/
abbrev El := OptV × Int
def encE (x : El) : Array Value := #[x.1.v, .int .i64 x.2]
def fine (L : List OptV) : List El := L.map fun o => (o, 0)
def wrong : El := (⟨0, none, 0, []⟩, 2)
theorem fine_snoc (L : List OptV) (o : OptV) : fine (L ++ [o]) = fine L ++ [(o, 0)] := by simp [fine]
theorem fine_length (L : List OptV) : (fine L).length = L.length := by simp [fine]

/-- All that came. -/
def AllCame (b : List UInt8) (lo : Nat) (xs : List El) (V : World) : Prop :=
  ∃ L, OwnAll V lo L ∧ ((decL b = some (absL L) ∧ xs = fine L) ∨ (decL b = none ∧ xs = fine L ++ [wrong]))
/-- What came where the body stopped. -/
def SomeCame (b : List UInt8) (pre : List El) (_ : World) : Prop := (∃ L, pre = fine L) ∨ (decL b = none ∧ ∃ L, pre = fine L ++ [wrong])

/-- Where the iterator stands. -/
def Rest (b r : List UInt8) (L : List OptV) : Prop := decL b = (decL r).map (absL L ++ ·) ∧ skipL r = r ∧ L.length + r.length ≤ b.length

theorem skipL_idem (l : List UInt8) : skipL (skipL l) = skipL l := by
  induction l with
  | nil => rfl
  | cons x r ih =>
    by_cases h : x = 0
    · subst h; rw [skipL_zero, ih]
    · rw [skipL_other r h, skipL_other r h]
theorem decL_skipL (l : List UInt8) : decL (skipL l) = decL l := by
  induction l with
  | nil => rfl
  | cons x r ih =>
    by_cases h : x = 0
    · subst h; rw [skipL_zero, decL_skip, ih]
    · rw [skipL_other r h]
theorem Rest.start (b : List UInt8) : Rest b (skipL b) [] := by
  refine ⟨?_, skipL_idem b, by have := skipL_length b; simpa using this⟩
  rw [decL_skipL]
  cases decL b <;> simp [absL]
theorem Rest.none_ {b : List UInt8} {L : List OptV} (h : Rest b [] L) : decL b = none := by
  rw [h.1, decL_nil skipL_nil]; rfl
theorem Rest.end_ {b t : List UInt8} {L : List OptV} (h : Rest b (255 :: t) L) : decL b = if (skipL t).isEmpty then some (absL L) else none := by
  rw [h.1, decL_end h.2.1]
  split <;> simp
theorem Rest.cut {b t : List UInt8} {L : List OptV} {x : UInt8} (h : Rest b (x :: t) L) (hx : x ≠ 255) (hp : splitL (x :: t) = none) : decL b = none := by
  rw [h.1, decL_cut h.2.1 hx hp]; rfl
theorem Rest.one {b t : List UInt8} {L : List OptV} {x : UInt8} {d b' : List UInt8} (h : Rest b (x :: t) L) (hx : x ≠ 255) (hp : splitL (x :: t) = some (d, b')) (A : Option Addr) (c : Nat) : Rest b (skipL b') (L ++ [⟨(x.toNat : Int), A, c, d⟩]) := by
  refine ⟨?_, skipL_idem _, ?_⟩
  · rw [h.1, decL_one h.2.1 hx hp, decL_skipL]
    cases decL b' <;> simp [absL, OptV.abs]
  · have h1 := splitL_lt hp
    have h2 := skipL_length b'
    have h3 := h.2.2
    simp at h1 h3 ⊢
    omega

theorem splitL_some {x : UInt8} {t d b' : List UInt8} (h : splitL (x :: t) = some (d, b')) : ∃ y t', t = y :: t' ∧ y.toNat ≤ t'.length ∧ d = t'.take y.toNat ∧ b' = t'.drop y.toNat := by
  match t, h with
  | y :: t', h =>
    simp only [splitL] at h
    split at h
    · rename_i hy
      simp only [Option.some.injEq, Prod.mk.injEq] at h
      exact ⟨y, t', rfl, hy, h.1.symm, h.2.symm⟩
    · cases h

theorem grown_of_below {V V' : World} (hb : Below V.heap.size V V') : V.grownBy V' none := ⟨hb.os, hb.tape, hb.output, hb.size, fun i hi _ => hb.block i hi⟩
theorem wide_of {m : Nat} {P : Program} {f : FuncId} {args : Array Value} {w : World} {R : Ending → World → Prop} (h : Calls P f args w R) : CallsIn Fence.wide m P f args w R := callsIn_wide.2 h

end Go.Proofs.YtmaohnbddlccdaaGreat.NO
end

/- option.Decode. -/
section
namespace Go.Proofs.YtmaohnbddlccdaaGreat.NO
open Go.RowKit Go.Shelf
attribute [local go_sem] Oper.semAt_some

theorem boxed_put {W : World} {B : Nat} {t : TypeId} {v : Value} (h : Boxed W B t v) {D : Nat} {x : Option (List Deferred)} (hK : W.heap[D]? = some (.deferred x)) (o : Obj) : Boxed (W.putObj D o) B t v := by
  refine h.kept (grownBy_putObj' W D o) ?_
  intro e
  cases e
  unfold Boxed at h
  rw [h] at hK
  cases hK

/-- What the body of Decode keeps to. -/
def DecI (w : World) (pre : List El) (V : World) : Prop :=
  ((∀ x ∈ pre, x.2 = 0) ∧ (∃ v, Boxed V (w.heap.size + 1 + 1) 30 v ∧ V.ownsRow w.heap.size 68 2 v pre.length (ocells (pre.map Prod.fst)) ∧ True) ∧ Boxed V w.heap.size 30 (.slice none 0 0) ∧ Boxed V (w.heap.size + 1) 53 (.int .i64 0)) ∧ Below w.heap.size w V
def DecX (w : World) (c : Code) (pre : List El) (V : World) : Prop :=
  (c = .ret ∧ ∃ ini last, pre = ini ++ [last] ∧ last.2 ≠ 0 ∧ Boxed V w.heap.size 30 (.slice none 0 0) ∧ Boxed V (w.heap.size + 1) 53 (.int .i64 last.2)) ∧ Below w.heap.size w V

theorem decI_own (w : World) {B : Nat} (hB : w.heap.size ≤ B) : OwnFrom B (DecI w) :=
  OwnFrom.and (Own.from (fun s X Y row hs hg hr => ⟨hs.1, holdsRow_own (β := List El) w.heap.size (w.heap.size + 1 + 1) _ _ 2 (fun s => s.length) (fun s => ocells (s.map Prod.fst)) (fun _ _ => True) s X Y row hs.2.1 hg hr, boxed_own _ _ (fun _ => _) s X Y row hs.2.2.1 hg hr, boxed_own _ _ (fun _ => _) s X Y row hs.2.2.2 hg hr⟩) _) (ownFrom_below (Nat.le_refl _) hB)
theorem decX_own (w : World) (c : Code) {B : Nat} (hB : w.heap.size ≤ B) : OwnFrom B (DecX w c) :=
  OwnFrom.and (Own.from (fun s X Y row hs hg hr => by obtain ⟨hc, ini, last, e1, e2, e3, e4⟩ := hs; exact ⟨hc, ini, last, e1, e2, boxed_own _ _ (fun _ => _) s X Y row e3 hg hr, boxed_own _ _ (fun _ => _) s X Y row e4 hg hr⟩) _) (ownFrom_below (Nat.le_refl _) hB)

theorem two_new (w : World) (x y : Value) (t : TypeId) {g : Nat} (hg : g = w.heap.size) : ∀ j u, [x, y][j]? = some u → (w.alloc (.cells #[x, y] t)).cell? ((⟨g, 0, none⟩ : Addr).add j) = some u := by
  subst hg
  intro j u hu
  match j, hu with
  | 0, hu => simp at hu; subst hu; simp [Addr.add]
  | 1, hu => simp at hu; subst hu; simp [Addr.add]

end Go.Proofs.YtmaohnbddlccdaaGreat.NO
end

/- Noughts appended to a row of bytes (append of a make). -/
section
namespace Go.Proofs.YtmaohnbddlccdaaGreat.NO
open Go.RowKit

theorem zeros_list (n : Nat) : (Builtin.zeroCells #[.int .u8 0] n).toList = bcells (List.replicate n 0) := by
  have e : bV 0 = .int .u8 0 := rfl
  simp only [bcells, List.map_replicate, e]
  apply List.ext_getElem?
  intro j
  by_cases hj : j < n
  · simp [Builtin.zeroCells, hj, Nat.mod_one]
  · simp [Builtin.zeroCells, hj]

theorem run_zeros (w : World) (base ty g m cap n : Nat) (xs : List Value) (hown : w.ownsRow base 5 1 (.slice (some ⟨g, 0, none⟩) m cap) m xs) (hsz : m + n ≤ 1048576) (hbase : base ≤ w.heap.size) :
    ∃ A' c' w', (Builtin.append_ #[29, 3] ty #[.slice (some ⟨g, 0, none⟩) m cap, .int .i64 (n : Int)]).run Tryz.prog w = .ok (.slice A' (m + n) c') w' ∧
      w'.ownsRow base 5 1 (.slice A' (m + n) c') (m + n) (xs ++ bcells (List.replicate n 0)) ∧ w.grownBy w' (some g) := by
  obtain ⟨i, hi, hz0, hz1, hz2⟩ := info_parts Tryz.infoB
  have hw : IntKind.i64.wrap (n : Int) = n := by rw [IntKind.wrap_i64]; omega
  have hneg : ¬ ((n : Int) < 0) := by omega
  have h48i : ¬ (281474976710656 < (n : Int)) := by omega
  rcases hown.2 with ⟨h', _⟩ | ⟨g', cap', cur, h', hbg, hg, hnc, hcm, hcs, htake⟩
  · simp at h'
  simp only [Value.slice.injEq, Option.some.injEq, Addr.mk.injEq, and_true, true_and] at h'
  obtain ⟨rfl, rfl⟩ := h'
  have hlen := hown.1
  by_cases hn : n = 0
  · subst hn
    refine ⟨some ⟨g, 0, none⟩, cap, w, ?_, by simpa [bcells] using hown, World.grownBy.refl w _⟩
    have hw0 : IntKind.i64.wrap 0 = 0 := by decide
    simp [Builtin.append_, run_underlying Tryz.underlying29, run_underlying Tryz.underlying3, sizeOf, typeInfo, hi, hz2, asInt, asIntOf, hnc, storeCells, hw0]
  · by_cases hroom : m + n ≤ cap
    · have hst := run_storeCells_at Tryz.prog g m 5 (bcells (List.replicate n 0)) 0 cur w hg (by rw [bcells_length]; simp; omega) (bcells_one _)
      simp only [Nat.add_zero] at hst
      rw [← zeros_list] at hst
      refine ⟨some ⟨g, 0, none⟩, cap, w.setRow g (cur.toList.take m ++ bcells (List.replicate n 0) ++ cur.toList.drop (m + (bcells (List.replicate n 0)).length)).toArray, ?_, ⟨?_, .inr ⟨g, cap, _, rfl, hbg, setRow_heap w g cur _ _ _ hg, hroom, hcm, ?_, ?_⟩⟩, ⟨rfl, rfl, rfl, by simp, fun k _ hk => setRow_other w g k _ (fun e => hk (by simp [e]))⟩⟩
      · have hz : (Value.int IntKind.u8 0).cells = #[.int .u8 0] := rfl
        rw [← zeros_list]
        simp [Builtin.append_, run_underlying Tryz.underlying29, run_underlying Tryz.underlying3, sizeOf, typeInfo, zeroValue, hi, hz0, hz1, hz2, asInt, asIntOf, hw, hneg, hn, h48i, hroom, Addr.add_lit, hz, hst]
      · rw [List.length_append, bcells_length, hlen]; simp
      · simp only [List.size_toArray, List.length_append, List.length_take, List.length_drop, Array.length_toList, bcells_length, List.length_replicate]
        omega
      · rw [Nat.mul_one] at htake hcs ⊢
        rw [htake]
        have h1 : (xs ++ bcells (List.replicate n 0)).length = m + n := by rw [List.length_append, bcells_length, hlen]; simp
        rw [← h1]
        exact List.take_left
    · have hz : (Value.int IntKind.u8 0).cells = #[.int .u8 0] := rfl
      have h63' : ¬ (9223372036854775807 < (m : Int) + (n : Int)) := by omega
      have h48' : ¬ (281474976710656 < Builtin.nextslicecap (m + n) cap) := by
        have := growslice_fits (need := m + n) (old := cap) (bytes := 1) (by omega) (by omega)
        omega
      have hfo := run_firstCells_some (P := Tryz.prog) w.drew 1 m ⟨g, 0, none⟩ m cap xs hlen (fun j u hu => hown.cells (g := g) rfl j u hu)
      have hge := grownCap_ge w (m + n) cap 5
      refine ⟨some ⟨w.heap.size, 0, none⟩, grownCap w (m + n) cap 5, w.drew.alloc (.cells (xs.toArray ++ Builtin.zeroCells #[.int .u8 0] n ++ Builtin.zeroCells #[.int .u8 0] (grownCap w (m + n) cap 5 - (m + n))) 5), ?_, ⟨?_, .inr ⟨w.heap.size, grownCap w (m + n) cap 5, _, rfl, hbase, heap_alloc_new w.drew _, hge, grownCap_le_maxLen _ _ _ _ (by unfold maxLen; omega), ?_, ?_⟩⟩, ?_⟩
      · simp [Builtin.append_, run_underlying Tryz.underlying29, run_underlying Tryz.underlying3, sizeOf, typeInfo, zeroValue, hi, hz0, hz1, hz2, asInt, asIntOf, hw, hneg, hn, h48i, hroom, h63', h48', Question.forced, hfo, hz, newRow, grownCap]
      · rw [List.length_append, bcells_length, hlen]; simp
      · simp [Builtin.zeroCells]
        omega
      · rw [Nat.mul_one, Array.toList_append, Array.toList_append, zeros_list]
        have h1 : (xs ++ bcells (List.replicate n 0)).length = m + n := by rw [List.length_append, bcells_length, hlen]; simp
        exact List.take_left' h1
      · have hgr := World.grownBy_alloc w.drew (.cells (xs.toArray ++ Builtin.zeroCells #[.int .u8 0] n ++ Builtin.zeroCells #[.int .u8 0] (grownCap w (m + n) cap 5 - (m + n))) 5) (some g)
        exact ⟨hgr.os, hgr.tape, hgr.output, hgr.size, hgr.block⟩
end Go.Proofs.YtmaohnbddlccdaaGreat.NO
end
