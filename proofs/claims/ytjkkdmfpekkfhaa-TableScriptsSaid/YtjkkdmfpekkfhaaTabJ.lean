/- slices.AppendSeq, Collect and SortedFunc at leases, over the program's iterator. -/
import Derived.Test.YtjkkdmfpekkfhaaTabI
import Derived.Test.YtjkkdmfpekkfhaaSorL
import Derived.Test.YtjkkdmfpekkfhaaTabO
import Derived.Maps.AppendAt
namespace Go.Proofs.Ytjkkdmfpekkfhaa
open Go.RowKit Go.Sort Go.Maps Go.Shelf Go.Lib
attribute [local go_sem] Oper.semAt_some

/-- What the iterator is made of, as it lies. -/
structure Iter (w : World) (bt bi g b : Nat) (S : Nat → Prop) (L : List LV) (fc : FuncId) (bs : Array Value) (p : LV → Bool) : Prop where
  tests : TestsL S w fc bs p
  eg : ∀ args w, (callFunc fc args).run Try.prog w = .ok (.enter fc args) w
  lt : ∀ k, S k → k < w.heap.size
  b1 : Boxed w bt 27 (.pointer (some ⟨g, 0, none⟩))
  b2 : Boxed w bi 50 (.func (.func fc) #[] bs)
  tb : w.heap[g]? = some (.cells #[.map (some b)] 66 (0, 0))
  has : KL.Has w b L
section
variable {w w' : World} {bt bi g b : Nat} {S : Nat → Prop} {L : List LV} {fc : FuncId} {bs : Array Value} {p : LV → Bool}
theorem Iter.slt (h : Iter w bt bi g b S L fc bs p) : ∀ k, IterS bt bi g b S k → k < w.heap.size := by
  rintro k (rfl | rfl | rfl | rfl | hk)
  · exact h.b1.lt
  · exact h.b2.lt
  · exact (Array.getElem?_eq_some_iff.1 h.tb).1
  · exact h.has.lt
  · exact h.lt k hk
theorem Iter.stops (h : Iter w bt bi g b S L fc bs p) (n : Nat) (hn : 1 ≤ n) : SeqStopsK Fence.wide n Try.prog 53 #[.pointer (some ⟨bt, 0, none⟩), .pointer (some ⟨bi, 0, none⟩)] encLs (KpI (IterS bt bi g b S)) (fun xs => xs.Perm (L.filter p)) (fun _ => True) L.length w :=
  those_stops n hn bt bi g b S L fc bs p w h.tests h.eg h.lt h.b1 h.b2 h.tb h.has
theorem Iter.later (h : Iter w bt bi g b S L fc bs p) (hb : Below w.heap.size w w') : Iter w' bt bi g b S L fc bs p where
  tests := fun x W hz hk => h.tests x W (Nat.le_trans hb.size hz) (fun k hs => (hk k hs).trans (hb.block k (h.lt k hs)))
  eg := h.eg
  lt := fun k hk => Nat.lt_of_lt_of_le (h.lt k hk) hb.size
  b1 := (hb.block bt h.b1.lt).trans h.b1
  b2 := (hb.block bi h.b2.lt).trans h.b2
  tb := (hb.block g (Array.getElem?_eq_some_iff.1 h.tb).1).trans h.tb
  has := h.has.block (hb.block b h.has.lt)
end

/-- A lease's box, made since block B. -/
theorem box_own (B : Nat) (x : LV) (F : Nat → Act) (a' : Act) (M : Nat) : OwnFrom B (fun (_ : Unit) W => ∃ bx, M ≤ bx ∧ LBox W bx x ∧ a' = F bx) := by
  rintro s X Y row ⟨bx, h1, h2, h3⟩ hg hr
  refine ⟨bx, h1, h2.grown hg (fun e => ?_), h3⟩
  obtain ⟨-, o, ho, hc⟩ := hr bx e
  rw [show X.heap[bx]? = _ from h2] at ho
  cases ho
  cases hc
theorem keepsFrom_alloc {B : Nat} (W : World) (o : Obj) : KeepsFrom B W (W.alloc o) := (KeepsOthers.alloc W o).from B
theorem cells8_new (W : World) (x : LV) : ∀ j u, x.cells.toList[j]? = some u → (W.alloc (lbox x)).cell? ((⟨W.heap.size, 0, none⟩ : Addr).add j) = some u := by
  intro j u hj
  have h := (LBox.new W x).at_ j
  rw [show ((⟨W.heap.size, 0, none⟩ : Addr).add j) = ⟨W.heap.size, j, none⟩ by unfold Addr.add; split <;> simp_all, h, ← Array.getElem?_toList]
  exact hj

/-- What the body of AppendSeq keeps to. -/
def ApsI (w : World) (pre : List LV) (V : World) : Prop :=
  (∃ v, Boxed V w.heap.size 23 v ∧ V.ownsRow w.heap.size 34 8 v pre.length (ecells ElemL pre) ∧ True) ∧ Below w.heap.size w V

set_option maxRecDepth 100000 in
set_option maxHeartbeats 3000000 in
theorem aps_in {w : World} {bt bi g b : Nat} {S : Nat → Prop} {L : List LV} {fc : FuncId} {bs : Array Value} {p : LV → Bool} (h : Iter w bt bi g b S L fc bs p) (hL : L.length ≤ 1000000) :
    CallsIn Fence.wide 3 Try.prog 62 #[.slice none 0 0, .func (.func 53) #[] #[.pointer (some ⟨bt, 0, none⟩), .pointer (some ⟨bi, 0, none⟩)]] w
      fun e w' => ∃ A c l', e = .returned (.slice A l'.length c) ∧ l'.Perm (L.filter p) ∧ RowE ElemL w w' (.slice A l'.length c) l' := by
  refine callsIn_of_wp_marks Try.func62 rfl trivial ?_ rfl
  simp only [Try.ntmps62, List.size_toArray, List.length_cons, List.length_nil, Nat.reduceAdd, Nat.reduceSub, Array.replicate_succ, Array.replicate_zero, List.push_toArray, List.append_toArray, List.nil_append, List.cons_append]
  gi_wp2_with fail
  obtain ⟨w1, hw1⟩ : ∃ w1, w1 = w.alloc (.cells #[.slice none 0 0] 23) := ⟨_, rfl⟩
  rw [← hw1]
  have z1 : w1.heap.size = w.heap.size + 1 := by rw [hw1]; simp
  have hB1 : Below w.heap.size w w1 := by rw [hw1]; exact (Below.refl _ w).alloc (Nat.le_refl _) _
  have b0 : Boxed w1 w.heap.size 23 (.slice none 0 0) := by rw [hw1]; exact Boxed.new w _ _
  clear hw1
  have hslt := h.slt
  refine wpIn_rangeFunc_ownH rfl (by omega) (gf := 53) (lb := #[.pointer (some ⟨bt, 0, none⟩), .pointer (some ⟨bi, 0, none⟩)]) (by simp [Act.eval]) trivial (enters_of Try.func53 (by kernel_rfl) rfl)
    (h.stops 2 (by omega)) kpi_t (kpi_b (fun k hk => by have := hslt k hk; omega)) hB1 (fun _ => rfl)
    (ApsI w) (fun _ _ _ => False)
    (OwnFrom.and (Own.from (holdsRow_own w.heap.size w.heap.size _ _ 8 (fun pre : List LV => pre.length) (fun pre => ecells ElemL pre) (fun _ _ => True)) _) (ownFrom_below (Nat.le_refl _) (by omega)))
    (fun c => ownFrom_pure _ (fun _ => False))
    ⟨⟨_, b0, World.ownsRow_nil _ _ _ _, trivial⟩, hB1⟩
    (fun x a' W => ∃ bx, w1.heap.size ≤ bx ∧ LBox W bx x ∧ a' = { tmps := #[.slice none 0 0, .func (.func 53) #[] #[.pointer (some ⟨bt, 0, none⟩), .pointer (some ⟨bi, 0, none⟩)], .pointer (some ⟨w.heap.size, 0, none⟩), undef, .slice none 0 0, .pointer (some ⟨bx, 0, none⟩), .func (.func 53) #[] #[.pointer (some ⟨bt, 0, none⟩), .pointer (some ⟨bi, 0, none⟩)], x.v, undef, undef, undef, undef, undef], defers := [] })
    (fun x a' => box_own w1.heap.size x _ a' w1.heap.size) ?assign ?body ?done ?stop
  case assign =>
    rintro l pre x W K ⟨⟨v, hv, hrow, -⟩, hB⟩ hK
    simp only [encLs]
    gi_wp2
    refine hK _ _ (keepsFrom_alloc W _) ?_ ⟨⟨v, hv.alloc _, hrow.alloc _, trivial⟩, hB.alloc hB.size _⟩ ⟨W.heap.size, ?_, LBox.new W x, rfl⟩
    · exact (KpI.refl W).grown (World.grownBy_alloc W _ none) (fun k hk => Nat.lt_of_lt_of_le (hslt k hk) hB.size) (fun g e => by cases e)
    · have := hv.lt
      omega
  case stop =>
    rintro D c pre V _ _ h _
    exact h.elim
  case body =>
    rintro l pre x a' W hl - ⟨⟨v, hv, hrow, -⟩, hB⟩ ⟨bx, hbx, hX, rfl⟩ hlen
    obtain ⟨A9, c9, rfl, hc9⟩ := own_form hrow
    obtain ⟨i0, hi, hz0, hz1, hz2⟩ := info_parts ElemL.info
    have hc := hv.cell
    obtain ⟨c0, c1, c2, c3, c4, c5, c6, c7⟩ := hX.all
    have HV := Lib.hid hv
    have HR := Lib.hid hrow
    have HB := Lib.hid hB
    clear hv hrow hX
    gi_wp2_with (gi_at_builtin; refine wpListIn_append_own _ rfl _ _ 23 rfl w.heap.size 34 i0 ElemL.zero 8 72 ElemL.und hi hz0 hz1 hz2 rfl (by decide) _ _ _ rfl (HR.out.alloc _) ⟨W.heap.size, 0, none⟩ 1 1 x.cells.toList rfl rfl (cells8_new W x) (ElemL.one x) (by unfold maxLen; omega) (by omega) (by have := HB.out.size; simp; omega) ?_; intro v' w5 hown' hgrow _; obtain ⟨g', cap', rfl⟩ := ownsRow_succ hown'; obtain ⟨hv1, hv2, hr2, hk2, hb2⟩ := HV.out.appended (by decide) HR.out HB.out.size (Nat.le_refl _) hown' hgrow; have hc1 := hv1.cell; have hf1 := hv1.frozen)
    refine ⟨hk2.from _, ⟨hk2.walks, fun k hk => hb2.block k (hslt k hk)⟩, ⟨_, hv2, ?_, trivial⟩, HB.out.trans hb2⟩
    rw [List.length_append, ecells_append, ecells_one_elem]
    exact hr2
  case done =>
    rintro D ys V hD hS ⟨⟨v, hv, hrow, -⟩, hB⟩ hK
    obtain ⟨A9, c9, rfl, hc9⟩ := own_form hrow
    have hc := hv.cell
    gi_wp2
    refine ⟨by simp, .inl ⟨_, _, rfl, run_takeDeferred hK, ?_⟩⟩
    refine ⟨_, results_tmp rfl _ _ _, A9, c9, ys, rfl, hS, ?_, ?_⟩
    · exact ownsRow_putObj hrow _ hK rfl
    · exact hB.trans (belowK_b (w := w) (Nat.le_refl _) V D _ _ (by omega) hK rfl rfl)

theorem aps_any {w : World} {bt bi g b : Nat} {S : Nat → Prop} {L : List LV} {fc : FuncId} {bs : Array Value} {p : LV → Bool} (h : Iter w bt bi g b S L fc bs p) (hL : L.length ≤ 1000000) :
    Calls Try.prog 62 #[.slice none 0 0, .func (.func 53) #[] #[.pointer (some ⟨bt, 0, none⟩), .pointer (some ⟨bi, 0, none⟩)]] w
      fun e w' => ∃ A c l', e = .returned (.slice A l'.length c) ∧ l'.Perm (L.filter p) ∧ RowE ElemL w w' (.slice A l'.length c) l' := callsIn_wide.1 (aps_in h hL)

theorem collect_any {w : World} {bt bi g b : Nat} {S : Nat → Prop} {L : List LV} {fc : FuncId} {bs : Array Value} {p : LV → Bool} (h : Iter w bt bi g b S L fc bs p) (hL : L.length ≤ 1000000) :
    Calls Try.prog 54 #[.func (.func 53) #[] #[.pointer (some ⟨bt, 0, none⟩), .pointer (some ⟨bi, 0, none⟩)]] w
      fun e w' => ∃ A c l', e = .returned (.slice A l'.length c) ∧ l'.Perm (L.filter p) ∧ RowE ElemL w w' (.slice A l'.length c) l' := by
  have HA := Lib.hid (aps_any h hL)
  clear h
  go_enter Try.func54, Try.ntmps54
  go_wp2_with fail
  refine HA.out.mono ?_
  rintro e w' ⟨A, c, l', rfl, hp, hr⟩
  go_wp2
  go_ret
  exact ⟨A, c, l', rfl, hp, hr⟩

theorem sortedF_any {w : World} {bt bi g b : Nat} {S : Nat → Prop} {L : List LV} {fc : FuncId} {bs : Array Value} {p : LV → Bool} (h : Iter w bt bi g b S L fc bs p) (hL : L.length ≤ 1000000)
    {f2 : FuncId} {cf : LV → LV → Int} (hs : SWO (ltOf cf)) (eg : ∀ args w, (callFunc f2 args).run Try.prog w = .ok (.enter f2 args) w) (ht : TellsL f2 #[] cf) :
    Calls Try.prog 34 #[.func (.func 53) #[] #[.pointer (some ⟨bt, 0, none⟩), .pointer (some ⟨bi, 0, none⟩)], .func (.func f2) #[] #[]] w
      fun e w' => ∃ A c l', e = .returned (.slice A l'.length c) ∧ l'.Perm (L.filter p) ∧ (l'.Pairwise fun x y => ltOf cf y x = false) ∧ RowE ElemL w w' (.slice A l'.length c) l' := by
  have HA := Lib.hid (collect_any h hL)
  clear h
  go_enter Try.func34, Try.ntmps34
  go_wp2_with fail
  refine HA.out.mono ?_
  rintro e w' ⟨A, c, l1, rfl, hp, hr⟩
  have hlen : l1.length ≤ 1000000 := by
    have h1 := hp.length_eq
    have h2 := List.length_filter_le p L
    omega
  have HS := Lib.hid (sortLs_any hs eg ht hr (by omega))
  have HP := Lib.hid hp
  clear hp hr
  go_wp2_with fail
  refine HS.out.mono ?_
  rintro e w3 ⟨rfl, l2, hp2, hs2, hr2⟩
  have HL := Lib.hid hp2.length_eq
  go_wp2
  go_ret
  rw [HL.out.symm]
  exact ⟨A, c, l2, rfl, hp2.trans HP.out, hs2, hr2⟩
end Go.Proofs.Ytjkkdmfpekkfhaa
