/- Joined texts: TabJ, TabU, TabX. -/
import Derived.Test.YtmaohnbddlccdaaGreatMrgTabH
import Derived.Test.YtmaohnbddlccdaaGreatMrgSorL
import Derived.Test.YtmaohnbddlccdaaGreatMrgTabP
import Derived.Maps.AppendAt
import Derived.Test.YtmaohnbddlccdaaGreatMrgTabN
import Derived.Test.YtmaohnbddlccdaaGreatMrgLeaP
import Derived.Test.YtmaohnbddlccdaaGreatMrgAddrN
import Derived.Test.YtmaohnbddlccdaaGreatMrgRefR
import Derived.Carry
import Derived.Deep.RegionLaw
import Derived.Maps.OwnOps

/- slices.AppendSeq, Collect and SortedFunc at leases, over the program's iterator. -/
section
namespace Go.Proofs.YtmaohnbddlccdaaGreat
open Go.RowKit Go.Sort Go.Maps Go.Shelf Go.Lib
attribute [local go_sem] Oper.semAt_some

/-- What the iterator is made of, as it lies. -/
structure Iter (w : World) (bt bi g b : Nat) (S : Nat → Prop) (L : List LV) (fc : FuncId) (bs : Array Value) (p : LV → Bool) : Prop where
  tests : TestsL S w fc bs p
  eg : ∀ args w, (callFunc fc args).run Tryz.prog w = .ok (.enter fc args) w
  lt : ∀ k, S k → k < w.heap.size
  b1 : Boxed w bt 37 (.pointer (some ⟨g, 0, none⟩))
  b2 : Boxed w bi 107 (.func (.func fc) #[] bs)
  tb : w.heap[g]? = some (.cells #[.map (some b)] 95 (0, 0))
  has : KL.Has w b L
section
variable {w w' : World} {bt bi g b : Nat} {S : Nat → Prop} {L : List LV} {fc : FuncId} {bs : Array Value} {p : LV → Bool}
theorem Iter.slt (h : Iter w bt bi g b S L fc bs p) : ∀ k, IterS bt bi g b S k → k < w.heap.size := by
  rintro k (rfl | rfl | rfl | rfl | hk)
  · exact h.b1.lt
  · exact h.b2.lt
  · exact (Array.getElem?_eq_some_iff.1 h.tb).1
  · exact h.has.lt
  · exact h.lt k hk
theorem Iter.stops (h : Iter w bt bi g b S L fc bs p) (n : Nat) (hn : 1 ≤ n) : SeqStopsK Fence.wide n Tryz.prog 171 #[.pointer (some ⟨bt, 0, none⟩), .pointer (some ⟨bi, 0, none⟩)] encLs (KpI (IterS bt bi g b S)) (fun xs => xs.Perm (L.filter p)) (fun _ => True) L.length w :=
  those_stops n hn bt bi g b S L fc bs p w h.tests h.eg h.lt h.b1 h.b2 h.tb h.has
theorem Iter.later (h : Iter w bt bi g b S L fc bs p) (hb : Below w.heap.size w w') : Iter w' bt bi g b S L fc bs p where
  tests := fun x W hz hk => h.tests x W (Nat.le_trans hb.size hz) (fun k hs => (hk k hs).trans (hb.block k (h.lt k hs)))
  eg := h.eg
  lt := fun k hk => Nat.lt_of_lt_of_le (h.lt k hk) hb.size
  b1 := (hb.block bt h.b1.lt).trans h.b1
  b2 := (hb.block bi h.b2.lt).trans h.b2
  tb := (hb.block g (Array.getElem?_eq_some_iff.1 h.tb).1).trans h.tb
  has := h.has.block (hb.block b h.has.lt)
end

/-- A lease's box, made since block B. -/
theorem box_own (B : Nat) (x : LV) (F : Nat → Act) (a' : Act) (M : Nat) : OwnFrom B (fun (_ : Unit) W => ∃ bx, M ≤ bx ∧ LBox W bx x ∧ a' = F bx) := by
  rintro s X Y row ⟨bx, h1, h2, h3⟩ hg hr
  refine ⟨bx, h1, h2.grown hg (fun e => ?_), h3⟩
  obtain ⟨-, o, ho, hc⟩ := hr bx e
  rw [show X.heap[bx]? = _ from h2] at ho
  cases ho
  cases hc
theorem keepsFrom_alloc {B : Nat} (W : World) (o : Obj) : KeepsFrom B W (W.alloc o) := (KeepsOthers.alloc W o).from B
theorem cells8_new (W : World) (x : LV) : ∀ j u, x.cells.toList[j]? = some u → (W.alloc (lbox x)).cell? ((⟨W.heap.size, 0, none⟩ : Addr).add j) = some u := by
  intro j u hj
  have h := (LBox.new W x).at_ j
  rw [show ((⟨W.heap.size, 0, none⟩ : Addr).add j) = ⟨W.heap.size, j, none⟩ by unfold Addr.add; split <;> simp_all, h, ← Array.getElem?_toList]
  exact hj

/-- What the body of AppendSeq keeps to. -/
def ApsI (w : World) (pre : List LV) (V : World) : Prop :=
  (∃ v, Boxed V w.heap.size 28 v ∧ V.ownsRow w.heap.size 42 8 v pre.length (ecells ElemL pre) ∧ True) ∧ Below w.heap.size w V

set_option maxRecDepth 100000 in
set_option maxHeartbeats 3000000 in
theorem aps_in {w : World} {bt bi g b : Nat} {S : Nat → Prop} {L : List LV} {fc : FuncId} {bs : Array Value} {p : LV → Bool} (h : Iter w bt bi g b S L fc bs p) (hL : L.length ≤ 1000000) :
    CallsIn Fence.wide 3 Tryz.prog 185 #[.slice none 0 0, .func (.func 171) #[] #[.pointer (some ⟨bt, 0, none⟩), .pointer (some ⟨bi, 0, none⟩)]] w
      fun e w' => ∃ A c l', e = .returned (.slice A l'.length c) ∧ l'.Perm (L.filter p) ∧ RowE ElemL w w' (.slice A l'.length c) l' := by
  refine callsIn_of_wp_marks Tryz.func185 rfl trivial ?_ rfl
  simp only [Tryz.ntmps185, List.size_toArray, List.length_cons, List.length_nil, Nat.reduceAdd, Nat.reduceSub, Array.replicate_succ, Array.replicate_zero, List.push_toArray, List.append_toArray, List.nil_append, List.cons_append]
  gi_wp2_with fail
  obtain ⟨w1, hw1⟩ : ∃ w1, w1 = w.alloc (.cells #[.slice none 0 0] 28) := ⟨_, rfl⟩
  rw [← hw1]
  have z1 : w1.heap.size = w.heap.size + 1 := by rw [hw1]; simp
  have hB1 : Below w.heap.size w w1 := by rw [hw1]; exact (Below.refl _ w).alloc (Nat.le_refl _) _
  have b0 : Boxed w1 w.heap.size 28 (.slice none 0 0) := by rw [hw1]; exact Boxed.new w _ _
  clear hw1
  have hslt := h.slt
  refine wpIn_rangeFunc_ownH rfl (by omega) (gf := 171) (lb := #[.pointer (some ⟨bt, 0, none⟩), .pointer (some ⟨bi, 0, none⟩)]) (by simp [Act.eval]) trivial (enters_of Tryz.func171 (by kernel_rfl) rfl)
    (h.stops 2 (by omega)) kpi_t (kpi_b (fun k hk => by have := hslt k hk; omega)) hB1 (fun _ => rfl)
    (ApsI w) (fun _ _ _ => False)
    (OwnFrom.and (Own.from (holdsRow_own w.heap.size w.heap.size _ _ 8 (fun pre : List LV => pre.length) (fun pre => ecells ElemL pre) (fun _ _ => True)) _) (ownFrom_below (Nat.le_refl _) (by omega)))
    (fun c => ownFrom_pure _ (fun _ => False))
    ⟨⟨_, b0, World.ownsRow_nil _ _ _ _, trivial⟩, hB1⟩
    (fun x a' W => ∃ bx, w1.heap.size ≤ bx ∧ LBox W bx x ∧ a' = { tmps := #[.slice none 0 0, .func (.func 171) #[] #[.pointer (some ⟨bt, 0, none⟩), .pointer (some ⟨bi, 0, none⟩)], .pointer (some ⟨w.heap.size, 0, none⟩), undef, .slice none 0 0, .pointer (some ⟨bx, 0, none⟩), .func (.func 171) #[] #[.pointer (some ⟨bt, 0, none⟩), .pointer (some ⟨bi, 0, none⟩)], x.v, undef, undef, undef, undef, undef], defers := [] })
    (fun x a' => box_own w1.heap.size x _ a' w1.heap.size) ?assign ?body ?done ?stop
  case assign =>
    rintro l pre x W K ⟨⟨v, hv, hrow, -⟩, hB⟩ hK
    simp only [encLs]
    gi_wp2
    refine hK _ _ (keepsFrom_alloc W _) ?_ ⟨⟨v, hv.alloc _, hrow.alloc _, trivial⟩, hB.alloc hB.size _⟩ ⟨W.heap.size, ?_, LBox.new W x, rfl⟩
    · exact (KpI.refl W).grown (World.grownBy_alloc W _ none) (fun k hk => Nat.lt_of_lt_of_le (hslt k hk) hB.size) (fun g e => by cases e)
    · have := hv.lt
      omega
  case stop =>
    rintro D c pre V _ _ h _
    exact h.elim
  case body =>
    rintro l pre x a' W hl - ⟨⟨v, hv, hrow, -⟩, hB⟩ ⟨bx, hbx, hX, rfl⟩ hlen
    obtain ⟨A9, c9, rfl, hc9⟩ := own_form hrow
    obtain ⟨i0, hi, hz0, hz1, hz2⟩ := info_parts ElemL.info
    have hc := hv.cell
    obtain ⟨c0, c1, c2, c3, c4, c5, c6, c7⟩ := hX.all
    have HV := Lib.hid hv
    have HR := Lib.hid hrow
    have HB := Lib.hid hB
    clear hv hrow hX
    gi_wp2_with (gi_at_builtin; refine wpListIn_append_own _ rfl _ _ 28 rfl w.heap.size 42 i0 ElemL.zero 8 72 ElemL.und hi hz0 hz1 hz2 rfl (by decide) _ _ _ rfl (HR.out.alloc _) ⟨W.heap.size, 0, none⟩ 1 1 x.cells.toList rfl rfl (cells8_new W x) (ElemL.one x) (by unfold maxLen; omega) (by omega) (by have := HB.out.size; simp; omega) ?_; intro v' w5 hown' hgrow _; obtain ⟨g', cap', rfl⟩ := ownsRow_succ hown'; obtain ⟨hv1, hv2, hr2, hk2, hb2⟩ := HV.out.appended (by decide) HR.out HB.out.size (Nat.le_refl _) hown' hgrow; have hc1 := hv1.cell; have hf1 := hv1.frozen)
    refine ⟨hk2.from _, ⟨hk2.walks, fun k hk => hb2.block k (hslt k hk)⟩, ⟨_, hv2, ?_, trivial⟩, HB.out.trans hb2⟩
    rw [List.length_append, ecells_append, ecells_one_elem]
    exact hr2
  case done =>
    rintro D ys V hD hS ⟨⟨v, hv, hrow, -⟩, hB⟩ hK
    obtain ⟨A9, c9, rfl, hc9⟩ := own_form hrow
    have hc := hv.cell
    gi_wp2
    refine ⟨by simp, .inl ⟨_, _, rfl, run_takeDeferred hK, ?_⟩⟩
    refine ⟨_, results_tmp rfl _ _ _, A9, c9, ys, rfl, hS, ?_, ?_⟩
    · exact ownsRow_putObj hrow _ hK rfl
    · exact hB.trans (belowK_b (w := w) (Nat.le_refl _) V D _ _ (by omega) hK rfl rfl)

theorem aps_any {w : World} {bt bi g b : Nat} {S : Nat → Prop} {L : List LV} {fc : FuncId} {bs : Array Value} {p : LV → Bool} (h : Iter w bt bi g b S L fc bs p) (hL : L.length ≤ 1000000) :
    Calls Tryz.prog 185 #[.slice none 0 0, .func (.func 171) #[] #[.pointer (some ⟨bt, 0, none⟩), .pointer (some ⟨bi, 0, none⟩)]] w
      fun e w' => ∃ A c l', e = .returned (.slice A l'.length c) ∧ l'.Perm (L.filter p) ∧ RowE ElemL w w' (.slice A l'.length c) l' := callsIn_wide.1 (aps_in h hL)

theorem collect_any {w : World} {bt bi g b : Nat} {S : Nat → Prop} {L : List LV} {fc : FuncId} {bs : Array Value} {p : LV → Bool} (h : Iter w bt bi g b S L fc bs p) (hL : L.length ≤ 1000000) :
    Calls Tryz.prog 172 #[.func (.func 171) #[] #[.pointer (some ⟨bt, 0, none⟩), .pointer (some ⟨bi, 0, none⟩)]] w
      fun e w' => ∃ A c l', e = .returned (.slice A l'.length c) ∧ l'.Perm (L.filter p) ∧ RowE ElemL w w' (.slice A l'.length c) l' := by
  have HA := Lib.hid (aps_any h hL)
  clear h
  go_enter Tryz.func172, Tryz.ntmps172
  go_wp2_with fail
  refine HA.out.mono ?_
  rintro e w' ⟨A, c, l', rfl, hp, hr⟩
  go_wp2
  go_ret
  exact ⟨A, c, l', rfl, hp, hr⟩

theorem sortedF_any {w : World} {bt bi g b : Nat} {S : Nat → Prop} {L : List LV} {fc : FuncId} {bs : Array Value} {p : LV → Bool} (h : Iter w bt bi g b S L fc bs p) (hL : L.length ≤ 1000000)
    {f2 : FuncId} {cf : LV → LV → Int} (hs : SWO (ltOf cf)) (eg : ∀ args w, (callFunc f2 args).run Tryz.prog w = .ok (.enter f2 args) w) (ht : TellsL f2 #[] cf) :
    Calls Tryz.prog 160 #[.func (.func 171) #[] #[.pointer (some ⟨bt, 0, none⟩), .pointer (some ⟨bi, 0, none⟩)], .func (.func f2) #[] #[]] w
      fun e w' => ∃ A c l', e = .returned (.slice A l'.length c) ∧ l'.Perm (L.filter p) ∧ (l'.Pairwise fun x y => ltOf cf y x = false) ∧ RowE ElemL w w' (.slice A l'.length c) l' := by
  have HA := Lib.hid (collect_any h hL)
  clear h
  go_enter Tryz.func160, Tryz.ntmps160
  go_wp2_with fail
  refine HA.out.mono ?_
  rintro e w' ⟨A, c, l1, rfl, hp, hr⟩
  have hlen : l1.length ≤ 1000000 := by
    have h1 := hp.length_eq
    have h2 := List.length_filter_le p L
    omega
  have HS := Lib.hid (sortLs_any hs eg ht hr (by omega))
  have HP := Lib.hid hp
  clear hp hr
  go_wp2_with fail
  refine HS.out.mono ?_
  rintro e w3 ⟨rfl, l2, hp2, hs2, hr2⟩
  have HL := Lib.hid hp2.length_eq
  go_wp2
  go_ret
  rw [HL.out.symm]
  exact ⟨A, c, l2, rfl, hp2.trans HP.out, hs2, hr2⟩
end Go.Proofs.YtmaohnbddlccdaaGreat
end

/- The program's table: All, Of, Due. -/
section
namespace Go.Proofs.YtmaohnbddlccdaaGreat
open Go.RowKit Go.Sort Go.Maps Go.Shelf Go.Lib

theorem byaddr_tells : TellsL 161 #[] cmpA := fun x y W => (byaddr_any x y W).mono fun e w' h => ⟨h.1, 0, #[lbox x, lbox y], by rw [h.2, alloc_eq_grow, alloc_eq_grow, grow_grow]; rfl⟩
/-- The two boxes of the iterator, laid now. -/
theorem iter_made {w1 : World} {g b : Nat} {S : Nat → Prop} {L : List LV} {fc : FuncId} {bs : Array Value} {p : LV → Bool} (hb : w1.heap[g]? = some (.cells #[.map (some b)] 95 (0, 0))) (hM : KL.Has w1 b L)
    (ht : TestsL S ((w1.alloc (.cells #[.pointer (some ⟨g, 0, none⟩)] 37)).alloc (.cells #[.func (.func fc) #[] bs] 107)) fc bs p) (eg : ∀ args w, (callFunc fc args).run Tryz.prog w = .ok (.enter fc args) w) (hS : ∀ k, S k → k < w1.heap.size) :
    Iter ((w1.alloc (.cells #[.pointer (some ⟨g, 0, none⟩)] 37)).alloc (.cells #[.func (.func fc) #[] bs] 107)) w1.heap.size (w1.heap.size + 1) g b S L fc bs p where
  tests := ht
  eg := eg
  lt := fun k hk => by have := hS k hk; simp; omega
  b1 := (Boxed.new w1 _ _).alloc _
  b2 := by have := Boxed.new (w1.alloc (.cells #[.pointer (some ⟨g, 0, none⟩)] 37)) 107 (.func (.func fc) #[] bs); rwa [World.size_alloc] at this
  tb := by
    have h1 := (Below.heap_alloc w1 (.cells #[.pointer (some ⟨g, 0, none⟩)] 37) g (Array.getElem?_eq_some_iff.1 hb).1).trans hb
    exact (Below.heap_alloc _ _ g (Array.getElem?_eq_some_iff.1 h1).1).trans h1
  has := (hM.alloc _).alloc _

set_option maxRecDepth 100000 in
set_option maxHeartbeats 1000000 in
theorem tall_any {w : World} {Q : Nat → Prop} {g : Nat} {L : List LV} (h : TT w Q g L) : Calls Tryz.prog 121 #[.pointer (some ⟨g, 0, none⟩)] w (GivesE w L) := by
  obtain ⟨b, h1, h2, h3, h4, h5, rfl⟩ := h
  have HI := Lib.hid (iter_made (w1 := w) (S := fun _ => False) (fc := 162) (bs := #[]) (p := fun _ => true) h1 h2 (all1_tests _) (enters_of Tryz.func162 (by kernel_rfl) rfl) (fun k hk => hk.elim))
  have HT := Lib.hid h3
  obtain ⟨w2, hw2⟩ : ∃ w2, w2 = (w.alloc (.cells #[.pointer (some ⟨g, 0, none⟩)] 37)).alloc (.cells #[.func (.func 162) #[] #[]] 107) := ⟨_, rfl⟩
  have HB : Hid (Below w.heap.size w w2) := Lib.hid (by rw [hw2]; exact ((Below.refl _ w).alloc (Nat.le_refl _) _).alloc (by simp) _)
  rw [← hw2] at HI
  have HW2 := Lib.hid hw2
  have HS := Lib.hid (sortedF_any HI.out (by omega) swoA (enters_of Tryz.func161 (by kernel_rfl) rfl) byaddr_tells)
  clear h1 h2 h3 h5 hw2 HI
  go_enter Tryz.func121, Tryz.ntmps121
  go_wp2_with (go_at_call 157; refine (those_any _ _ _ _).mono ?_; rintro e w' ⟨rfl, rfl⟩; rw [← HW2.out])
  refine HS.out.mono ?_
  rintro e w3 ⟨A, c, l', rfl, hp, hs, hr⟩
  have HL : Hid (l' = L) := Lib.hid (addr_only HT.out.up (by rwa [List.filter_eq_self.2 (fun _ _ => rfl)] at hp) hs)
  have HR := Lib.hid (hr.base HB.out)
  have HC : Hid (l'.length ≤ c) := Lib.hid (by obtain ⟨_, _, e, hc, _⟩ := hr.form; injection e with _ _ e3; subst e3; exact hc)
  clear hp hs hr
  go_wp2
  go_ret
  exact ⟨A, c, l', rfl, HL, HR.out, HC.out⟩

set_option maxRecDepth 100000 in
set_option maxHeartbeats 1000000 in
theorem tof_any {w : World} {Q : Nat → Prop} {g : Nat} {L : List LV} (s : ByteArray) (h : TT w Q g L) : Calls Tryz.prog 117 #[.pointer (some ⟨g, 0, none⟩), .string s] w (GivesE w (ofL L s.data.toList)) := by
  obtain ⟨b, h1, h2, h3, h4, h5, rfl⟩ := h
  obtain ⟨w1, hw1⟩ : ∃ w1, w1 = w.alloc (.cells #[.string s] 9) := ⟨_, rfl⟩
  have hB1 : Below w.heap.size w w1 := by rw [hw1]; exact (Below.refl _ w).alloc (Nat.le_refl _) _
  have hz1 : w1.heap.size = w.heap.size + 1 := by rw [hw1]; simp
  have hb1 : Boxed w1 w.heap.size 9 (.string s) := by rw [hw1]; exact Boxed.new w _ _
  have hg1 := (hB1.block g (Array.getElem?_eq_some_iff.1 h1).1).trans h1
  have hM1 := h2.block (hB1.block b h2.lt)
  have hb2 : Boxed ((w1.alloc (.cells #[.pointer (some ⟨g, 0, none⟩)] 37)).alloc (.cells #[.func (.func 158) #[] #[.pointer (some ⟨w.heap.size, 0, none⟩)]] 107)) w.heap.size 9 (.string s) := Boxed.alloc (Boxed.alloc hb1 _) _
  have ht2 := of1_tests hb2
  have HI := Lib.hid (iter_made hg1 hM1 ht2 (enters_of Tryz.func158 (by kernel_rfl) rfl) (fun k hk => by rw [hk, hz1]; omega))
  have HT := Lib.hid h3
  obtain ⟨w2, hw2⟩ : ∃ w2, w2 = (w1.alloc (.cells #[.pointer (some ⟨g, 0, none⟩)] 37)).alloc (.cells #[.func (.func 158) #[] #[.pointer (some ⟨w.heap.size, 0, none⟩)]] 107) := ⟨_, rfl⟩
  have HB : Hid (Below w.heap.size w w2) := Lib.hid (by rw [hw2]; exact (hB1.alloc hB1.size _).alloc (by have := hB1.size; simp; omega) _)
  rw [← hw2] at HI
  have HW1 := Lib.hid hw1
  have HW2 := Lib.hid hw2
  have HS := Lib.hid (sortedF_any HI.out (by omega) swoA (enters_of Tryz.func161 (by kernel_rfl) rfl) byaddr_tells)
  clear h1 h2 h3 h5 hw1 hw2 HI hB1 hb1 hg1 hM1 hb2 ht2 hz1
  go_enter Tryz.func117, Tryz.ntmps117
  go_upto_region 1 with fail
  rw [← HW1.out]
  go_wp2_with (go_at_call 157; refine (those_any _ _ _ _).mono ?_; rintro e w' ⟨rfl, rfl⟩; rw [← HW2.out])
  refine HS.out.mono ?_
  rintro e w3 ⟨A, c, l', rfl, hp, hs, hr⟩
  have HL : Hid (l' = ofL L s.data.toList) := Lib.hid (addr_only (HT.out.up.filter _) hp hs)
  have HR := Lib.hid (hr.base HB.out)
  have HC : Hid (l'.length ≤ c) := Lib.hid (by obtain ⟨_, _, e, hc, _⟩ := hr.form; injection e with _ _ e3; subst e3; exact hc)
  clear hp hs hr
  go_wp2
  go_ret
  exact ⟨A, c, l', rfl, HL, HR.out, HC.out⟩

end Go.Proofs.YtmaohnbddlccdaaGreat
end

/- The program's table: New, Get, Set; all that is asked of it (table_any). -/
section
namespace Go.Proofs.YtmaohnbddlccdaaGreat
open Go.RowKit Go.Sort Go.Maps
attribute [local go_sem ↓] run_eqlL run_neqL run_guardL

section
variable {w w' : World} {Q : Nat → Prop} {g : Nat} {L : List LV}
theorem TT.lt (h : TT w Q g L) : ∀ k, Q k → k < w.heap.size := by
  obtain ⟨b, h1, h2, -, -, -, rfl⟩ := h
  rintro k (rfl | rfl)
  · exact (Array.getElem?_eq_some_iff.1 h1).1
  · exact h2.lt
theorem TT.keep (h : TT w Q g L) (hk : KpT Q w w') : TT w' Q g L := by
  obtain ⟨b, h1, h2, h3, h4, h5, rfl⟩ := h
  exact ⟨b, (hk.block g (.inl rfl)).trans h1, h2.block (hk.block b (.inr rfl)), h3, h4, h5, rfl⟩
end

theorem tget_end {w W : World} {g : Nat} {z m : LV} {k : Int} {t : Array Value} (hz : LBox W g z) (hB : Below w.heap.size w W) (hg : w.heap.size ≤ g) (h2 : t[4]?.getD undef = .pointer (some ⟨g, 0, none⟩)) (h3 : t[5]?.getD undef = .int .i64 k) :
    bodyPost Tryz.prog Tryz.f21 (fun e w' => e = .returned (.tuple #[m.v, .int .i64 k]) ∧ Below w.heap.size w w') .ret { tmps := t, defers := [] } (storeL W g m) := by
  refine bodyPost_ret (v := .tuple #[m.v, .int .i64 k]) ?_ ?_ ?_
  · obtain ⟨r0, r1, r2, r3, r4, r5, r6, r7⟩ := (storeL_box hz m).all
    simp [results, Tryz.f21, go_sem, h2, h3, r0, r1, r2, r3, r4, r5, r6, r7]
  · rfl
  · exact ⟨rfl, hB.trans (storeL_low W _ g hg m)⟩

set_option maxRecDepth 100000 in
set_option maxHeartbeats 1000000 in
theorem tget_any {w : World} {Q : Nat → Prop} {g : Nat} {L : List LV} (a : Nat) (h : TT w Q g L) (ha : a < 4294967296) :
    Calls Tryz.prog 21 #[.pointer (some ⟨g, 0, none⟩), .int .u32 (a : Int)] w fun e w' => e = .returned (.tuple #[(getL L a).1.v, .int .i64 (getL L a).2]) ∧ Below w.heap.size w w' := by
  obtain ⟨w1, hw1⟩ : ∃ w1, w1 = w.alloc (.cells #[.int .u32 0, .int .i64 0, .string ⟨#[]⟩, .int .i64 0, .int .i64 0, .int .i64 0, .int .i64 0, .int .i64 0] 42) := ⟨_, rfl⟩
  have HZ : Hid (LBox w1 w.heap.size zeroL) := Lib.hid (by rw [hw1]; exact LBox.new w zeroL)
  have hB1 : Below w.heap.size w w1 := by rw [hw1]; exact (Below.refl _ _).alloc (Nat.le_refl _) _
  obtain ⟨b, h1, h2, h3, h4, h5, rfl⟩ := h
  have hgl := (Array.getElem?_eq_some_iff.1 h1).1
  have HM := Lib.hid (h2.block (hB1.block b h2.lt))
  have c0 := cell_of_row w1 g 0 _ _ _ ((hB1.block g hgl).trans h1)
  simp at c0
  have HB1 := Lib.hid hB1
  have HW1 := Lib.hid hw1
  obtain ⟨hat, hcode⟩ := kl_get L a
  have HN : Hid ((getL L a).1 = zeroL ∨ KL.isM L (a : Int) = true) := Lib.hid (by
    rw [kl_is]
    unfold getL
    cases hf : L.find? fun y => y.addr == a with
    | none => exact .inl rfl
    | some x => exact .inr (List.any_eq_true.2 ⟨x, List.mem_of_find?_eq_some hf, List.find?_some (p := fun y : LV => y.addr == a) hf⟩))
  have hlk0 := HM.out.look_ok (a : Int) (wf_u32 ha)
  rw [hat] at hlk0
  obtain ⟨q, hq⟩ : ∃ q, q = (getL L a).1 := ⟨_, rfl⟩
  rw [← hq] at hlk0 HN ⊢
  obtain ⟨z0, z1, z2, z3, z4, z5, z6, z7⟩ := (HZ.out.alloc (lbox q)).all
  obtain ⟨f0, f1, f2, f3, f4, f5, f6, f7⟩ := (HZ.out.alloc (lbox q)).allF
  clear hw1 hB1 h1 h2 hat hq
  cases hi : KL.isM L (a : Int) with
  | false =>
    rw [hi, if_neg (by simp)] at hcode
    rw [hi] at hlk0 HN
    rw [hcode]
    have hlk : (Instr.lookup 93 (.map (some b)) (.int .u32 (a : Int)) true).run Tryz.prog w1 = .ok (.tuple #[q.v, .bool false]) w1 := hlk0
    have HQ : Hid (zeroL = q) := Lib.hid (HN.out.elim (fun e => e.symm) (fun e => by cases e))
    clear hcode hi hlk0 HN
    go_enter Tryz.func21, Tryz.ntmps21
    go_upto_region 1 with fail
    rw [← HW1.out]
    go_wp2
    have hq := HQ.out
    subst hq
    refine tget_end (w := w) (W := w1.alloc (lbox zeroL)) (g := w.heap.size) (z := zeroL) (m := zeroL) (k := 4) (HZ.out.alloc _) (HB1.out.alloc HB1.out.size _) (Nat.le_refl _) ?_ ?_ <;> rfl
  | true =>
    rw [hi, if_pos rfl] at hcode
    rw [hi] at hlk0
    rw [hcode]
    have hlk : (Instr.lookup 93 (.map (some b)) (.int .u32 (a : Int)) true).run Tryz.prog w1 = .ok (.tuple #[q.v, .bool true]) w1 := hlk0
    clear hcode hi hlk0 HN
    go_enter Tryz.func21, Tryz.ntmps21
    go_upto_region 1 with fail
    rw [← HW1.out]
    go_wp2
    refine tget_end (w := w) (W := w1.alloc (lbox q)) (g := w.heap.size) (z := zeroL) (m := q) (k := 0) (HZ.out.alloc _) (HB1.out.alloc HB1.out.size _) (Nat.le_refl _) ?_ ?_ <;> rfl

theorem OthT.of_below {Q : Nat → Prop} {w w' : World} (h : Below w.heap.size w w') : OthT Q w w' := ⟨h.os, h.tape, h.output, h.size, fun k hk _ => h.block k hk⟩

set_option maxRecDepth 100000 in
set_option maxHeartbeats 1000000 in
theorem tset_any {w : World} {Q : Nat → Prop} {g : Nat} {L : List LV} (x : LV) (h : TT w Q g L) (hx : x.addr < 4294967296) :
    Calls Tryz.prog 28 #[.pointer (some ⟨g, 0, none⟩), x.v] w fun e w' => ∃ Q', e = .returned (.int .i64 (setL L x).2) ∧ TT w' Q' g (setL L x).1 ∧ OthT Q w w' ∧ ∀ k, Q' k → Q k ∨ w.heap.size ≤ k := by
  obtain ⟨w1, hw1⟩ : ∃ w1, w1 = w.alloc (lbox x) := ⟨_, rfl⟩
  have HX : Hid (LBox w1 w.heap.size x) := Lib.hid (by rw [hw1]; exact LBox.new w x)
  have hB1 : Below w.heap.size w w1 := by rw [hw1]; exact (Below.refl _ _).alloc (Nat.le_refl _) _
  have HT := Lib.hid h
  have HB1 := Lib.hid hB1
  have HW1 := Lib.hid hw1
  have HR := Lib.hid (fun W => right_any x W)
  clear hw1 hB1 h
  obtain ⟨c0, c1, c2, c3, c4, c5, c6, c7⟩ := HX.out.all
  by_cases hr : RightL x
  rotate_left
  · have hS : setL L x = (L, 1) := by unfold setL; rw [if_neg hr]
    rw [hS]
    rw [decide_eq_false hr] at HR
    clear hr hS
    go_enter Tryz.func28, Tryz.ntmps28
    go_wp2_with fail
    rw [← HW1.out]
    refine (HR.out _).mono ?_
    rintro e w2 ⟨rfl, hB2⟩
    have hB3 := HB1.out.trans (hB2.mono HB1.out.size)
    go_wp2
    go_ret
    exact ⟨Q, rfl, HT.out.keep (KpT.of_below hB3 HT.out.lt), OthT.of_below hB3, fun k hk => .inl hk⟩
  · rw [decide_eq_true hr] at HR
    obtain ⟨hs1, hs2⟩ := kl_set (by obtain ⟨_, _, _, h, _⟩ := HT.out; exact h) x hr
    obtain ⟨-, hcode⟩ := kl_get L x.addr
    have HS1 := Lib.hid hs1
    have HS2 := Lib.hid hs2
    have HCO := Lib.hid hcode
    clear hr hs1 hs2 hcode
    go_enter Tryz.func28, Tryz.ntmps28
    go_wp2_with fail
    rw [← HW1.out]
    refine (HR.out _).mono ?_
    rintro e w2 ⟨rfl, hB2⟩
    have HX2 := Lib.hid (HX.out.later hB2)
    have hB3 := HB1.out.trans (hB2.mono HB1.out.size)
    have hT2 := HT.out.keep (KpT.of_below hB3 HT.out.lt)
    have HGET := Lib.hid (tget_any x.addr hT2 hx)
    have HB3 := Lib.hid hB3
    have HT2 := Lib.hid hT2
    clear hB2 hB3 hT2 c0 c1 c2 c3 c4 c5 c6 c7
    obtain ⟨c0, c1, c2, c3, c4, c5, c6, c7⟩ := HX2.out.all
    generalize (getL L x.addr).1 = q at HGET
    cases hi : KL.isM L (x.addr : Int) with
    | false =>
      have hco := HCO.out
      rw [hi, if_neg (by simp)] at hco
      rw [hco] at HGET
      have HSS := Lib.hid (HS2.out hi)
      clear hi hco HCO HS1 HS2
      go_wp2_with fail
      refine HGET.out.mono ?_
      rintro e w3 ⟨rfl, hB4⟩
      have HB4 := Lib.hid (((HB3.out.trans (hB4.mono HB3.out.size)).alloc (by have := hB4.size; have := HB3.out.size; omega) (lbox q)))
      clear hB4 c0 c1 c2 c3 c4 c5 c6 c7
      go_wp2
      go_ret
      rw [HSS.out]
      exact ⟨Q, rfl, HT.out.keep (KpT.of_below HB4.out HT.out.lt), OthT.of_below HB4.out, fun k hk => .inl hk⟩
    | true =>
      have hco := HCO.out
      rw [hi, if_pos rfl] at hco
      rw [hco] at HGET
      have HSS := Lib.hid (HS1.out hi)
      clear hi hco HCO HS1 HS2
      go_wp2_with fail
      refine HGET.out.mono ?_
      rintro e w3 ⟨rfl, hB4⟩
      obtain ⟨w4, hw4⟩ : ∃ w4, w4 = w3.alloc (lbox q) := ⟨_, rfl⟩
      have hB5 : Below w2.heap.size w2 w4 := by rw [hw4]; exact hB4.alloc hB4.size _
      have HX4 := Lib.hid (HX2.out.later hB5)
      have HB5 := Lib.hid (HB3.out.trans (hB5.mono HB3.out.size))
      have hT4 := HT2.out.keep (KpT.of_below hB5 HT2.out.lt)
      have HLT := Lib.hid HT.out.lt
      have HW4 := Lib.hid hw4
      clear hB4 hB5 hw4 c0 c1 c2 c3 c4 c5 c6 c7
      obtain ⟨b, h1, h2, h3, h4, h5, hQ⟩ := hT4
      have HG := Lib.hid h1
      have HM := Lib.hid h2
      have HL := Lib.hid (And.intro h3 (And.intro h4 h5))
      have HQ := Lib.hid hQ
      have d0 := cell_of_row w4 g 0 _ _ _ HG.out
      simp at d0
      clear h1 h2 h3 h4 h5 hQ
      obtain ⟨c0, c1, c2, c3, c4, c5, c6, c7⟩ := HX4.out.all
      have HSL : Hid (L.length < maxLen) := Lib.hid (by have := HL.out.2.1; unfold maxLen; omega)
      obtain ⟨w5, k3, hM5, hg5⟩ := HM.out.drew.store HSL.out x (wf_u32 hx)
      have k4 : (Instr.mapUpdate 93 (.map (some b)) (.int .u32 (x.addr : Int)) x.v).run Tryz.prog w4.drew = .ok () w5 := k3
      have HM5 := Lib.hid hM5
      have HG5 := Lib.hid hg5
      clear k3 hM5 hg5
      go_upto_region 4 with fail
      rw [← HW4.out]
      go_wp2_with fail
      go_region
      all_goals
        clear k4
        go_wp2
        go_ret
        rw [HSS.out]
        refine ⟨Q, rfl, ?_, ?_, fun k hk => .inl hk⟩
        · obtain ⟨l1, l2, l3⟩ := HL.out
          have hs := HSS.out
          have e1 : KL.putM L x = (setL L x).1 := by rw [hs]
          have hne : g ≠ b := by
            intro e
            obtain ⟨⟨es, clock, hb, _⟩, _⟩ := HM.out
            have := HG.out
            rw [e, hb] at this
            cases this
          refine ⟨b, (HG5.out.block g (Array.getElem?_eq_some_iff.1 HG.out).1 (fun e => hne (Option.some.inj e))).trans HG.out, HM5.out, ?_, ?_, ?_, HQ.out⟩
          · show TabL (KL.putM L x)
            rw [e1]
            exact setL_tab l1 x
          · show (KL.putM L x).length ≤ 256
            rw [e1, setL_len]
            exact l2
          · show ∀ y ∈ KL.putM L x, y.addr < 4294967296
            rw [e1]
            intro y hy
            rcases setL_mem hy with h | h
            · exact l3 y h
            · rw [h]
              exact hx
        · have h1 := HB5.out
          have h2 := HG5.out
          refine ⟨h2.os.trans h1.os, h2.tape.trans h1.tape, h2.output.trans h1.output, Nat.le_trans h1.size h2.size, fun k hk hn => (h2.block k (Nat.lt_of_lt_of_le hk h1.size) (fun e => hn ?_)).trans (h1.block k hk)⟩
          rw [HQ.out]
          exact .inr (Option.some.inj e)

set_option maxRecDepth 100000 in
set_option maxHeartbeats 2000000 in
theorem tnew_any (A : Option Addr) (c : Nat) (l : List (Nat × Nat)) (w : World) (hr : Rg w w.heap.size A l) (hl : l.length ≤ 1000) :
    Calls Tryz.prog 25 #[.slice A l.length c] w fun e w' => ∃ ol code, PoolRes l ol code ∧ Below w.heap.size w w' ∧ ((code ≠ 0 ∧ e = .returned (.tuple #[.pointer none, .int .i64 code])) ∨ (code = 0 ∧ ∃ P g L, e = .returned (.tuple #[.pointer (some ⟨g, 0, none⟩), .int .i64 0]) ∧ Hid (L = newL (addrsOf ol)) ∧ TT w' P g L ∧ ∀ k, P k → w.heap.size ≤ k)) := by
  have HP := Lib.hid (pool_any A c l w hr (by omega))
  clear hr
  have hmm := @run_makeMap Tryz.prog
  go_enter Tryz.func25, Tryz.ntmps25
  go_wp2_with fail
  refine HP.out.mono ?_
  rintro e w1 ⟨ol, code, p, cap, rfl, hres, hR1, hB1⟩
  have HRES := Lib.hid hres
  have HR1 := Lib.hid hR1
  have HB1 := Lib.hid hB1
  clear hR1 hB1 hres
  by_cases hc : code = 0
  rotate_left
  · have hd : (code != 0) = true := by simpa using hc
    have HC := Lib.hid hc
    clear hc
    go_wp2
    go_ret2
    exact ⟨ol, code, HRES.out, HB1.out, .inl ⟨HC.out, rfl⟩⟩
  subst hc
  obtain ⟨hcan, h256, -⟩ := pool_ok HRES.out
  have hol : ol.length ≤ 256 := Nat.le_trans (canon_len ol hcan) h256
  have HS := Lib.hid hcan.sorted
  have HW32 : Hid (∀ a ∈ addrsOf ol, a < 4294967296) := Lib.hid (fun a ha => by
    obtain ⟨x, hx, h1, h2⟩ := mem_addrs.1 ha
    have := (HR1.out.w32 x hx).2
    omega)
  obtain ⟨ks, hks⟩ : ∃ ks, ks = addrsOf ol := ⟨_, rfl⟩
  rw [← hks] at HS HW32
  have HKS := Lib.hid hks
  have hkl : ks.length ≤ 256 := by rw [hks]; exact h256
  obtain ⟨w2, hw2⟩ : ∃ w2, w2 = w1.alloc (.map #[] 0) := ⟨_, rfl⟩
  have HM2 : Hid (KL.Has w2 w1.heap.size []) := Lib.hid (by rw [hw2]; exact MapKd.Has.made w1)
  have HB2 : Hid (Below w1.heap.size w1 w2) := Lib.hid (by rw [hw2]; exact (Below.refl _ _).alloc (Nat.le_refl _) _)
  have HW2 := Lib.hid hw2
  have HRr := Lib.hid (fun (W : World) (hb : Below w1.heap.size w1 W) => ((HR1.out.below hb).more hb.size : Rg W W.heap.size p ol))
  have HCNT := Lib.hid (fun (W : World) (hb : Below w1.heap.size w1 W) => count_any p cap ol (by omega) W (HRr.out W hb))
  have hmin : min 257 ks.length = ks.length := by omega
  rw [← HKS.out, hmin] at HCNT
  clear hcan h256 hks hw2 hmin
  go_upto_region 5 with fail
  rw [← HW2.out]
  go_wp2_with fail
  refine (HCNT.out w2 HB2.out).mono ?_
  rintro e w3 ⟨rfl, hB3⟩
  have HM3 := Lib.hid (HM2.out.block (hB3.block _ HM2.out.lt))
  have HB3 := Lib.hid (HB2.out.trans (hB3.mono HB2.out.size))
  clear hB3
  go_wp2_with fail
  go_loopw [7, 8, 9, 21] (fun _ _ _ i wr => ∃ j : Nat, j ≤ ks.length ∧ i = .int .i64 j ∧ Hid (KL.Has wr w1.heap.size (newL (ks.take j))) ∧ Hid (Below w1.heap.size w1 wr)) (fun _ _ _ i _ => ks.length - (intOf i).toNat)
  case atStart => exact ⟨0, Nat.zero_le _, rfl, HM3, HB3⟩
  case round =>
    obtain ⟨j, hj, rfl, HM, HB⟩ := hrel
    by_cases hlt : j < ks.length
    · obtain ⟨a, ha⟩ : ∃ a, ks[j]? = some a := ⟨_, List.getElem?_eq_getElem hlt⟩
      have HAT := Lib.hid (at_any p cap ol (j : Int) (by omega) wr (HRr.out wr HB.out))
      have htk : ks.take 257 = ks := List.take_of_length_le (by omega)
      rw [← HKS.out, htk, atL_at ha] at HAT
      have HA := Lib.hid ha
      have HBA := Lib.hid (fun W => bare_any a 0 0 W)
      have ha32 := HW32.out a (List.mem_of_getElem? ha)
      clear ha htk
      go_wp2_with fail
      refine HAT.out.mono ?_
      rintro e w4 ⟨rfl, hB4⟩
      have HM4 := Lib.hid (HM.out.block (hB4.block _ HM.out.lt))
      have HB4 := Lib.hid (HB.out.trans (hB4.mono HB.out.size))
      have HLL : Hid ((newL (ks.take j)).length < maxLen) := Lib.hid (by unfold newL maxLen; rw [List.length_map, List.length_take]; omega)
      clear hB4 HAT
      go_wp2_with fail
      refine (HBA.out _).mono ?_
      rintro e w6 ⟨rfl, hB6⟩
      have HM6 := Lib.hid (HM4.out.block (hB6.block _ HM4.out.lt))
      have HB6 := Lib.hid (HB4.out.trans (hB6.mono HB4.out.size))
      obtain ⟨w7, k7, hM7, hg7⟩ := HM6.out.store HLL.out (bareL a 0 0) (wf_u32 ha32)
      have k8 : (Instr.mapUpdate 93 (.map (some w1.heap.size)) (.int .u32 (a : Int)) (bareL a 0 0).v).run Tryz.prog w6 = .ok () w7 := k7
      have HG7 := Lib.hid hg7
      have HB7 := Lib.hid (HB6.out.grown HG7.out HB6.out.size (fun k e => by injection e with e; exact Nat.le_of_eq e))
      have hput : KL.putM (newL (ks.take j)) (bareL a 0 0) = newL (ks.take (j + 1)) := by
        rw [newL_snoc ks j a HA.out]
        refine MapKd.putM_last (K := KL) _ _ fun y hy => ?_
        unfold newL at hy
        obtain ⟨a2, h2, rfl⟩ := List.mem_map.1 hy
        obtain ⟨i, hi⟩ := List.mem_iff_getElem?.1 h2
        rw [List.getElem?_take] at hi
        split at hi
        · rename_i hij
          have hp := List.pairwise_iff_getElem.1 HS.out
          obtain ⟨q1, q2⟩ := List.getElem?_eq_some_iff.1 hi
          obtain ⟨r1, r2⟩ := List.getElem?_eq_some_iff.1 HA.out
          have := hp i j q1 r1 hij
          rw [q2, r2] at this
          exact Int.ofNat_lt.2 this
        · cases hi
      have HM8 : Hid (KL.Has w7 w1.heap.size (newL (ks.take (j + 1)))) := Lib.hid (by rw [← hput]; exact hM7)
      clear k7 hM7 hg7 hB6 hput
      go_wp2
      go_roundw
      case rel => exact ⟨j + 1, by omega, by go_num, HM8, HB7⟩
      case measure => simp [intOf]; omega
    · obtain rfl : j = ks.length := by omega
      have HD2 : Hid (KL.Has wr w1.heap.size (newL ks)) := Lib.hid (by have := HM.out; rwa [List.take_of_length_le (Nat.le_refl _)] at this)
      go_wp2
      go_ret2
      refine ⟨ol, 0, HRES.out, HB1.out.trans ((HB.out.alloc HB.out.size _).mono HB1.out.size), .inr ⟨rfl, (fun k => k = wr.heap.size ∨ k = w1.heap.size), wr.heap.size, newL ks, rfl, Lib.hid (by rw [HKS.out]), ⟨w1.heap.size, heap_alloc_new wr _, HD2.out.alloc _, new_tab HS.out, by unfold newL; rw [List.length_map]; exact hkl, ?_, rfl⟩, ?_⟩⟩
      · intro x hx
        obtain ⟨a, ha, rfl⟩ := List.mem_map.1 hx
        exact HW32.out a ha
      · have := HB1.out.size
        have := HB.out.size
        rintro k (rfl | rfl) <;> omega

theorem table_any : TabK TT where
  tab := fun h => by obtain ⟨_, _, _, h3, _⟩ := h; exact h3
  few := fun h => by obtain ⟨_, _, _, _, h4, _⟩ := h; exact h4
  w32 := fun h => by obtain ⟨_, _, _, _, _, h5, _⟩ := h; exact h5
  lt := fun h => h.lt
  keep := fun h hk => h.keep hk
  new := tnew_any
  set := fun x h hx => tset_any x h hx
  get := fun a h ha => tget_any a h ha
  all := fun h => tall_any h
  of_ := fun s h => tof_any s h
end Go.Proofs.YtmaohnbddlccdaaGreat
end
