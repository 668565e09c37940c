/- addr.numbered: the addresses of a list of ranges, one by one, each behind its number. -/
import Derived.Test.YtjkkdmfpekkfhaaAddrJ
import Derived.RangeFuncNested
import Derived.RangeFuncBound
import Derived.RangeFuncCalls
import Derived.RangeFuncLeaves
import Derived.Shelf.Abstract
import Derived.Shelf.RegionOpen
import Derived.OwnWalkIn
import Derived.TacticsInMore
import Derived.LoopNIn
import Derived.LoopIn
namespace Go.Proofs.Ytjkkdmfpekkfhaa
open Go.RowKit Go.Shelf
attribute [local go_sem] Oper.semAt_some

/-- The addresses from one on, up to another one, without it. -/
def seg (lo hi : Nat) : List Nat := (List.range (hi - lo)).map (lo + ·)
theorem seg_succ {lo hi : Nat} (h : lo ≤ hi) : seg lo (hi + 1) = seg lo hi ++ [hi] := by
  unfold seg
  rw [show hi + 1 - lo = (hi - lo) + 1 by omega, List.range_succ, List.map_append]
  simp
  omega
theorem seg_self (lo : Nat) : seg lo lo = [] := by simp [seg]
theorem seg_none {lo hi : Nat} (h : hi ≤ lo) : seg lo hi = [] := by simp [seg, show hi - lo = 0 by omega]
theorem seg_length (lo hi : Nat) : (seg lo hi).length = hi - lo := by simp [seg]

/-- All addresses of a list of ranges, in its order. -/
def addrsOf (l : List (Nat × Nat)) : List Nat := l.flatMap fun x => seg x.1 (x.2 + 1)
theorem addrsOf_snoc (l : List (Nat × Nat)) (x : Nat × Nat) : addrsOf (l ++ [x]) = addrsOf l ++ seg x.1 (x.2 + 1) := by simp [addrsOf]

/-- Each behind its number. -/
def num (av : List Nat) : List (Nat × Nat) := av.zipIdx.map fun p => (p.2, p.1)
theorem num_snoc (av : List Nat) (a : Nat) : num (av ++ [a]) = num av ++ [(av.length, a)] := by simp [num, List.zipIdx_append]
theorem num_length (av : List Nat) : (num av).length = av.length := by simp [num]

/-- What a round keeps: what lay below n, and cells from M on. -/
def Keep (n M : Nat) (W W' : World) : Prop := Below n W W' ∧ ∀ k c t f, M ≤ k → W.heap[k]? = some (.cells c t f) → W'.heap[k]? = some (.cells c t f)
theorem keep_t {n M : Nat} {A B C : World} (h : Keep n M A B) (k : Keep n M B C) : Keep n M A C := ⟨h.1.trans k.1, fun i c t f hi hc => k.2 i c t f hi (h.2 i c t f hi hc)⟩
theorem keep_b {n M : Nat} {w : World} (hn : n ≤ w.heap.size) (W : World) (l : Nat) (o o' : Obj) (hl : w.heap.size ≤ l) (h : W.heap[l]? = some o) (h1 : o.isCells = false) (h2 : o.isWalk = false) : Keep n M W (W.putObj l o') := by
  refine ⟨belowK_b hn W l o o' hl h h1 h2, fun k c t f _ hc => ?_⟩
  have hne : k ≠ l := by
    rintro rfl
    rw [h] at hc
    cases hc
    simp [Obj.isCells] at h1
  exact (World.putObj_heap_other hne).trans hc
theorem Keep.refl (n M : Nat) (W : World) : Keep n M W W := ⟨Below.refl _ _, fun _ _ _ _ _ h => h⟩
theorem Keep.setCell {n M : Nat} (W : World) {p : Addr} (h1 : n ≤ p.block) (h2 : p.block < M) (v : Value) : Keep n M W (W.setCell p v) :=
  ⟨(Below.refl n W).setCell h1 v, fun k c t f hk hc => (Below.heap_setCell W p v k (by omega)).trans hc⟩

/-- Where the inner loop stands. -/
structure At (base : List Nat) (x : Nat × Nat) (av : List Nat) (ad : Nat) : Prop where
  lo : x.1 ≤ ad
  hi : ad ≤ x.2 + 1 ∨ ad = x.1
  eq : av = base ++ seg x.1 ad

theorem at_start (base : List Nat) (x : Nat × Nat) : At base x base x.1 := ⟨Nat.le_refl _, .inr rfl, by rw [seg_self, List.append_nil]⟩
theorem at_next {base : List Nat} {x : Nat × Nat} {av : List Nat} {ad : Nat} (h : At base x av ad) (hle : ad ≤ x.2) : At base x (av ++ [ad]) (ad + 1) :=
  ⟨by have := h.lo; omega, .inl (by omega), by rw [seg_succ h.lo, h.eq, List.append_assoc]⟩
theorem at_end {base : List Nat} {x : Nat × Nat} {av : List Nat} {ad : Nat} (h : At base x av ad) (hgt : x.2 < ad) : av = base ++ seg x.1 (x.2 + 1) := by
  rcases h.hi with hh | hh
  · rw [h.eq, show ad = x.2 + 1 by omega]
  · rw [h.eq, hh, seg_self, seg_none (by omega)]
theorem seg_prefix {lo hi m : Nat} (h : hi ≤ m) : seg lo hi <+: seg lo m := by
  have e : seg lo hi = (seg lo m).take (hi - lo) := by
    unfold seg
    rw [← List.map_take, List.take_range, show min (hi - lo) (m - lo) = hi - lo by omega]
  rw [e]
  exact List.take_prefix _ _
theorem addrsOf_take (l : List (Nat × Nat)) (i : Nat) (x : Nat × Nat) (h : l[i]? = some x) : addrsOf (l.take (i + 1)) = addrsOf (l.take i) ++ seg x.1 (x.2 + 1) := by
  rw [take_snoc_of l i x h, addrsOf_snoc]
theorem addrsOf_take_prefix (l : List (Nat × Nat)) (i : Nat) : addrsOf (l.take i) <+: addrsOf l := by
  refine ⟨addrsOf (l.drop i), ?_⟩
  unfold addrsOf
  rw [← List.flatMap_append, List.take_append_drop]
theorem at_prefix {l : List (Nat × Nat)} {i : Nat} {x : Nat × Nat} {av : List Nat} {ad : Nat} (hx : l[i]? = some x) (h : At (addrsOf (l.take i)) x av ad) (hle : ad ≤ x.2) : av ++ [ad] <+: addrsOf l := by
  have h1 := at_next h hle
  rw [h1.eq]
  refine .trans ?_ (addrsOf_take_prefix l (i + 1))
  rw [addrsOf_take l i x hx]
  exact (List.prefix_append_right_inj _).2 (seg_prefix (by omega))
theorem take_of_prefix {av bs : List Nat} (h : av <+: bs) (k : Nat) (hk : av.length = k) : bs.take k = av := by
  obtain ⟨r, rfl⟩ := h
  subst hk
  simp

theorem cell_of_obj {w : World} {g : Nat} {cs : Array Value} {t : TypeId} (h : w.heap[g]? = some (.cells cs t (0, 0))) (i : Nat) : w.cell? ⟨g, i, none⟩ = cs[i]? := by simp [World.cell?, h]

set_option maxRecDepth 100000 in
set_option maxHeartbeats 2000000 in
theorem numbered1_in (F : Fence) (n : Nat) (h7 : F.fn 70) (hro : F.round = none) (hn : 1 ≤ n) (lp Bs n₀ M : Nat) (A : Option Addr) (cap : Nat) (l : List (Nat × Nat)) (hreach : l.length * 8 ≤ 140737488351232) (J Jx : List (Nat × Nat) → World → Prop)
    (W : World) (hM : M ≤ W.heap.size) (hn₀ : n₀ ≤ W.heap.size) (hJa : AbidesFrom W.heap.size J)
    (hY : ∀ pre x W, J pre W → pre.length < 257 → YieldAt F (n - 1) Try.prog lp #[.int .i64 (x.1 : Int), .int .u32 (x.2 : Int)] W fun e W' =>
      (e = .returned (.bool true) ∧ J (pre ++ [x]) W' ∧ Keep n₀ M W W') ∨ (e = .returned (.bool false) ∧ Jx (pre ++ [x]) W'))
    (hBs : W.cell? ⟨Bs, 0, none⟩ = some (.slice A l.length cap)) (hR : Rg W n₀ A l) (h0 : J [] W) :
    CallsIn F n Try.prog 70 #[.func (.yield lp) #[] #[], .pointer (some ⟨Bs, 0, none⟩)] W fun e W' => (∃ v, e = .returned v) ∧
      ((∃ ys, ys = num ((addrsOf l).take 257) ∧ J ys W') ∨ (∃ pre, (∃ av, av <+: (addrsOf l).take 257 ∧ pre = num av) ∧ Jx pre W')) := by
  refine callsIn_of_wp Try.func70 rfl h7 ?_ hro
  simp only [Try.ntmps70, List.size_toArray, List.length_cons, List.length_nil, Nat.reduceAdd, Nat.reduceSub, Array.replicate_succ, Array.replicate_zero, List.push_toArray, List.append_toArray, List.nil_append, List.cons_append]
  gi_wp2
  gi_loopw [3, 9] (fun nv iv wr => ∃ i : Nat, i ≤ l.length ∧ iv = .int .i64 i ∧ nv = .int .i64 ((addrsOf (l.take i)).length : Nat) ∧ (addrsOf (l.take i)).length ≤ 257 ∧ J (num (addrsOf (l.take i))) wr ∧ Below n₀ W wr ∧ W.heap.size ≤ wr.heap.size)
    (fun _ iv _ => l.length - (intOf iv).toNat)
  case atStart => exact ⟨0, Nat.zero_le _, rfl, rfl, by simp [addrsOf], h0, Below.refl _ _, Nat.le_refl _⟩
  case round =>
    obtain ⟨i, hi, rfl, rfl, h257, hJs, hB, hsz⟩ := hrel
    by_cases hlt : i < l.length
    · obtain ⟨x, hx⟩ : ∃ x, l[i]? = some x := ⟨_, List.getElem?_eq_getElem hlt⟩
      have hxx := hR.w32 x (List.mem_of_getElem? hx)
      obtain ⟨b, o, rfl, hb, hc1, hc2⟩ := (hR.below hB).at_ i x hx
      have HX := Lib.hid hx
      have HR := Lib.hid hR
      clear hx hR
      generalize hbase : addrsOf (l.take i) = base at *
      have HB := Lib.hid hbase
      clear hbase
      gi_wp2
      obtain ⟨w2, hw2⟩ : ∃ w2, w2 = wr.alloc (.cells #[.int .u32 x.1, .int .u32 x.2] 60) := ⟨_, rfl⟩
      rw [← hw2]
      have hJ2 : J (num base) w2 := by rw [hw2]; exact hJa _ _ _ none hJs (World.grownBy_alloc wr _ none) (fun r e => by cases e)
      have hB2 : Below n₀ W w2 := by rw [hw2]; exact hB.trans ((Below.refl _ wr).alloc (by omega) _)
      have hx2 : w2.heap[wr.heap.size]? = some (.cells #[.int .u32 x.1, .int .u32 x.2] 60 (0, 0)) := by rw [hw2]; exact World.alloc_heap_new wr _
      have hs2 : W.heap.size ≤ w2.heap.size := by rw [hw2]; simp; omega
      have hMb : M ≤ wr.heap.size := by omega
      clear hw2 hJs hc1 hc2 hB hsz
      generalize wr.heap.size = bx at *
      clear wr
      gi_loopw [3, 6] (fun nv av wq => ∃ (av' : List Nat) (ad : Nat), nv = .int .i64 (av'.length : Nat) ∧ av = .int .u64 ad ∧ At base x av' ad ∧ av'.length ≤ 257 ∧ J (num av') wq ∧ Below n₀ W wq ∧ W.heap.size ≤ wq.heap.size ∧ wq.heap[bx]? = some (.cells #[.int .u32 x.1, .int .u32 x.2] 60 (0, 0)))
        (fun _ av _ => x.2 + 1 - (intOf av).toNat)
      case atStart => exact ⟨base, x.1, rfl, rfl, at_start base x, h257, hJ2, hB2, hs2, hx2⟩
      case round =>
        obtain ⟨av, ad, rfl, rfl, hat, hl257, hJw, hBw, hsw, hbx⟩ := hrel
        have hb1 := cell_of_obj hbx 0
        have hb2 := cell_of_obj hbx 1
        have hlo := hat.lo
        have hhi := hat.hi
        by_cases hle : ad ≤ x.2
        · by_cases hm : av.length ≤ 256
          · obtain ⟨fn, tmps, assign, body, hy, hRr⟩ := hY _ (av.length, ad) wr hJw (by rw [num_length]; omega)
            dsimp only at hy
            have hwu : IntKind.u32.wrap (ad : Int) = ad := by simp [IntKind.wrap, IntKind.bits, IntKind.signed]; omega
            have hd : decide ((256 : Int) < (av.length : Int)) = false := by simp; omega
            gi_wp2
            refine hRr.mono ?_
            clear hRr hy
            rintro e W3 (⟨rfl, hJ3, hk3⟩ | ⟨rfl, hJx3⟩)
            · have hbx3 := hk3.2 bx _ _ _ hMb hbx
              gi_wp2
              go_roundw
              case rel => exact ⟨av ++ [ad], ad + 1, by simp, by go_num, at_next hat hle, by simp; omega, by rw [num_snoc]; exact hJ3, hBw.trans hk3.1, Nat.le_trans hsw hk3.1.size, hbx3⟩
              case measure => simp [intOf]; omega
            · gi_wp2
              refine bodyPost_ret (results_none rfl _ _ _) rfl ?_
              refine ⟨⟨_, rfl⟩, .inr ⟨_, ⟨av ++ [ad], ?_, (num_snoc _ _).symm⟩, hJx3⟩⟩
              have hpre : av ++ [ad] <+: addrsOf l := at_prefix HX.out (by rw [HB.out]; exact hat) hle
              rw [← take_of_prefix hpre (av.length + 1) (by simp)]
              exact List.take_prefix_take_left (by omega)
          · have hd : decide ((256 : Int) < (av.length : Int)) = true := by simp; omega
            gi_wp2
            refine ⟨fun _ h => (by cases h), ?_⟩
            gi_wp2
            refine bodyPost_ret (results_none rfl _ _ _) rfl ?_
            refine ⟨⟨_, rfl⟩, .inl ⟨num av, ?_, hJw⟩⟩
            have hpre : av ++ [ad] <+: addrsOf l := at_prefix HX.out (by rw [HB.out]; exact hat) hle
            rw [take_of_prefix ((List.prefix_append av [ad]).trans hpre) 257 (by omega)]
        · gi_wp2
          go_roundw
          case rel =>
            have e : addrsOf (l.take (i + 1)) = av := by rw [addrsOf_take l i x HX.out, HB.out]; exact (at_end hat (by omega)).symm
            exact ⟨i + 1, by omega, by go_num, by rw [e], by rw [e]; exact hl257, by rw [e]; exact hJw, hBw, hsw⟩
          case measure => simp [intOf]; omega
    · obtain rfl : i = l.length := by omega
      gi_wp2
      go_end0
      rw [List.take_length] at *
      exact ⟨⟨_, rfl⟩, .inl ⟨_, by rw [List.take_of_length_le h257], hJs⟩⟩

end Go.Proofs.Ytjkkdmfpekkfhaa
