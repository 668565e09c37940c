/- Joined texts: AddrN, AddrC, AddrP, AddrM. -/
import Derived.Test.YtmaohnbddlccdaaGreatMrgAddrJ
import Derived.RangeFuncNested
import Derived.RangeFuncBound
import Derived.RangeFuncCalls
import Derived.RangeFuncLeaves
import Derived.Shelf.Abstract
import Derived.Shelf.RegionOpen
import Derived.OwnWalkIn
import Derived.TacticsInMore
import Derived.LoopNIn
import Derived.LoopIn
import Derived.Test.YtmaohnbddlccdaaGreatMrgAddrS

/- addr.numbered: the addresses of a list of ranges, one by one, each behind its number. -/
section
namespace Go.Proofs.YtmaohnbddlccdaaGreat
open Go.RowKit Go.Shelf
attribute [local go_sem] Oper.semAt_some

/-- The addresses from one on, up to another one, without it. -/
def seg (lo hi : Nat) : List Nat := (List.range (hi - lo)).map (lo + ·)
theorem seg_succ {lo hi : Nat} (h : lo ≤ hi) : seg lo (hi + 1) = seg lo hi ++ [hi] := by
  unfold seg
  rw [show hi + 1 - lo = (hi - lo) + 1 by omega, List.range_succ, List.map_append]
  simp
  omega
theorem seg_self (lo : Nat) : seg lo lo = [] := by simp [seg]
theorem seg_none {lo hi : Nat} (h : hi ≤ lo) : seg lo hi = [] := by simp [seg, show hi - lo = 0 by omega]
theorem seg_length (lo hi : Nat) : (seg lo hi).length = hi - lo := by simp [seg]

/-- All addresses of a list of ranges, in its order. -/
def addrsOf (l : List (Nat × Nat)) : List Nat := l.flatMap fun x => seg x.1 (x.2 + 1)
theorem addrsOf_snoc (l : List (Nat × Nat)) (x : Nat × Nat) : addrsOf (l ++ [x]) = addrsOf l ++ seg x.1 (x.2 + 1) := by simp [addrsOf]

/-- Each behind its number. -/
def num (av : List Nat) : List (Nat × Nat) := av.zipIdx.map fun p => (p.2, p.1)
theorem num_snoc (av : List Nat) (a : Nat) : num (av ++ [a]) = num av ++ [(av.length, a)] := by simp [num, List.zipIdx_append]
theorem num_length (av : List Nat) : (num av).length = av.length := by simp [num]

/-- What a round keeps: what lay below n, and cells from M on. -/
def Keep (n M : Nat) (W W' : World) : Prop := Below n W W' ∧ ∀ k c t f, M ≤ k → W.heap[k]? = some (.cells c t f) → W'.heap[k]? = some (.cells c t f)
theorem keep_t {n M : Nat} {A B C : World} (h : Keep n M A B) (k : Keep n M B C) : Keep n M A C := ⟨h.1.trans k.1, fun i c t f hi hc => k.2 i c t f hi (h.2 i c t f hi hc)⟩
theorem keep_b {n M : Nat} {w : World} (hn : n ≤ w.heap.size) (W : World) (l : Nat) (o o' : Obj) (hl : w.heap.size ≤ l) (h : W.heap[l]? = some o) (h1 : o.isCells = false) (h2 : o.isWalk = false) : Keep n M W (W.putObj l o') := by
  refine ⟨belowK_b hn W l o o' hl h h1 h2, fun k c t f _ hc => ?_⟩
  have hne : k ≠ l := by
    rintro rfl
    rw [h] at hc
    cases hc
    simp [Obj.isCells] at h1
  exact (World.putObj_heap_other hne).trans hc
theorem Keep.refl (n M : Nat) (W : World) : Keep n M W W := ⟨Below.refl _ _, fun _ _ _ _ _ h => h⟩
theorem Keep.setCell {n M : Nat} (W : World) {p : Addr} (h1 : n ≤ p.block) (h2 : p.block < M) (v : Value) : Keep n M W (W.setCell p v) :=
  ⟨(Below.refl n W).setCell h1 v, fun k c t f hk hc => (Below.heap_setCell W p v k (by omega)).trans hc⟩

/-- Where the inner loop stands. -/
structure At (base : List Nat) (x : Nat × Nat) (av : List Nat) (ad : Nat) : Prop where
  lo : x.1 ≤ ad
  hi : ad ≤ x.2 + 1 ∨ ad = x.1
  eq : av = base ++ seg x.1 ad

theorem at_start (base : List Nat) (x : Nat × Nat) : At base x base x.1 := ⟨Nat.le_refl _, .inr rfl, by rw [seg_self, List.append_nil]⟩
theorem at_next {base : List Nat} {x : Nat × Nat} {av : List Nat} {ad : Nat} (h : At base x av ad) (hle : ad ≤ x.2) : At base x (av ++ [ad]) (ad + 1) :=
  ⟨by have := h.lo; omega, .inl (by omega), by rw [seg_succ h.lo, h.eq, List.append_assoc]⟩
theorem at_end {base : List Nat} {x : Nat × Nat} {av : List Nat} {ad : Nat} (h : At base x av ad) (hgt : x.2 < ad) : av = base ++ seg x.1 (x.2 + 1) := by
  rcases h.hi with hh | hh
  · rw [h.eq, show ad = x.2 + 1 by omega]
  · rw [h.eq, hh, seg_self, seg_none (by omega)]
theorem seg_prefix {lo hi m : Nat} (h : hi ≤ m) : seg lo hi <+: seg lo m := by
  have e : seg lo hi = (seg lo m).take (hi - lo) := by
    unfold seg
    rw [← List.map_take, List.take_range, show min (hi - lo) (m - lo) = hi - lo by omega]
  rw [e]
  exact List.take_prefix _ _
theorem addrsOf_take (l : List (Nat × Nat)) (i : Nat) (x : Nat × Nat) (h : l[i]? = some x) : addrsOf (l.take (i + 1)) = addrsOf (l.take i) ++ seg x.1 (x.2 + 1) := by
  rw [take_snoc_of l i x h, addrsOf_snoc]
theorem addrsOf_take_prefix (l : List (Nat × Nat)) (i : Nat) : addrsOf (l.take i) <+: addrsOf l := by
  refine ⟨addrsOf (l.drop i), ?_⟩
  unfold addrsOf
  rw [← List.flatMap_append, List.take_append_drop]
theorem at_prefix {l : List (Nat × Nat)} {i : Nat} {x : Nat × Nat} {av : List Nat} {ad : Nat} (hx : l[i]? = some x) (h : At (addrsOf (l.take i)) x av ad) (hle : ad ≤ x.2) : av ++ [ad] <+: addrsOf l := by
  have h1 := at_next h hle
  rw [h1.eq]
  refine .trans ?_ (addrsOf_take_prefix l (i + 1))
  rw [addrsOf_take l i x hx]
  exact (List.prefix_append_right_inj _).2 (seg_prefix (by omega))
theorem take_of_prefix {av bs : List Nat} (h : av <+: bs) (k : Nat) (hk : av.length = k) : bs.take k = av := by
  obtain ⟨r, rfl⟩ := h
  subst hk
  simp

theorem cell_of_obj {w : World} {g : Nat} {cs : Array Value} {t : TypeId} (h : w.heap[g]? = some (.cells cs t (0, 0))) (i : Nat) : w.cell? ⟨g, i, none⟩ = cs[i]? := by simp [World.cell?, h]

set_option maxRecDepth 100000 in
set_option maxHeartbeats 2000000 in
theorem numbered1_in (F : Fence) (n : Nat) (h7 : F.fn 154) (hro : F.round = none) (hn : 1 ≤ n) (lp Bs n₀ M : Nat) (A : Option Addr) (cap : Nat) (l : List (Nat × Nat)) (hreach : l.length * 8 ≤ 140737488351232) (J Jx : List (Nat × Nat) → World → Prop)
    (W : World) (hM : M ≤ W.heap.size) (hn₀ : n₀ ≤ W.heap.size) (hJa : AbidesFrom W.heap.size J)
    (hY : ∀ pre x W, J pre W → pre.length < 257 → YieldAt F (n - 1) Tryz.prog lp #[.int .i64 (x.1 : Int), .int .u32 (x.2 : Int)] W fun e W' =>
      (e = .returned (.bool true) ∧ J (pre ++ [x]) W' ∧ Keep n₀ M W W') ∨ (e = .returned (.bool false) ∧ Jx (pre ++ [x]) W'))
    (hBs : W.cell? ⟨Bs, 0, none⟩ = some (.slice A l.length cap)) (hR : Rg W n₀ A l) (h0 : J [] W) :
    CallsIn F n Tryz.prog 154 #[.func (.yield lp) #[] #[], .pointer (some ⟨Bs, 0, none⟩)] W fun e W' => (∃ v, e = .returned v) ∧
      ((∃ ys, ys = num ((addrsOf l).take 257) ∧ J ys W') ∨ (∃ pre, (∃ av, av <+: (addrsOf l).take 257 ∧ pre = num av) ∧ Jx pre W')) := by
  refine callsIn_of_wp Tryz.func154 rfl h7 ?_ hro
  simp only [Tryz.ntmps154, List.size_toArray, List.length_cons, List.length_nil, Nat.reduceAdd, Nat.reduceSub, Array.replicate_succ, Array.replicate_zero, List.push_toArray, List.append_toArray, List.nil_append, List.cons_append]
  gi_wp2
  gi_loopw [3, 9] (fun nv iv wr => ∃ i : Nat, i ≤ l.length ∧ iv = .int .i64 i ∧ nv = .int .i64 ((addrsOf (l.take i)).length : Nat) ∧ (addrsOf (l.take i)).length ≤ 257 ∧ J (num (addrsOf (l.take i))) wr ∧ Below n₀ W wr ∧ W.heap.size ≤ wr.heap.size)
    (fun _ iv _ => l.length - (intOf iv).toNat)
  case atStart => exact ⟨0, Nat.zero_le _, rfl, rfl, by simp [addrsOf], h0, Below.refl _ _, Nat.le_refl _⟩
  case round =>
    obtain ⟨i, hi, rfl, rfl, h257, hJs, hB, hsz⟩ := hrel
    by_cases hlt : i < l.length
    · obtain ⟨x, hx⟩ : ∃ x, l[i]? = some x := ⟨_, List.getElem?_eq_getElem hlt⟩
      have hxx := hR.w32 x (List.mem_of_getElem? hx)
      obtain ⟨b, o, rfl, hb, hc1, hc2⟩ := (hR.below hB).at_ i x hx
      have HX := Lib.hid hx
      have HR := Lib.hid hR
      clear hx hR
      generalize hbase : addrsOf (l.take i) = base at *
      have HB := Lib.hid hbase
      clear hbase
      gi_wp2
      obtain ⟨w2, hw2⟩ : ∃ w2, w2 = wr.alloc (.cells #[.int .u32 x.1, .int .u32 x.2] 89) := ⟨_, rfl⟩
      rw [← hw2]
      have hJ2 : J (num base) w2 := by rw [hw2]; exact hJa _ _ _ none hJs (World.grownBy_alloc wr _ none) (fun r e => by cases e)
      have hB2 : Below n₀ W w2 := by rw [hw2]; exact hB.trans ((Below.refl _ wr).alloc (by omega) _)
      have hx2 : w2.heap[wr.heap.size]? = some (.cells #[.int .u32 x.1, .int .u32 x.2] 89 (0, 0)) := by rw [hw2]; exact World.alloc_heap_new wr _
      have hs2 : W.heap.size ≤ w2.heap.size := by rw [hw2]; simp; omega
      have hMb : M ≤ wr.heap.size := by omega
      clear hw2 hJs hc1 hc2 hB hsz
      generalize wr.heap.size = bx at *
      clear wr
      gi_loopw [3, 6] (fun nv av wq => ∃ (av' : List Nat) (ad : Nat), nv = .int .i64 (av'.length : Nat) ∧ av = .int .u64 ad ∧ At base x av' ad ∧ av'.length ≤ 257 ∧ J (num av') wq ∧ Below n₀ W wq ∧ W.heap.size ≤ wq.heap.size ∧ wq.heap[bx]? = some (.cells #[.int .u32 x.1, .int .u32 x.2] 89 (0, 0)))
        (fun _ av _ => x.2 + 1 - (intOf av).toNat)
      case atStart => exact ⟨base, x.1, rfl, rfl, at_start base x, h257, hJ2, hB2, hs2, hx2⟩
      case round =>
        obtain ⟨av, ad, rfl, rfl, hat, hl257, hJw, hBw, hsw, hbx⟩ := hrel
        have hb1 := cell_of_obj hbx 0
        have hb2 := cell_of_obj hbx 1
        have hlo := hat.lo
        have hhi := hat.hi
        by_cases hle : ad ≤ x.2
        · by_cases hm : av.length ≤ 256
          · obtain ⟨fn, tmps, assign, body, hy, hRr⟩ := hY _ (av.length, ad) wr hJw (by rw [num_length]; omega)
            dsimp only at hy
            have hwu : IntKind.u32.wrap (ad : Int) = ad := by simp [IntKind.wrap, IntKind.bits, IntKind.signed]; omega
            have hd : decide ((256 : Int) < (av.length : Int)) = false := by simp; omega
            gi_wp2
            refine hRr.mono ?_
            clear hRr hy
            rintro e W3 (⟨rfl, hJ3, hk3⟩ | ⟨rfl, hJx3⟩)
            · have hbx3 := hk3.2 bx _ _ _ hMb hbx
              gi_wp2
              go_roundw
              case rel => exact ⟨av ++ [ad], ad + 1, by simp, by go_num, at_next hat hle, by simp; omega, by rw [num_snoc]; exact hJ3, hBw.trans hk3.1, Nat.le_trans hsw hk3.1.size, hbx3⟩
              case measure => simp [intOf]; omega
            · gi_wp2
              refine bodyPost_ret (results_none rfl _ _ _) rfl ?_
              refine ⟨⟨_, rfl⟩, .inr ⟨_, ⟨av ++ [ad], ?_, (num_snoc _ _).symm⟩, hJx3⟩⟩
              have hpre : av ++ [ad] <+: addrsOf l := at_prefix HX.out (by rw [HB.out]; exact hat) hle
              rw [← take_of_prefix hpre (av.length + 1) (by simp)]
              exact List.take_prefix_take_left (by omega)
          · have hd : decide ((256 : Int) < (av.length : Int)) = true := by simp; omega
            gi_wp2
            refine ⟨fun _ h => (by cases h), ?_⟩
            gi_wp2
            refine bodyPost_ret (results_none rfl _ _ _) rfl ?_
            refine ⟨⟨_, rfl⟩, .inl ⟨num av, ?_, hJw⟩⟩
            have hpre : av ++ [ad] <+: addrsOf l := at_prefix HX.out (by rw [HB.out]; exact hat) hle
            rw [take_of_prefix ((List.prefix_append av [ad]).trans hpre) 257 (by omega)]
        · gi_wp2
          go_roundw
          case rel =>
            have e : addrsOf (l.take (i + 1)) = av := by rw [addrsOf_take l i x HX.out, HB.out]; exact (at_end hat (by omega)).symm
            exact ⟨i + 1, by omega, by go_num, by rw [e], by rw [e]; exact hl257, by rw [e]; exact hJw, hBw, hsw⟩
          case measure => simp [intOf]; omega
    · obtain rfl : i = l.length := by omega
      gi_wp2
      go_end0
      rw [List.take_length] at *
      exact ⟨⟨_, rfl⟩, .inl ⟨_, by rw [List.take_of_length_le h257], hJs⟩⟩

end Go.Proofs.YtmaohnbddlccdaaGreat
end

/- addr.Count, addr.At, addr.Index over addr.numbered. -/
section
namespace Go.Proofs.YtmaohnbddlccdaaGreat
open Go.RowKit Go.Shelf
attribute [local go_sem] Oper.semAt_some

def encN (x : Nat × Nat) : Array Value := #[.int .i64 (x.1 : Int), .int .u32 (x.2 : Int)]

set_option maxHeartbeats 1000000 in
theorem numbered_in (F : Fence) (n : Nat) (h5 : F.fn 107) (hro : F.round = none) (a : Option Addr) (len cap : Nat) (w : World) :
    CallsIn F n Tryz.prog 107 #[.slice a len cap] w fun e w' => e = .returned (.func (.func 154) #[] #[.pointer (some ⟨w.heap.size, 0, none⟩)]) ∧ w' = w.alloc (.cells #[.slice a len cap] 25) := by
  refine callsIn_of_wp Tryz.func107 rfl h5 ?_ hro
  simp only [Tryz.ntmps107, List.size_toArray, List.length_cons, List.length_nil, Nat.reduceAdd, Nat.reduceSub, Array.replicate_succ, Array.replicate_zero, List.push_toArray, List.append_toArray, List.nil_append, List.cons_append]
  gi_wp2
  go_ret
  exact ⟨rfl, rfl⟩

theorem numbered_stops (F : Fence) (n : Nat) (h7 : F.fn 154) (hro : F.round = none) (hn : 1 ≤ n) (Bs n₀ : Nat) (A : Option Addr) (cap : Nat) (l : List (Nat × Nat)) (hreach : l.length * 8 ≤ 140737488351232) (w : World) (hBs : Bs < w.heap.size) (hn₀ : n₀ ≤ w.heap.size)
    (hc : w.cell? ⟨Bs, 0, none⟩ = some (.slice A l.length cap)) (hI : Rg w n₀ A l) :
    SeqStopsK F n Tryz.prog 154 #[.pointer (some ⟨Bs, 0, none⟩)] encN (Keep n₀ w.heap.size) (fun ys => ys = num ((addrsOf l).take 257)) (fun pre => ∃ av, av <+: (addrsOf l).take 257 ∧ pre = num av) 257 w := fun lp J Jx W hW hJ _ hY h0 =>
  numbered1_in F n h7 hro hn lp Bs n₀ w.heap.size A cap l hreach J Jx W hW.size (Nat.le_trans hn₀ hW.size) hJ hY ((hW.cell (p := ⟨Bs, 0, none⟩) hBs).trans hc) (hI.below (hW.mono hn₀)) h0

/-- How many have come, as the program reckons it. -/
def cntW (pre : List (Nat × Nat)) : Int := match pre.getLast? with | none => 0 | some x => wrap64 ((x.1 : Int) + 1)
theorem cntW_snoc (pre : List (Nat × Nat)) (x : Nat × Nat) : cntW (pre ++ [x]) = wrap64 ((x.1 : Int) + 1) := by simp [cntW]

theorem cntW_num (av : List Nat) (h : av.length ≤ 257) : cntW (num av) = (av.length : Nat) := by
  rcases nil_or_snoc av with rfl | ⟨p, a, rfl⟩
  · rfl
  · rw [num_snoc, cntW_snoc]
    simp at h ⊢
    rw [IntWalk.wrap64_in _ (by omega)]

set_option maxRecDepth 100000 in
set_option maxHeartbeats 2000000 in
theorem count_in (F : Fence) (n : Nat) (h3 : F.fn 60) (h5 : F.fn 107) (h7 : F.fn 154) (hro : F.round = none) (hn : 3 ≤ n) (A : Option Addr) (cap : Nat) (l : List (Nat × Nat)) (hreach : l.length * 8 ≤ 140737488351232) (w : World) (hI : Rg w w.heap.size A l) :
    CallsIn F n Tryz.prog 60 #[.slice A l.length cap] w fun e W' => e = .returned (.int .i64 ((min 257 (addrsOf l).length : Nat) : Int)) ∧ Below w.heap.size w W' := by
  have h1 : 1 ≤ n := by omega
  refine callsIn_of_wp_marks Tryz.func60 rfl h3 ?_ hro
  simp only [Tryz.ntmps60, List.size_toArray, List.length_cons, List.length_nil, Nat.reduceAdd, Nat.reduceSub, Array.replicate_succ, Array.replicate_zero, List.push_toArray, List.append_toArray, List.nil_append, List.cons_append]
  gi_wp2_with (gi_at_call 107; refine (numbered_in F (n - 1) h5 hro _ _ _ _).mono ?_; rintro e w' ⟨rfl, rfl⟩)
  have bS := Boxed.new w 3 (.int .i64 0)
  have bN := Boxed.new (w.alloc (.cells #[.int .i64 0] 3)) 25 (.slice A l.length cap)
  rw [World.size_alloc] at bN
  have hB0 : Below w.heap.size w ((w.alloc (.cells #[.int .i64 0] 3)).alloc (.cells #[.slice A l.length cap] 25)) := ((Below.refl _ w).alloc (Nat.le_refl _) _).alloc (by simp) _
  refine wpIn_rangeFunc_ownG hro h1 (gf := 154) (lb := #[.pointer (some ⟨w.heap.size + 1, 0, none⟩)]) rfl h7 (enters_of Tryz.func154 (by kernel_rfl) rfl)
    (numbered_stops F (n - 1) h7 hro (by omega) (w.heap.size + 1) w.heap.size A cap l hreach _ (by simp) (by simp; omega) bN.cell (hI.below hB0)) keep_t (keep_b (by simp; omega)) (Below.refl _ _) (fun _ => rfl)
    (fun pre W => (W.cell? ⟨w.heap.size, 0, none⟩ = some (.int .i64 (cntW pre)) ∧ W.frozen? ⟨w.heap.size, 0, none⟩ = false) ∧ Below w.heap.size w W)
    (fun _ _ _ => False)
    (OwnFrom.and (Own.from (fun s A B row hs hg hr => ⟨cell_kept hs.1 hg hr, (frozen_kept hs.1 hg hr).trans hs.2⟩) _) (ownFrom_below (Nat.le_refl _) (by simp; omega)))
    (fun _ _ _ _ _ hs _ _ => hs)
    ⟨⟨(bS.alloc _).cell, (bS.alloc _).frozen⟩, hB0⟩
    (fun x => { tmps := #[.slice A l.length cap, undef, .int .i64 0, .pointer (some ⟨w.heap.size, 0, none⟩), .int .i64 (x.1 : Int), .slice A l.length cap, .func (.func 154) #[] #[.pointer (some ⟨w.heap.size + 1, 0, none⟩)], .int .i64 (x.1 : Int), .int .u32 (x.2 : Int), undef, undef, undef], defers := [] }) ?assign ?body ?done ?stop
  case assign =>
    intro l x W K hK
    simp only [encN]
    gi_wp2
    exact hK
  case body =>
    rintro l pre x W ⟨⟨hc, hf⟩, hB⟩ _
    gi_wp2
    exact ⟨(KeepsOthers.setCell _ _ _).from _, Keep.setCell W (p := ⟨w.heap.size, 0, none⟩) (Nat.le_refl _) (by simp; omega) _, ⟨by rw [cntW_snoc]; exact World.cell?_setCell_same' _ _ _ (by rw [hc]; rfl), by rw [World.frozen?_setCell]; exact hf⟩, hB.setCell (p := ⟨w.heap.size, 0, none⟩) (Nat.le_refl _) _⟩
  case done =>
    rintro D ys W hD rfl ⟨⟨hc, _⟩, hB⟩ hK
    rw [cntW_num _ (by simp; omega)] at hc
    gi_wp2
    refine ⟨by simp, .inl ⟨_, _, rfl, run_takeDeferred hK, ?_⟩⟩
    exact ⟨_, results_tmp rfl _ _ _, rfl, hB.trans (belowK_b (w := w) (Nat.le_refl _) W D _ _ (by simp at hD; omega) hK rfl rfl)⟩
  case stop =>
    rintro D c pre W _ _ h _
    exact h.elim

theorem count_any (A : Option Addr) (cap : Nat) (l : List (Nat × Nat)) (hreach : l.length * 8 ≤ 140737488351232) (w : World) (hI : Rg w w.heap.size A l) :
    Calls Tryz.prog 60 #[.slice A l.length cap] w fun e W' => e = .returned (.int .i64 ((min 257 (addrsOf l).length : Nat) : Int)) ∧ Below w.heap.size w W' :=
  (callsIn_wide (n := 3)).1 (count_in Fence.wide 3 trivial trivial trivial rfl (by omega) A cap l hreach w hI)

/-- The n-th address. -/
def atL (av : List Nat) (n : Int) : Nat × Int := match (if n < 0 then none else av[n.toNat]?) with | some a => (a, 0) | none => (0, 4)

theorem num_snoc_inv {av : List Nat} {ini : List (Nat × Nat)} {last : Nat × Nat} (h : num av = ini ++ [last]) : ∃ av0, av = av0 ++ [last.2] ∧ ini = num av0 ∧ last.1 = av0.length := by
  rcases nil_or_snoc av with rfl | ⟨p, a, rfl⟩
  · simp [num] at h
  · rw [num_snoc] at h
    obtain ⟨rfl, h2⟩ := List.append_inj' h rfl
    simp at h2
    subst h2
    exact ⟨p, rfl, rfl, rfl⟩

theorem mem_num {av : List Nat} {i : Nat} {a : Nat} (h : av[i]? = some a) : (i, a) ∈ num av := by
  unfold num
  rw [List.mem_map]
  exact ⟨(a, i), by rw [List.mem_zipIdx_iff_getElem?]; exact h, rfl⟩

theorem atL_none {av : List Nat} {n : Int} (h : ∀ y ∈ num av, (y.1 : Int) ≠ n) : atL av n = (0, 4) := by
  unfold atL
  split
  · rename_i a ha
    split at ha
    · cases ha
    · exact absurd (by simp; omega) (h _ (mem_num ha))
  · rfl

theorem atL_some {av av0 : List Nat} {a : Nat} {n : Int} (hp : av0 ++ [a] <+: av) (h : (av0.length : Int) = n) : atL av n = (a, 0) := by
  obtain ⟨r, rfl⟩ := hp
  subst h
  unfold atL
  rw [if_neg (by omega)]
  simp

theorem aboxed_put {W : World} {B : Nat} {t : TypeId} {v : Value} (h : Boxed W B t v) {D : Nat} {x : Option (List Deferred)} (hK : W.heap[D]? = some (.deferred x)) (o : Obj) : Boxed (W.putObj D o) B t v := by
  refine h.kept (grownBy_putObj' W D o) ?_
  intro e
  cases e
  unfold Boxed at h
  rw [h] at hK
  cases hK

set_option maxRecDepth 100000 in
set_option maxHeartbeats 2000000 in
theorem at_in (F : Fence) (n : Nat) (h3 : F.fn 61) (h5 : F.fn 107) (h7 : F.fn 154) (hro : F.round = none) (hn : 3 ≤ n) (A : Option Addr) (cap : Nat) (l : List (Nat × Nat)) (q : Int) (hreach : l.length * 8 ≤ 140737488351232) (w : World) (hI : Rg w w.heap.size A l) :
    CallsIn F n Tryz.prog 61 #[.slice A l.length cap, .int .i64 q] w fun e W' => e = .returned (.tuple #[.int .u32 ((atL ((addrsOf l).take 257) q).1 : Nat), .int .i64 (atL ((addrsOf l).take 257) q).2]) ∧ Below w.heap.size w W' := by
  have h1 : 1 ≤ n := by omega
  refine callsIn_of_wp_marks Tryz.func61 rfl h3 ?_ hro
  simp only [Tryz.ntmps61, List.size_toArray, List.length_cons, List.length_nil, Nat.reduceAdd, Nat.reduceSub, Array.replicate_succ, Array.replicate_zero, List.push_toArray, List.append_toArray, List.nil_append, List.cons_append]
  gi_wp2_with (gi_at_call 107; refine (numbered_in F (n - 1) h5 hro _ _ _ _).mono ?_; rintro e w' ⟨rfl, rfl⟩)
  have b0 := Boxed.new w 3 (.int .i64 q)
  have b1 := Boxed.new (w.alloc (.cells #[.int .i64 q] 3)) 23 (.int .u32 0)
  have b2 := Boxed.new ((w.alloc (.cells #[.int .i64 q] 3)).alloc (.cells #[.int .u32 0] 23)) 53 (.int .i64 0)
  have b3 := Boxed.new (((w.alloc (.cells #[.int .i64 q] 3)).alloc (.cells #[.int .u32 0] 23)).alloc (.cells #[.int .i64 0] 53)) 25 (.slice A l.length cap)
  simp only [World.size_alloc] at b1 b2 b3
  have hB0 : Below w.heap.size w ((((w.alloc (.cells #[.int .i64 q] 3)).alloc (.cells #[.int .u32 0] 23)).alloc (.cells #[.int .i64 0] 53)).alloc (.cells #[.slice A l.length cap] 25)) := ((((Below.refl _ w).alloc (Nat.le_refl _) _).alloc (by simp) _).alloc (by simp; omega) _).alloc (by simp; omega) _
  refine wpIn_rangeFunc_ownG hro h1 (gf := 154) (lb := #[.pointer (some ⟨w.heap.size + 1 + 1 + 1, 0, none⟩)]) rfl h7 (enters_of Tryz.func154 (by kernel_rfl) rfl)
    (numbered_stops F (n - 1) h7 hro (by omega) (w.heap.size + 1 + 1 + 1) w.heap.size A cap l hreach _ (by simp) (by simp; omega) b3.cell (hI.below hB0)) keep_t (keep_b (by simp; omega)) (Below.refl _ _) (fun _ => rfl)
    (fun pre W => ((∀ y ∈ pre, (y.1 : Int) ≠ q) ∧ Boxed W w.heap.size 3 (.int .i64 q) ∧ Boxed W (w.heap.size + 1) 23 (.int .u32 0) ∧ Boxed W (w.heap.size + 1 + 1) 53 (.int .i64 0)) ∧ Below w.heap.size w W)
    (fun c pre W => (c = .ret ∧ ∃ ini last, pre = ini ++ [last] ∧ (last.1 : Int) = q ∧ Boxed W (w.heap.size + 1) 23 (.int .u32 (last.2 : Nat)) ∧ Boxed W (w.heap.size + 1 + 1) 53 (.int .i64 0)) ∧ Below w.heap.size w W)
    (OwnFrom.and (Own.from (fun s A B row hs hg hr => ⟨hs.1, boxed_own _ _ (fun _ => _) s A B row hs.2.1 hg hr, boxed_own _ _ (fun _ => _) s A B row hs.2.2.1 hg hr, boxed_own _ _ (fun _ => _) s A B row hs.2.2.2 hg hr⟩) _) (ownFrom_below (Nat.le_refl _) (by simp; omega)))
    (fun c => OwnFrom.and (Own.from (fun s A B row hs hg hr => by obtain ⟨hc, ini, last, e1, e2, e3, e4⟩ := hs; exact ⟨hc, ini, last, e1, e2, boxed_own _ _ (fun _ => _) s A B row e3 hg hr, boxed_own _ _ (fun _ => _) s A B row e4 hg hr⟩) _) (ownFrom_below (Nat.le_refl _) (by simp; omega)))
    ⟨⟨by simp, ((b0.alloc _).alloc _).alloc _, (b1.alloc _).alloc _, b2.alloc _⟩, hB0⟩
    (fun x => { tmps := #[.slice A l.length cap, .int .i64 q, undef, .pointer (some ⟨w.heap.size, 0, none⟩), .pointer (some ⟨w.heap.size + 1, 0, none⟩), .pointer (some ⟨w.heap.size + 1 + 1, 0, none⟩), .int .i64 (x.1 : Int), .int .u32 (x.2 : Int), .slice A l.length cap, .func (.func 154) #[] #[.pointer (some ⟨w.heap.size + 1 + 1 + 1, 0, none⟩)], .int .i64 (x.1 : Int), .int .u32 (x.2 : Int), undef, undef, undef, undef], defers := [] }) ?assign ?body ?done ?stop
  case assign =>
    intro l x W K hK
    simp only [encN]
    gi_wp2
    exact hK
  case body =>
    rintro l pre x W ⟨⟨hp, c0, c1, c2⟩, hB⟩ _
    have d0 := c0.cell
    have d1 := c1.cell
    have d2 := c2.cell
    have f1 := c1.frozen
    have f2 := c2.frozen
    gi_wp2
    · rename_i hx
      have hx' : (x.1 : Int) = q := eq_of_beq hx
      have k1 := c1.set (.int .u32 (x.2 : Int))
      have k2 := c2.other (B' := w.heap.size + 1) (by omega) (.int .u32 (x.2 : Int))
      have hB1 := hB.setCell (p := ⟨w.heap.size + 1, 0, none⟩) (by simp) (.int .u32 (x.2 : Int))
      exact ⟨((KeepsOthers.setCell _ _ _).trans (KeepsOthers.setCell _ _ _)).from _, ⟨rfl, pre, x, rfl, hx', k1.other (by omega) _, k2.set _⟩, hB1.setCell (p := ⟨w.heap.size + 1 + 1, 0, none⟩) (by simp; omega) _⟩
    · rename_i hx
      exact ⟨KeepsFrom.refl _ _, Keep.refl _ _ _, ⟨fun y hy => (List.mem_append.1 hy).elim (hp y) (fun e e' => by simp at e; subst e; simp [e'] at hx), c0, c1, c2⟩, hB⟩
  case done =>
    rintro D ys W hD rfl ⟨⟨hne, _, c1, c2⟩, hB⟩ hK
    have d1 := c1.cell
    have f1 := c1.frozen
    have d2 := c2.cell
    have f2 := c2.frozen
    have HA := Lib.hid (atL_none hne)
    clear hne
    gi_wp2
    have hK2 := ((KeepsOthers.setCell W ⟨w.heap.size + 1, 0, none⟩ (.int .u32 0)).trans (KeepsOthers.setCell _ ⟨w.heap.size + 1 + 1, 0, none⟩ (.int .i64 4))).same D _ hK rfl
    have k1 := aboxed_put ((c1.set (.int .u32 0)).other (B' := w.heap.size + 1 + 1) (by omega) (.int .i64 4)) hK2 (.deferred none)
    have k2 := aboxed_put ((c2.other (B' := w.heap.size + 1) (by omega) (.int .u32 0)).set (.int .i64 4)) hK2 (.deferred none)
    have e1 := k1.cell
    have e2 := k2.cell
    refine ⟨by simp, .inl ⟨_, _, rfl, run_takeDeferred hK2, ?_⟩⟩
    rw [HA.out]
    refine ⟨.tuple #[.int .u32 0, .int .i64 4], ?_, rfl, ((hB.setCell (p := ⟨w.heap.size + 1, 0, none⟩) (by simp) (.int .u32 0)).setCell (p := ⟨w.heap.size + 1 + 1, 0, none⟩) (by simp; omega) (.int .i64 4)).trans (belowK_b (w := w) (Nat.le_refl _) _ D _ _ (by simp at hD; omega) hK2 rfl rfl)⟩
    simp [results, Tryz.f61, go_sem, e1, e2]
  case stop =>
    rintro D c pre W hD ⟨av, hav, rfl⟩ ⟨⟨rfl, ini, last, e1, e2, c1, c2⟩, hB⟩ hK
    gi_wp2
    have k1 := (aboxed_put c1 hK (.deferred none)).cell
    have k2 := (aboxed_put c2 hK (.deferred none)).cell
    obtain ⟨av0, rfl, rfl, h4⟩ := num_snoc_inv e1
    rw [h4] at e2
    refine ⟨by simp, .inl ⟨_, _, rfl, run_takeDeferred hK, ?_⟩⟩
    rw [atL_some hav e2]
    refine ⟨.tuple #[.int .u32 (last.2 : Int), .int .i64 0], ?_, rfl, hB.trans (belowK_b (w := w) (Nat.le_refl _) W D _ _ (by simp at hD; omega) hK rfl rfl)⟩
    simp [results, Tryz.f61, go_sem, k1, k2]

theorem at_any (A : Option Addr) (cap : Nat) (l : List (Nat × Nat)) (q : Int) (hreach : l.length * 8 ≤ 140737488351232) (w : World) (hI : Rg w w.heap.size A l) :
    Calls Tryz.prog 61 #[.slice A l.length cap, .int .i64 q] w fun e W' => e = .returned (.tuple #[.int .u32 ((atL ((addrsOf l).take 257) q).1 : Nat), .int .i64 (atL ((addrsOf l).take 257) q).2]) ∧ Below w.heap.size w W' :=
  (callsIn_wide (n := 3)).1 (at_in Fence.wide 3 trivial trivial trivial rfl (by omega) A cap l q hreach w hI)

end Go.Proofs.YtmaohnbddlccdaaGreat
end

/- addr.Pool: a walk over the contracts of sorted, joined and Count. -/
section
namespace Go.Proofs.YtmaohnbddlccdaaGreat
open Go.RowKit

/-- What Pool answers, of what it was given: the pool and the error's number. -/
def PoolRes (l ol : List (Nat × Nat)) (code : Int) : Prop :=
  ((∃ x ∈ l, x.2 < x.1) ∧ ol = [] ∧ code = 1) ∨
  (∃ l', (∀ x ∈ l, x.1 ≤ x.2) ∧ l'.Perm l ∧ SortedLow l' ∧ ((256 < (addrsOf (joinL l')).length ∧ ol = [] ∧ code = 3) ∨ ((addrsOf (joinL l')).length ≤ 256 ∧ ol = joinL l' ∧ code = 0)))

theorem joined_rg (A : Option Addr) (c : Nat) (l : List (Nat × Nat)) (w : World) (hr : Rg w w.heap.size A l) (hsz : l.length * 8 ≤ 140737488351232) :
    Calls Tryz.prog 95 #[.slice A l.length c] w fun e w' => ∃ p cap, e = .returned (.slice p (joinL l).length cap) ∧ Rg w' w'.heap.size p (joinL l) ∧ Below w.heap.size w w' :=
  (joined_any A c l w hr hsz).mono fun e w' ⟨v', he, hown, hB⟩ => by
    rcases hown.2 with ⟨hv, h0⟩ | ⟨g, cap, cur, hv, _⟩
    · subst hv
      have hown' := hown
      rw [h0] at hown'
      exact ⟨none, 0, by rw [he, h0], Rg.of_own (n := 0) (joinL_w32 hr.w32) hown', hB⟩
    · subst hv
      exact ⟨_, _, he, Rg.of_own (joinL_w32 hr.w32) hown, hB⟩

set_option maxRecDepth 100000 in
set_option maxHeartbeats 1000000 in
theorem pool_any (A : Option Addr) (c : Nat) (l : List (Nat × Nat)) (w : World) (hr : Rg w w.heap.size A l) (hsz : l.length * 8 ≤ 140737488351232) :
    Calls Tryz.prog 51 #[.slice A l.length c] w fun e w' => ∃ ol code p cap, e = .returned (.tuple #[.slice p ol.length cap, .int .i64 code]) ∧ PoolRes l ol code ∧ Rg w' w'.heap.size p ol ∧ Below w.heap.size w w' := by
  go_enter Tryz.func51, Tryz.ntmps51
  go_wp2
  go_loopw [9] (fun i wr => ∃ k : Nat, k ≤ l.length ∧ i = .int .i64 k ∧ (∀ x ∈ l.take k, x.1 ≤ x.2) ∧ Below w.heap.size w wr) (fun i _ => l.length - (intOf i).toNat)
  case atStart => exact ⟨0, Nat.zero_le _, rfl, by simp, Below.refl _ _⟩
  case round =>
    obtain ⟨k, hk, rfl, hval, hB⟩ := hrel
    by_cases hlt : k < l.length
    · obtain ⟨x, hx⟩ : ∃ x, l[k]? = some x := ⟨_, List.getElem?_eq_getElem hlt⟩
      obtain ⟨b, o, rfl, hb, hc1, hc2⟩ := (hr.below hB).at_ k x hx
      have HX := Lib.hid hx
      have HV := Lib.hid hval
      have hsz1 := hB.size
      clear hx hr hval
      by_cases hle : x.2 < x.1
      · go_wp2
        go_ret2
        exact ⟨[], 1, none, 0, rfl, .inl ⟨⟨x, List.mem_of_getElem? HX.out, hle⟩, rfl, rfl⟩, ⟨fun y hy => by simp at hy, fun i y h => by simp at h⟩, hB.alloc hsz1 _⟩
      · go_wp2
        go_roundw
        case rel =>
          refine ⟨k + 1, by omega, by go_num, ?_, hB.alloc hsz1 _⟩
          rw [take_snoc_of l k x HX.out]
          intro y hy
          rcases List.mem_append.1 hy with hy | hy
          · exact HV.out y hy
          · simp at hy; subst hy; omega
        case measure => simp [intOf]; omega
    · obtain rfl : k = l.length := by omega
      rw [List.take_length] at hval
      have HV := Lib.hid hval
      have HR := Lib.hid (hr.below hB)
      have hsz1 := hB.size
      clear hval hr
      go_wp2_with fail
      refine (sorted_any A c l wr (HR.out.more hsz1) hsz).mono ?_
      rintro e w1 ⟨l', p, cap, rfl, hP, hS, hR1, hB1⟩
      have hlen := hP.length_eq
      have HP := Lib.hid hP
      have HL := Lib.hid hlen
      have hszl : l'.length * 8 ≤ 140737488351232 := by omega
      have hR1' := Lib.hid hR1
      clear hP hlen hR1
      go_wp2_with fail
      refine (joined_rg p cap l' w1 hR1'.out hszl).mono ?_
      rintro e w2 ⟨p2, cap2, rfl, hR2, hB2⟩
      have hlj : (joinL l').length * 8 ≤ 140737488351232 := by have := joinL_len l'; omega
      have HC := Lib.hid (count_any p2 cap2 (joinL l') hlj w2 hR2)
      have HR2 := Lib.hid hR2
      have hBB : Below w.heap.size w w2 := hB.trans ((hB1.mono hsz1).trans (hB2.mono (by have := hB1.size; omega)))
      clear hR2
      generalize hm : min 257 (addrsOf (joinL l')).length = m at HC
      have HM := Lib.hid hm
      clear hm
      by_cases h256 : 256 < m
      · go_wp2_with fail
        refine HC.out.mono ?_
        rintro e w3 ⟨rfl, hB3⟩
        have h256' : decide ((256 : Int) < (m : Int)) = true := by simp; omega
        go_wp2
        go_ret2
        refine ⟨[], 3, none, 0, rfl, .inr ⟨l', HV.out, HP.out, hS, .inl ⟨?_, rfl, rfl⟩⟩, ⟨fun y hy => by simp at hy, fun i y h => by simp at h⟩, hBB.trans (hB3.mono hBB.size)⟩
        have := HM.out
        omega
      · go_wp2_with fail
        refine HC.out.mono ?_
        rintro e w3 ⟨rfl, hB3⟩
        have h256' : decide ((256 : Int) < (m : Int)) = false := by simp; omega
        go_wp2
        go_ret2
        refine ⟨joinL l', 0, p2, cap2, rfl, .inr ⟨l', HV.out, HP.out, hS, .inr ⟨?_, rfl, rfl⟩⟩, (HR2.out.below hB3).more hB3.size, hBB.trans (hB3.mono hBB.size)⟩
        have := HM.out
        omega
end Go.Proofs.YtmaohnbddlccdaaGreat
end

/- Plain mathematics of pools: what joining makes of sorted ranges; a pool is known by its addresses. -/
section
namespace Go.Proofs.YtmaohnbddlccdaaGreat

theorem mem_seg {lo hi a : Nat} : a ∈ seg lo hi ↔ lo ≤ a ∧ a < hi := by
  unfold seg
  rw [List.mem_map]
  constructor
  · rintro ⟨i, hi, rfl⟩
    have := List.mem_range.1 hi
    omega
  · rintro ⟨h1, h2⟩
    exact ⟨a - lo, List.mem_range.2 (by omega), by omega⟩

theorem mem_addrs {l : List (Nat × Nat)} {a : Nat} : a ∈ addrsOf l ↔ ∃ x ∈ l, x.1 ≤ a ∧ a ≤ x.2 := by
  unfold addrsOf
  rw [List.mem_flatMap]
  constructor
  · rintro ⟨x, hx, h⟩
    rw [mem_seg] at h
    exact ⟨x, hx, h.1, by omega⟩
  · rintro ⟨x, hx, h⟩
    exact ⟨x, hx, mem_seg.2 ⟨h.1, by omega⟩⟩

/-- A list of ranges in increasing order, no two of which overlap or touch. -/
structure Canon (l : List (Nat × Nat)) : Prop where
  val : ∀ x ∈ l, x.1 ≤ x.2
  sep : l.Pairwise fun x y => x.2 + 1 < y.1

theorem Canon.nil : Canon [] := ⟨by simp, .nil⟩
theorem Canon.tail {x : Nat × Nat} {r : List (Nat × Nat)} (h : Canon (x :: r)) : Canon r := ⟨fun y hy => h.val y (by simp [hy]), (List.pairwise_cons.1 h.sep).2⟩

theorem seg_sorted (lo hi : Nat) : (seg lo hi).Pairwise (· < ·) := by
  unfold seg
  rw [List.pairwise_map]
  exact (List.pairwise_lt_range).imp (fun h => by omega)

theorem Canon.sorted {l : List (Nat × Nat)} (h : Canon l) : (addrsOf l).Pairwise (· < ·) := by
  induction l with
  | nil => exact .nil
  | cons x r ih =>
    show (seg x.1 (x.2 + 1) ++ addrsOf r).Pairwise (· < ·)
    rw [List.pairwise_append]
    refine ⟨seg_sorted _ _, ih h.tail, fun a ha b hb => ?_⟩
    rw [mem_seg] at ha
    obtain ⟨y, hy, h1, _⟩ := mem_addrs.1 hb
    have := (List.pairwise_cons.1 h.sep).1 y hy
    omega

theorem canon_step {out : List (Nat × Nat)} {r : Nat × Nat} (h : Canon out) (hr : r.1 ≤ r.2) (hlow : ∀ x ∈ out, x.1 ≤ r.1) :
    Canon (joinStep out r) ∧ (∀ x ∈ joinStep out r, x.1 ≤ r.1) ∧ ∀ a, a ∈ addrsOf (joinStep out r) ↔ a ∈ addrsOf out ∨ (r.1 ≤ a ∧ a ≤ r.2) := by
  rcases nil_or_snoc out with rfl | ⟨pre, p, rfl⟩
  · have e : joinStep [] r = [r] := rfl
    rw [e]
    refine ⟨⟨fun x hx => by simp at hx; subst hx; exact hr, by simp⟩, fun x hx => by simp at hx; subst hx; exact Nat.le_refl _, fun a => ?_⟩
    rw [mem_addrs, mem_addrs]
    simp
  · have hp := h.val p (by simp)
    have hpl := hlow p (by simp)
    have hsep := List.pairwise_append.1 h.sep
    have e : joinStep (pre ++ [p]) r = if reachesB p.2 r.1 then pre ++ [(p.1, max p.2 r.2)] else pre ++ [p] ++ [r] := by simp [joinStep]
    rw [e]
    split
    · rename_i hre
      have hre' : r.1 ≤ p.2 + 1 := by simp [reachesB] at hre; omega
      refine ⟨⟨?_, ?_⟩, ?_, fun a => ?_⟩
      · intro x hx
        rcases List.mem_append.1 hx with hx | hx
        · exact h.val x (by simp [hx])
        · simp at hx; subst hx; simp; omega
      · rw [List.pairwise_append]
        refine ⟨hsep.1, by simp, fun x hx y hy => ?_⟩
        have := hsep.2.2 x hx p (by simp)
        simp at hy; subst hy; exact this
      · intro x hx
        rcases List.mem_append.1 hx with hx | hx
        · exact hlow x (by simp [hx])
        · simp at hx; subst hx; exact hpl
      · rw [mem_addrs, mem_addrs]
        constructor
        · rintro ⟨x, hx, h1, h2⟩
          rcases List.mem_append.1 hx with hx | hx
          · exact .inl ⟨x, by simp [hx], h1, h2⟩
          · simp at hx; subst hx
            simp only at h1 h2
            by_cases hap : a ≤ p.2
            · exact .inl ⟨p, by simp, h1, hap⟩
            · exact .inr ⟨by omega, by omega⟩
        · rintro (⟨x, hx, h1, h2⟩ | ⟨h1, h2⟩)
          · rcases List.mem_append.1 hx with hx | hx
            · exact ⟨x, by simp [hx], h1, h2⟩
            · simp at hx; subst hx
              exact ⟨(x.1, max x.2 r.2), by simp, h1, by simp only; omega⟩
          · exact ⟨(p.1, max p.2 r.2), by simp, by simp only; omega, by simp only; omega⟩
    · rename_i hre
      have hre' : p.2 + 1 < r.1 := by simp [reachesB] at hre; omega
      refine ⟨⟨?_, ?_⟩, ?_, fun a => ?_⟩
      · intro x hx
        rcases List.mem_append.1 hx with hx | hx
        · exact h.val x hx
        · simp at hx; subst hx; exact hr
      · rw [List.pairwise_append]
        refine ⟨h.sep, by simp, fun x hx y hy => ?_⟩
        simp at hy; subst hy
        rcases List.mem_append.1 hx with hx | hx
        · have := hsep.2.2 x hx p (by simp); omega
        · simp at hx; subst hx; omega
      · intro x hx
        rcases List.mem_append.1 hx with hx | hx
        · exact hlow x hx
        · simp at hx; subst hx; exact Nat.le_refl _
      · rw [mem_addrs, mem_addrs]
        constructor
        · rintro ⟨x, hx, h1, h2⟩
          rcases List.mem_append.1 hx with hx | hx
          · exact .inl ⟨x, hx, h1, h2⟩
          · simp at hx; subst hx; exact .inr ⟨h1, h2⟩
        · rintro (⟨x, hx, h1, h2⟩ | ⟨h1, h2⟩)
          · exact ⟨x, List.mem_append.2 (.inl hx), h1, h2⟩
          · exact ⟨r, by simp, h1, h2⟩

theorem canon_foldl (l : List (Nat × Nat)) : ∀ out, Canon out → (∀ x ∈ l, x.1 ≤ x.2) → SortedLow l → (∀ x ∈ out, ∀ y ∈ l, x.1 ≤ y.1) →
    Canon (l.foldl joinStep out) ∧ ∀ a, a ∈ addrsOf (l.foldl joinStep out) ↔ a ∈ addrsOf out ∨ a ∈ addrsOf l := by
  induction l with
  | nil => intro out h _ _ _; exact ⟨h, fun a => by simp [addrsOf]⟩
  | cons r l ih =>
    intro out h hv hs hlow
    obtain ⟨h1, h2, h3⟩ := canon_step (r := r) h (hv r (by simp)) (fun x hx => hlow x hx r (by simp))
    have hs' := List.pairwise_cons.1 hs
    obtain ⟨g1, g2⟩ := ih (joinStep out r) h1 (fun x hx => hv x (by simp [hx])) hs'.2 (fun x hx y hy => Nat.le_trans (h2 x hx) (hs'.1 y hy))
    refine ⟨g1, fun a => (g2 a).trans ?_⟩
    rw [h3 a]
    have e : a ∈ addrsOf (r :: l) ↔ (r.1 ≤ a ∧ a ≤ r.2) ∨ a ∈ addrsOf l := by
      rw [mem_addrs, mem_addrs]; simp
    rw [e]
    simp only [or_assoc]

theorem join_canon {l : List (Nat × Nat)} (hv : ∀ x ∈ l, x.1 ≤ x.2) (hs : SortedLow l) : Canon (joinL l) ∧ ∀ a, a ∈ addrsOf (joinL l) ↔ a ∈ addrsOf l := by
  obtain ⟨h1, h2⟩ := canon_foldl l [] Canon.nil hv hs (by simp)
  exact ⟨h1, fun a => (h2 a).trans (by simp [addrsOf])⟩

/-- A canonical list is known by its addresses. -/
theorem canon_unique : ∀ (l m : List (Nat × Nat)), Canon l → Canon m → (∀ a, a ∈ addrsOf l ↔ a ∈ addrsOf m) → l = m := by
  intro l
  induction l with
  | nil =>
    intro m _ hm h
    cases m with
    | nil => rfl
    | cons y m => exact absurd ((h y.1).2 (mem_addrs.2 ⟨y, by simp, Nat.le_refl _, hm.val y (by simp)⟩)) (by simp [addrsOf])
  | cons x l ih =>
    intro m hl hm h
    cases m with
    | nil => exact absurd ((h x.1).1 (mem_addrs.2 ⟨x, by simp, Nat.le_refl _, hl.val x (by simp)⟩)) (by simp [addrsOf])
    | cons y m =>
      have hx := hl.val x (by simp)
      have hy := hm.val y (by simp)
      have sx := (List.pairwise_cons.1 hl.sep).1
      have sy := (List.pairwise_cons.1 hm.sep).1
      have inx : ∀ a, a ∈ addrsOf (x :: l) ↔ (x.1 ≤ a ∧ a ≤ x.2) ∨ a ∈ addrsOf l := fun a => by rw [mem_addrs, mem_addrs]; simp
      have iny : ∀ a, a ∈ addrsOf (y :: m) ↔ (y.1 ≤ a ∧ a ≤ y.2) ∨ a ∈ addrsOf m := fun a => by rw [mem_addrs, mem_addrs]; simp
      have bx : ∀ a, a ∈ addrsOf l → x.2 + 1 < a := fun a ha => by
        obtain ⟨z, hz, h1, _⟩ := mem_addrs.1 ha
        have := sx z hz; omega
      have by' : ∀ a, a ∈ addrsOf m → y.2 + 1 < a := fun a ha => by
        obtain ⟨z, hz, h1, _⟩ := mem_addrs.1 ha
        have := sy z hz; omega
      have e1 : x.1 = y.1 := by
        have a1 := (iny x.1).1 ((h x.1).1 ((inx x.1).2 (.inl ⟨Nat.le_refl _, hx⟩)))
        have a2 := (inx y.1).1 ((h y.1).2 ((iny y.1).2 (.inl ⟨Nat.le_refl _, hy⟩)))
        rcases a1 with a1 | a1
        · rcases a2 with a2 | a2
          · omega
          · have := bx _ a2; omega
        · have b1 := by' _ a1
          rcases a2 with a2 | a2
          · omega
          · have := bx _ a2; omega
      have e2 : x.2 = y.2 := by
        rcases Nat.lt_trichotomy x.2 y.2 with hlt | heq | hgt
        · have := (inx (x.2 + 1)).1 ((h _).2 ((iny (x.2 + 1)).2 (.inl ⟨by omega, by omega⟩)))
          rcases this with a | a
          · omega
          · have := bx _ a; omega
        · exact heq
        · have := (iny (y.2 + 1)).1 ((h _).1 ((inx (y.2 + 1)).2 (.inl ⟨by omega, by omega⟩)))
          rcases this with a | a
          · omega
          · have := by' _ a; omega
      have e : x = y := Prod.ext e1 e2
      subst e
      rw [ih m hl.tail hm.tail fun a => ?_]
      constructor
      · intro ha
        have b := bx _ ha
        rcases (iny a).1 ((h a).1 ((inx a).2 (.inr ha))) with c | c
        · omega
        · exact c
      · intro ha
        have b := by' _ ha
        rcases (inx a).1 ((h a).2 ((iny a).2 (.inr ha))) with c | c
        · omega
        · exact c

/-- What is the same of any two answers that were made of the same addresses. -/
theorem pool_det {l m ol om : List (Nat × Nat)} {c d : Int} (hl : PoolRes l ol c) (hm : PoolRes m om d) (h : ∀ x, x ∈ l ↔ x ∈ m) : ol = om ∧ c = d := by
  rcases hl with ⟨⟨x, hx, hb⟩, rfl, rfl⟩ | ⟨l', hv, hp, hs, hl⟩
  · rcases hm with ⟨_, rfl, rfl⟩ | ⟨m', mv, _⟩
    · exact ⟨rfl, rfl⟩
    · exact absurd (mv x ((h x).1 hx)) (by omega)
  · rcases hm with ⟨⟨y, hy, hb⟩, _⟩ | ⟨m', mv, mp, ms, hm⟩
    · exact absurd (hv y ((h y).2 hy)) (by omega)
    · obtain ⟨c1, c2⟩ := join_canon (fun x hx => hv x (hp.mem_iff.1 hx)) hs
      obtain ⟨d1, d2⟩ := join_canon (fun x hx => mv x (mp.mem_iff.1 hx)) ms
      have e : joinL l' = joinL m' := canon_unique _ _ c1 d1 fun a => by
        rw [c2, d2, mem_addrs, mem_addrs]
        constructor
        · rintro ⟨x, hx, hh⟩; exact ⟨x, mp.mem_iff.2 ((h x).1 (hp.mem_iff.1 hx)), hh⟩
        · rintro ⟨x, hx, hh⟩; exact ⟨x, hp.mem_iff.2 ((h x).2 (mp.mem_iff.1 hx)), hh⟩
      rw [e] at hl
      rcases hl with ⟨h1, rfl, rfl⟩ | ⟨h1, rfl, rfl⟩ <;> rcases hm with ⟨h2, rfl, rfl⟩ | ⟨h2, rfl, rfl⟩
      · exact ⟨rfl, rfl⟩
      · omega
      · omega
      · exact ⟨rfl, rfl⟩

/-- What is answered without an error is canonical, and has at most 256 addresses. -/
theorem pool_ok {l ol : List (Nat × Nat)} (h : PoolRes l ol 0) : Canon ol ∧ (addrsOf ol).length ≤ 256 ∧ ∀ a, a ∈ addrsOf ol ↔ a ∈ addrsOf l := by
  rcases h with ⟨_, _, h⟩ | ⟨l', hv, hp, hs, ⟨_, _, h⟩ | ⟨hn, rfl, _⟩⟩
  · cases h
  · cases h
  · obtain ⟨c1, c2⟩ := join_canon (fun x hx => hv x (hp.mem_iff.1 hx)) hs
    refine ⟨c1, hn, fun a => (c2 a).trans ?_⟩
    rw [mem_addrs, mem_addrs]
    constructor
    · rintro ⟨x, hx, hh⟩; exact ⟨x, hp.mem_iff.1 hx, hh⟩
    · rintro ⟨x, hx, hh⟩; exact ⟨x, hp.mem_iff.2 hx, hh⟩

/-- The pool of a pool is this pool. -/
theorem pool_self {ol om : List (Nat × Nat)} {c : Int} (h : Canon ol) (hn : (addrsOf ol).length ≤ 256) (hp : PoolRes ol om c) : om = ol ∧ c = 0 := by
  rcases hp with ⟨⟨x, hx, hb⟩, _⟩ | ⟨l', hv, hp, hs, hr⟩
  · exact absurd (h.val x hx) (by omega)
  · obtain ⟨c1, c2⟩ := join_canon (fun x hx => hv x (hp.mem_iff.1 hx)) hs
    have e : joinL l' = ol := canon_unique _ _ c1 h fun a => by
      rw [c2, mem_addrs, mem_addrs]
      constructor
      · rintro ⟨x, hx, hh⟩; exact ⟨x, hp.mem_iff.1 hx, hh⟩
      · rintro ⟨x, hx, hh⟩; exact ⟨x, hp.mem_iff.2 hx, hh⟩
    rw [e] at hr
    rcases hr with ⟨h1, _, _⟩ | ⟨_, h1, h2⟩
    · omega
    · exact ⟨h1, h2⟩

theorem pool_len {l ol : List (Nat × Nat)} {c : Int} (h : PoolRes l ol c) : ol.length ≤ l.length := by
  rcases h with ⟨_, rfl, _⟩ | ⟨l', hv, hp, hs, ⟨_, rfl, _⟩ | ⟨_, rfl, _⟩⟩
  · simp
  · simp
  · rw [← hp.length_eq]; exact joinL_len l'

theorem pool_bad {l ol : List (Nat × Nat)} {c : Int} (h : PoolRes l ol c) (hc : c ≠ 0) : ol = [] := by
  rcases h with ⟨_, h, _⟩ | ⟨l', hv, hp, hs, ⟨_, h, _⟩ | ⟨_, _, h⟩⟩
  · exact h
  · exact h
  · exact absurd h hc

theorem pool_code {l ol : List (Nat × Nat)} {c : Int} (h : PoolRes l ol c) : c = 0 ∨ c = 1 ∨ c = 3 := by
  rcases h with ⟨_, _, h⟩ | ⟨l', hv, hp, hs, ⟨_, _, h⟩ | ⟨_, _, h⟩⟩
  · exact .inr (.inl h)
  · exact .inr (.inr h)
  · exact .inl h

end Go.Proofs.YtmaohnbddlccdaaGreat
end
