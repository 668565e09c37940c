/- addr.Count, addr.At, addr.Index over addr.numbered. -/
import Derived.Test.YtjkkdmfpekkfhaaAddrN
namespace Go.Proofs.Ytjkkdmfpekkfhaa
open Go.RowKit Go.Shelf
attribute [local go_sem] Oper.semAt_some

def encN (x : Nat × Nat) : Array Value := #[.int .i64 (x.1 : Int), .int .u32 (x.2 : Int)]

set_option maxHeartbeats 1000000 in
theorem numbered_in (F : Fence) (n : Nat) (h5 : F.fn 61) (hro : F.round = none) (a : Option Addr) (len cap : Nat) (w : World) :
    CallsIn F n Try.prog 61 #[.slice a len cap] w fun e w' => e = .returned (.func (.func 70) #[] #[.pointer (some ⟨w.heap.size, 0, none⟩)]) ∧ w' = w.alloc (.cells #[.slice a len cap] 22) := by
  refine callsIn_of_wp Try.func61 rfl h5 ?_ hro
  simp only [Try.ntmps61, List.size_toArray, List.length_cons, List.length_nil, Nat.reduceAdd, Nat.reduceSub, Array.replicate_succ, Array.replicate_zero, List.push_toArray, List.append_toArray, List.nil_append, List.cons_append]
  gi_wp2
  go_ret
  exact ⟨rfl, rfl⟩

theorem numbered_stops (F : Fence) (n : Nat) (h7 : F.fn 70) (hro : F.round = none) (hn : 1 ≤ n) (Bs n₀ : Nat) (A : Option Addr) (cap : Nat) (l : List (Nat × Nat)) (hreach : l.length * 8 ≤ 140737488351232) (w : World) (hBs : Bs < w.heap.size) (hn₀ : n₀ ≤ w.heap.size)
    (hc : w.cell? ⟨Bs, 0, none⟩ = some (.slice A l.length cap)) (hI : Rg w n₀ A l) :
    SeqStopsK F n Try.prog 70 #[.pointer (some ⟨Bs, 0, none⟩)] encN (Keep n₀ w.heap.size) (fun ys => ys = num ((addrsOf l).take 257)) (fun pre => ∃ av, av <+: (addrsOf l).take 257 ∧ pre = num av) 257 w := fun lp J Jx W hW hJ _ hY h0 =>
  numbered1_in F n h7 hro hn lp Bs n₀ w.heap.size A cap l hreach J Jx W hW.size (Nat.le_trans hn₀ hW.size) hJ hY ((hW.cell (p := ⟨Bs, 0, none⟩) hBs).trans hc) (hI.below (hW.mono hn₀)) h0

/-- How many have come, as the program reckons it. -/
def cntW (pre : List (Nat × Nat)) : Int := match pre.getLast? with | none => 0 | some x => wrap64 ((x.1 : Int) + 1)
theorem cntW_snoc (pre : List (Nat × Nat)) (x : Nat × Nat) : cntW (pre ++ [x]) = wrap64 ((x.1 : Int) + 1) := by simp [cntW]

theorem cntW_num (av : List Nat) (h : av.length ≤ 257) : cntW (num av) = (av.length : Nat) := by
  rcases nil_or_snoc av with rfl | ⟨p, a, rfl⟩
  · rfl
  · rw [num_snoc, cntW_snoc]
    simp at h ⊢
    rw [IntWalk.wrap64_in _ (by omega)]

set_option maxRecDepth 100000 in
set_option maxHeartbeats 2000000 in
theorem count_in (F : Fence) (n : Nat) (h3 : F.fn 47) (h5 : F.fn 61) (h7 : F.fn 70) (hro : F.round = none) (hn : 3 ≤ n) (A : Option Addr) (cap : Nat) (l : List (Nat × Nat)) (hreach : l.length * 8 ≤ 140737488351232) (w : World) (hI : Rg w w.heap.size A l) :
    CallsIn F n Try.prog 47 #[.slice A l.length cap] w fun e W' => e = .returned (.int .i64 ((min 257 (addrsOf l).length : Nat) : Int)) ∧ Below w.heap.size w W' := by
  have h1 : 1 ≤ n := by omega
  refine callsIn_of_wp_marks Try.func47 rfl h3 ?_ hro
  simp only [Try.ntmps47, List.size_toArray, List.length_cons, List.length_nil, Nat.reduceAdd, Nat.reduceSub, Array.replicate_succ, Array.replicate_zero, List.push_toArray, List.append_toArray, List.nil_append, List.cons_append]
  gi_wp2_with (gi_at_call 61; refine (numbered_in F (n - 1) h5 hro _ _ _ _).mono ?_; rintro e w' ⟨rfl, rfl⟩)
  have bS := Boxed.new w 3 (.int .i64 0)
  have bN := Boxed.new (w.alloc (.cells #[.int .i64 0] 3)) 22 (.slice A l.length cap)
  rw [World.size_alloc] at bN
  have hB0 : Below w.heap.size w ((w.alloc (.cells #[.int .i64 0] 3)).alloc (.cells #[.slice A l.length cap] 22)) := ((Below.refl _ w).alloc (Nat.le_refl _) _).alloc (by simp) _
  refine wpIn_rangeFunc_ownG hro h1 (gf := 70) (lb := #[.pointer (some ⟨w.heap.size + 1, 0, none⟩)]) rfl h7 (enters_of Try.func70 (by kernel_rfl) rfl)
    (numbered_stops F (n - 1) h7 hro (by omega) (w.heap.size + 1) w.heap.size A cap l hreach _ (by simp) (by simp; omega) bN.cell (hI.below hB0)) keep_t (keep_b (by simp; omega)) (Below.refl _ _) (fun _ => rfl)
    (fun pre W => (W.cell? ⟨w.heap.size, 0, none⟩ = some (.int .i64 (cntW pre)) ∧ W.frozen? ⟨w.heap.size, 0, none⟩ = false) ∧ Below w.heap.size w W)
    (fun _ _ _ => False)
    (OwnFrom.and (Own.from (fun s A B row hs hg hr => ⟨cell_kept hs.1 hg hr, (frozen_kept hs.1 hg hr).trans hs.2⟩) _) (ownFrom_below (Nat.le_refl _) (by simp; omega)))
    (fun _ _ _ _ _ hs _ _ => hs)
    ⟨⟨(bS.alloc _).cell, (bS.alloc _).frozen⟩, hB0⟩
    (fun x => { tmps := #[.slice A l.length cap, undef, .int .i64 0, .pointer (some ⟨w.heap.size, 0, none⟩), .int .i64 (x.1 : Int), .slice A l.length cap, .func (.func 70) #[] #[.pointer (some ⟨w.heap.size + 1, 0, none⟩)], .int .i64 (x.1 : Int), .int .u32 (x.2 : Int), undef, undef, undef], defers := [] }) ?assign ?body ?done ?stop
  case assign =>
    intro l x W K hK
    simp only [encN]
    gi_wp2
    exact hK
  case body =>
    rintro l pre x W ⟨⟨hc, hf⟩, hB⟩ _
    gi_wp2
    exact ⟨(KeepsOthers.setCell _ _ _).from _, Keep.setCell W (p := ⟨w.heap.size, 0, none⟩) (Nat.le_refl _) (by simp; omega) _, ⟨by rw [cntW_snoc]; exact World.cell?_setCell_same' _ _ _ (by rw [hc]; rfl), by rw [World.frozen?_setCell]; exact hf⟩, hB.setCell (p := ⟨w.heap.size, 0, none⟩) (Nat.le_refl _) _⟩
  case done =>
    rintro D ys W hD rfl ⟨⟨hc, _⟩, hB⟩ hK
    rw [cntW_num _ (by simp; omega)] at hc
    gi_wp2
    refine ⟨by simp, .inl ⟨_, _, rfl, run_takeDeferred hK, ?_⟩⟩
    exact ⟨_, results_tmp rfl _ _ _, rfl, hB.trans (belowK_b (w := w) (Nat.le_refl _) W D _ _ (by simp at hD; omega) hK rfl rfl)⟩
  case stop =>
    rintro D c pre W _ _ h _
    exact h.elim

theorem count_any (A : Option Addr) (cap : Nat) (l : List (Nat × Nat)) (hreach : l.length * 8 ≤ 140737488351232) (w : World) (hI : Rg w w.heap.size A l) :
    Calls Try.prog 47 #[.slice A l.length cap] w fun e W' => e = .returned (.int .i64 ((min 257 (addrsOf l).length : Nat) : Int)) ∧ Below w.heap.size w W' :=
  (callsIn_wide (n := 3)).1 (count_in Fence.wide 3 trivial trivial trivial rfl (by omega) A cap l hreach w hI)

/-- The n-th address. -/
def atL (av : List Nat) (n : Int) : Nat × Int := match (if n < 0 then none else av[n.toNat]?) with | some a => (a, 0) | none => (0, 4)

theorem num_snoc_inv {av : List Nat} {ini : List (Nat × Nat)} {last : Nat × Nat} (h : num av = ini ++ [last]) : ∃ av0, av = av0 ++ [last.2] ∧ ini = num av0 ∧ last.1 = av0.length := by
  rcases nil_or_snoc av with rfl | ⟨p, a, rfl⟩
  · simp [num] at h
  · rw [num_snoc] at h
    obtain ⟨rfl, h2⟩ := List.append_inj' h rfl
    simp at h2
    subst h2
    exact ⟨p, rfl, rfl, rfl⟩

theorem mem_num {av : List Nat} {i : Nat} {a : Nat} (h : av[i]? = some a) : (i, a) ∈ num av := by
  unfold num
  rw [List.mem_map]
  exact ⟨(a, i), by rw [List.mem_zipIdx_iff_getElem?]; exact h, rfl⟩

theorem atL_none {av : List Nat} {n : Int} (h : ∀ y ∈ num av, (y.1 : Int) ≠ n) : atL av n = (0, 4) := by
  unfold atL
  split
  · rename_i a ha
    split at ha
    · cases ha
    · exact absurd (by simp; omega) (h _ (mem_num ha))
  · rfl

theorem atL_some {av av0 : List Nat} {a : Nat} {n : Int} (hp : av0 ++ [a] <+: av) (h : (av0.length : Int) = n) : atL av n = (a, 0) := by
  obtain ⟨r, rfl⟩ := hp
  subst h
  unfold atL
  rw [if_neg (by omega)]
  simp

theorem aboxed_put {W : World} {B : Nat} {t : TypeId} {v : Value} (h : Boxed W B t v) {D : Nat} {x : Option (List Deferred)} (hK : W.heap[D]? = some (.deferred x)) (o : Obj) : Boxed (W.putObj D o) B t v := by
  refine h.kept (grownBy_putObj' W D o) ?_
  intro e
  cases e
  unfold Boxed at h
  rw [h] at hK
  cases hK

set_option maxRecDepth 100000 in
set_option maxHeartbeats 2000000 in
theorem at_in (F : Fence) (n : Nat) (h3 : F.fn 48) (h5 : F.fn 61) (h7 : F.fn 70) (hro : F.round = none) (hn : 3 ≤ n) (A : Option Addr) (cap : Nat) (l : List (Nat × Nat)) (q : Int) (hreach : l.length * 8 ≤ 140737488351232) (w : World) (hI : Rg w w.heap.size A l) :
    CallsIn F n Try.prog 48 #[.slice A l.length cap, .int .i64 q] w fun e W' => e = .returned (.tuple #[.int .u32 ((atL ((addrsOf l).take 257) q).1 : Nat), .int .i64 (atL ((addrsOf l).take 257) q).2]) ∧ Below w.heap.size w W' := by
  have h1 : 1 ≤ n := by omega
  refine callsIn_of_wp_marks Try.func48 rfl h3 ?_ hro
  simp only [Try.ntmps48, List.size_toArray, List.length_cons, List.length_nil, Nat.reduceAdd, Nat.reduceSub, Array.replicate_succ, Array.replicate_zero, List.push_toArray, List.append_toArray, List.nil_append, List.cons_append]
  gi_wp2_with (gi_at_call 61; refine (numbered_in F (n - 1) h5 hro _ _ _ _).mono ?_; rintro e w' ⟨rfl, rfl⟩)
  have b0 := Boxed.new w 3 (.int .i64 q)
  have b1 := Boxed.new (w.alloc (.cells #[.int .i64 q] 3)) 32 (.int .u32 0)
  have b2 := Boxed.new ((w.alloc (.cells #[.int .i64 q] 3)).alloc (.cells #[.int .u32 0] 32)) 35 (.int .i64 0)
  have b3 := Boxed.new (((w.alloc (.cells #[.int .i64 q] 3)).alloc (.cells #[.int .u32 0] 32)).alloc (.cells #[.int .i64 0] 35)) 22 (.slice A l.length cap)
  simp only [World.size_alloc] at b1 b2 b3
  have hB0 : Below w.heap.size w ((((w.alloc (.cells #[.int .i64 q] 3)).alloc (.cells #[.int .u32 0] 32)).alloc (.cells #[.int .i64 0] 35)).alloc (.cells #[.slice A l.length cap] 22)) := ((((Below.refl _ w).alloc (Nat.le_refl _) _).alloc (by simp) _).alloc (by simp; omega) _).alloc (by simp; omega) _
  refine wpIn_rangeFunc_ownG hro h1 (gf := 70) (lb := #[.pointer (some ⟨w.heap.size + 1 + 1 + 1, 0, none⟩)]) rfl h7 (enters_of Try.func70 (by kernel_rfl) rfl)
    (numbered_stops F (n - 1) h7 hro (by omega) (w.heap.size + 1 + 1 + 1) w.heap.size A cap l hreach _ (by simp) (by simp; omega) b3.cell (hI.below hB0)) keep_t (keep_b (by simp; omega)) (Below.refl _ _) (fun _ => rfl)
    (fun pre W => ((∀ y ∈ pre, (y.1 : Int) ≠ q) ∧ Boxed W w.heap.size 3 (.int .i64 q) ∧ Boxed W (w.heap.size + 1) 32 (.int .u32 0) ∧ Boxed W (w.heap.size + 1 + 1) 35 (.int .i64 0)) ∧ Below w.heap.size w W)
    (fun c pre W => (c = .ret ∧ ∃ ini last, pre = ini ++ [last] ∧ (last.1 : Int) = q ∧ Boxed W (w.heap.size + 1) 32 (.int .u32 (last.2 : Nat)) ∧ Boxed W (w.heap.size + 1 + 1) 35 (.int .i64 0)) ∧ Below w.heap.size w W)
    (OwnFrom.and (Own.from (fun s A B row hs hg hr => ⟨hs.1, boxed_own _ _ (fun _ => _) s A B row hs.2.1 hg hr, boxed_own _ _ (fun _ => _) s A B row hs.2.2.1 hg hr, boxed_own _ _ (fun _ => _) s A B row hs.2.2.2 hg hr⟩) _) (ownFrom_below (Nat.le_refl _) (by simp; omega)))
    (fun c => OwnFrom.and (Own.from (fun s A B row hs hg hr => by obtain ⟨hc, ini, last, e1, e2, e3, e4⟩ := hs; exact ⟨hc, ini, last, e1, e2, boxed_own _ _ (fun _ => _) s A B row e3 hg hr, boxed_own _ _ (fun _ => _) s A B row e4 hg hr⟩) _) (ownFrom_below (Nat.le_refl _) (by simp; omega)))
    ⟨⟨by simp, ((b0.alloc _).alloc _).alloc _, (b1.alloc _).alloc _, b2.alloc _⟩, hB0⟩
    (fun x => { tmps := #[.slice A l.length cap, .int .i64 q, undef, .pointer (some ⟨w.heap.size, 0, none⟩), .pointer (some ⟨w.heap.size + 1, 0, none⟩), .pointer (some ⟨w.heap.size + 1 + 1, 0, none⟩), .int .i64 (x.1 : Int), .int .u32 (x.2 : Int), .slice A l.length cap, .func (.func 70) #[] #[.pointer (some ⟨w.heap.size + 1 + 1 + 1, 0, none⟩)], .int .i64 (x.1 : Int), .int .u32 (x.2 : Int), undef, undef, undef, undef], defers := [] }) ?assign ?body ?done ?stop
  case assign =>
    intro l x W K hK
    simp only [encN]
    gi_wp2
    exact hK
  case body =>
    rintro l pre x W ⟨⟨hp, c0, c1, c2⟩, hB⟩ _
    have d0 := c0.cell
    have d1 := c1.cell
    have d2 := c2.cell
    have f1 := c1.frozen
    have f2 := c2.frozen
    gi_wp2
    · rename_i hx
      have hx' : (x.1 : Int) = q := eq_of_beq hx
      have k1 := c1.set (.int .u32 (x.2 : Int))
      have k2 := c2.other (B' := w.heap.size + 1) (by omega) (.int .u32 (x.2 : Int))
      have hB1 := hB.setCell (p := ⟨w.heap.size + 1, 0, none⟩) (by simp) (.int .u32 (x.2 : Int))
      exact ⟨((KeepsOthers.setCell _ _ _).trans (KeepsOthers.setCell _ _ _)).from _, ⟨rfl, pre, x, rfl, hx', k1.other (by omega) _, k2.set _⟩, hB1.setCell (p := ⟨w.heap.size + 1 + 1, 0, none⟩) (by simp; omega) _⟩
    · rename_i hx
      exact ⟨KeepsFrom.refl _ _, Keep.refl _ _ _, ⟨fun y hy => (List.mem_append.1 hy).elim (hp y) (fun e e' => by simp at e; subst e; simp [e'] at hx), c0, c1, c2⟩, hB⟩
  case done =>
    rintro D ys W hD rfl ⟨⟨hne, _, c1, c2⟩, hB⟩ hK
    have d1 := c1.cell
    have f1 := c1.frozen
    have d2 := c2.cell
    have f2 := c2.frozen
    have HA := Lib.hid (atL_none hne)
    clear hne
    gi_wp2
    have hK2 := ((KeepsOthers.setCell W ⟨w.heap.size + 1, 0, none⟩ (.int .u32 0)).trans (KeepsOthers.setCell _ ⟨w.heap.size + 1 + 1, 0, none⟩ (.int .i64 4))).same D _ hK rfl
    have k1 := aboxed_put ((c1.set (.int .u32 0)).other (B' := w.heap.size + 1 + 1) (by omega) (.int .i64 4)) hK2 (.deferred none)
    have k2 := aboxed_put ((c2.other (B' := w.heap.size + 1) (by omega) (.int .u32 0)).set (.int .i64 4)) hK2 (.deferred none)
    have e1 := k1.cell
    have e2 := k2.cell
    refine ⟨by simp, .inl ⟨_, _, rfl, run_takeDeferred hK2, ?_⟩⟩
    rw [HA.out]
    refine ⟨.tuple #[.int .u32 0, .int .i64 4], ?_, rfl, ((hB.setCell (p := ⟨w.heap.size + 1, 0, none⟩) (by simp) (.int .u32 0)).setCell (p := ⟨w.heap.size + 1 + 1, 0, none⟩) (by simp; omega) (.int .i64 4)).trans (belowK_b (w := w) (Nat.le_refl _) _ D _ _ (by simp at hD; omega) hK2 rfl rfl)⟩
    simp [results, Try.f48, go_sem, e1, e2]
  case stop =>
    rintro D c pre W hD ⟨av, hav, rfl⟩ ⟨⟨rfl, ini, last, e1, e2, c1, c2⟩, hB⟩ hK
    gi_wp2
    have k1 := (aboxed_put c1 hK (.deferred none)).cell
    have k2 := (aboxed_put c2 hK (.deferred none)).cell
    obtain ⟨av0, rfl, rfl, h4⟩ := num_snoc_inv e1
    rw [h4] at e2
    refine ⟨by simp, .inl ⟨_, _, rfl, run_takeDeferred hK, ?_⟩⟩
    rw [atL_some hav e2]
    refine ⟨.tuple #[.int .u32 (last.2 : Int), .int .i64 0], ?_, rfl, hB.trans (belowK_b (w := w) (Nat.le_refl _) W D _ _ (by simp at hD; omega) hK rfl rfl)⟩
    simp [results, Try.f48, go_sem, k1, k2]

theorem at_any (A : Option Addr) (cap : Nat) (l : List (Nat × Nat)) (q : Int) (hreach : l.length * 8 ≤ 140737488351232) (w : World) (hI : Rg w w.heap.size A l) :
    Calls Try.prog 48 #[.slice A l.length cap, .int .i64 q] w fun e W' => e = .returned (.tuple #[.int .u32 ((atL ((addrsOf l).take 257) q).1 : Nat), .int .i64 (atL ((addrsOf l).take 257) q).2]) ∧ Below w.heap.size w W' :=
  (callsIn_wide (n := 3)).1 (at_in Fence.wide 3 trivial trivial trivial rfl (by omega) A cap l q hreach w hI)

end Go.Proofs.Ytjkkdmfpekkfhaa
