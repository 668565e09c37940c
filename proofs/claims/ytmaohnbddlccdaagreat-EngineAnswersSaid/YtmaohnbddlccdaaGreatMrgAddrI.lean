/- addr.Index. (Cut out of AddrC.) -/
import Derived.Test.YtmaohnbddlccdaaGreatMrgAddrN
namespace Go.Proofs.YtmaohnbddlccdaaGreat
open Go.RowKit Go.Shelf
attribute [local go_sem] Oper.semAt_some

/-- The number of an address, or -1. -/
def idxL (av : List Nat) (a : Nat) : Int := if a ∈ av then (av.idxOf a : Nat) else -1

theorem idxL_none {av : List Nat} {a : Nat} (h : ∀ y ∈ num av, y.2 ≠ a) : idxL av a = -1 := by
  unfold idxL
  rw [if_neg]
  intro hm
  obtain ⟨i, hi⟩ := List.getElem?_of_mem hm
  exact h _ (mem_num hi) rfl

theorem idxL_some {av av0 : List Nat} {a : Nat} (hp : av0 ++ [a] <+: av) (h : ∀ y ∈ num av0, y.2 ≠ a) : idxL av a = (av0.length : Nat) := by
  obtain ⟨r, rfl⟩ := hp
  have hn : a ∉ av0 := by
    intro hm
    obtain ⟨i, hi⟩ := List.getElem?_of_mem hm
    exact h _ (mem_num hi) rfl
  unfold idxL
  rw [if_pos (by simp), List.append_assoc, List.idxOf_append, if_neg hn]
  simp

set_option maxRecDepth 100000 in
set_option maxHeartbeats 2000000 in
theorem index_in (F : Fence) (n : Nat) (h3 : F.fn 125) (h5 : F.fn 107) (h7 : F.fn 154) (hro : F.round = none) (hn : 3 ≤ n) (A : Option Addr) (cap : Nat) (l : List (Nat × Nat)) (q : Nat) (hreach : l.length * 8 ≤ 140737488351232) (w : World) (hI : Rg w w.heap.size A l) :
    CallsIn F n Tryz.prog 125 #[.slice A l.length cap, .int .u32 q] w fun e W' => e = .returned (.int .i64 (idxL ((addrsOf l).take 257) q)) ∧ Below w.heap.size w W' := by
  have h1 : 1 ≤ n := by omega
  refine callsIn_of_wp_marks Tryz.func125 rfl h3 ?_ hro
  simp only [Tryz.ntmps125, List.size_toArray, List.length_cons, List.length_nil, Nat.reduceAdd, Nat.reduceSub, Array.replicate_succ, Array.replicate_zero, List.push_toArray, List.append_toArray, List.nil_append, List.cons_append]
  gi_wp2_with (gi_at_call 107; refine (numbered_in F (n - 1) h5 hro _ _ _ _).mono ?_; rintro e w' ⟨rfl, rfl⟩)
  have b0 := Boxed.new w 23 (.int .u32 q)
  have b1 := Boxed.new (w.alloc (.cells #[.int .u32 q] 23)) 3 (.int .i64 0)
  have b3 := Boxed.new ((w.alloc (.cells #[.int .u32 q] 23)).alloc (.cells #[.int .i64 0] 3)) 25 (.slice A l.length cap)
  simp only [World.size_alloc] at b1 b3
  have hB0 : Below w.heap.size w (((w.alloc (.cells #[.int .u32 q] 23)).alloc (.cells #[.int .i64 0] 3)).alloc (.cells #[.slice A l.length cap] 25)) := (((Below.refl _ w).alloc (Nat.le_refl _) _).alloc (by simp) _).alloc (by simp; omega) _
  refine wpIn_rangeFunc_ownG hro h1 (gf := 154) (lb := #[.pointer (some ⟨w.heap.size + 1 + 1, 0, none⟩)]) rfl h7 (enters_of Tryz.func154 (by kernel_rfl) rfl)
    (numbered_stops F (n - 1) h7 hro (by omega) (w.heap.size + 1 + 1) w.heap.size A cap l hreach _ (by simp) (by simp; omega) b3.cell (hI.below hB0)) keep_t (keep_b (by simp; omega)) (Below.refl _ _) (fun _ => rfl)
    (fun pre W => ((∀ y ∈ pre, y.2 ≠ q) ∧ Boxed W w.heap.size 23 (.int .u32 q) ∧ Boxed W (w.heap.size + 1) 3 (.int .i64 0)) ∧ Below w.heap.size w W)
    (fun c pre W => (c = .ret ∧ ∃ ini last, pre = ini ++ [last] ∧ (∀ y ∈ ini, y.2 ≠ q) ∧ last.2 = q ∧ Boxed W (w.heap.size + 1) 3 (.int .i64 (last.1 : Nat))) ∧ Below w.heap.size w W)
    (OwnFrom.and (Own.from (fun s A B row hs hg hr => ⟨hs.1, boxed_own _ _ (fun _ => _) s A B row hs.2.1 hg hr, boxed_own _ _ (fun _ => _) s A B row hs.2.2 hg hr⟩) _) (ownFrom_below (Nat.le_refl _) (by simp; omega)))
    (fun c => OwnFrom.and (Own.from (fun s A B row hs hg hr => by obtain ⟨hc, ini, last, e1, e2, e3, e4⟩ := hs; exact ⟨hc, ini, last, e1, e2, e3, boxed_own _ _ (fun _ => _) s A B row e4 hg hr⟩) _) (ownFrom_below (Nat.le_refl _) (by simp; omega)))
    ⟨⟨by simp, (b0.alloc _).alloc _, b1.alloc _⟩, hB0⟩
    (fun x => { tmps := #[.slice A l.length cap, .int .u32 q, undef, .pointer (some ⟨w.heap.size, 0, none⟩), .pointer (some ⟨w.heap.size + 1, 0, none⟩), .int .i64 (x.1 : Int), .int .u32 (x.2 : Int), .slice A l.length cap, .func (.func 154) #[] #[.pointer (some ⟨w.heap.size + 1 + 1, 0, none⟩)], .int .i64 (x.1 : Int), .int .u32 (x.2 : Int), undef, undef, undef, undef], defers := [] }) ?assign ?body ?done ?stop
  case assign =>
    intro l x W K hK
    simp only [encN]
    gi_wp2
    exact hK
  case body =>
    rintro l pre x W ⟨⟨hp, c0, c1⟩, hB⟩ _
    have d0 := c0.cell
    have d1 := c1.cell
    have f1 := c1.frozen
    gi_wp2
    · rename_i hx
      have hx' : x.2 = q := by simp at hx; omega
      exact ⟨(KeepsOthers.setCell _ _ _).from _, ⟨rfl, pre, x, rfl, hp, hx', c1.set _⟩, hB.setCell (p := ⟨w.heap.size + 1, 0, none⟩) (by simp) _⟩
    · rename_i hx
      exact ⟨KeepsFrom.refl _ _, Keep.refl _ _ _, ⟨fun y hy => (List.mem_append.1 hy).elim (hp y) (fun e e' => by simp at e; subst e; simp [e'] at hx), c0, c1⟩, hB⟩
  case done =>
    rintro D ys W hD rfl ⟨⟨hne, _, c1⟩, hB⟩ hK
    have d1 := c1.cell
    have f1 := c1.frozen
    have HA := Lib.hid (idxL_none hne)
    clear hne
    gi_wp2
    have hK2 := (KeepsOthers.setCell W ⟨w.heap.size + 1, 0, none⟩ (.int .i64 (-1))).same D _ hK rfl
    have e1 := (aboxed_put (c1.set (.int .i64 (-1))) hK2 (.deferred none)).cell
    refine ⟨by simp, .inl ⟨_, _, rfl, run_takeDeferred hK2, ?_⟩⟩
    rw [HA.out]
    refine ⟨.int .i64 (-1), ?_, rfl, (hB.setCell (p := ⟨w.heap.size + 1, 0, none⟩) (by simp) (.int .i64 (-1))).trans (belowK_b (w := w) (Nat.le_refl _) _ D _ _ (by simp at hD; omega) hK2 rfl rfl)⟩
    simp [results, Tryz.f125, go_sem, e1]
  case stop =>
    rintro D c pre W hD ⟨av, hav, rfl⟩ ⟨⟨rfl, ini, last, e1, e2, e3, c1⟩, hB⟩ hK
    gi_wp2
    have k1 := (aboxed_put c1 hK (.deferred none)).cell
    obtain ⟨av0, rfl, rfl, h4⟩ := num_snoc_inv e1
    subst e3
    rw [h4] at k1
    refine ⟨by simp, .inl ⟨_, _, rfl, run_takeDeferred hK, ?_⟩⟩
    rw [idxL_some hav e2]
    refine ⟨.int .i64 (av0.length : Nat), ?_, rfl, hB.trans (belowK_b (w := w) (Nat.le_refl _) W D _ _ (by simp at hD; omega) hK rfl rfl)⟩
    simp [results, Tryz.f125, go_sem, k1]

theorem index_any (A : Option Addr) (cap : Nat) (l : List (Nat × Nat)) (q : Nat) (hreach : l.length * 8 ≤ 140737488351232) (w : World) (hI : Rg w w.heap.size A l) :
    Calls Tryz.prog 125 #[.slice A l.length cap, .int .u32 q] w fun e W' => e = .returned (.int .i64 (idxL ((addrsOf l).take 257) q)) ∧ Below w.heap.size w W' :=
  (callsIn_wide (n := 3)).1 (index_in Fence.wide 3 trivial trivial trivial rfl (by omega) A cap l q hreach w hI)

end Go.Proofs.YtmaohnbddlccdaaGreat
