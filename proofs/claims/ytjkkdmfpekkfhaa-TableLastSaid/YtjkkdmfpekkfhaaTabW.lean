/- The program's table: First. -/
import Derived.Test.YtjkkdmfpekkfhaaTabV
namespace Go.Proofs.Ytjkkdmfpekkfhaa
open Go.RowKit Go.Sort Go.Maps Go.Shelf Go.Lib
attribute [local go_sem] Oper.semAt_some

def fstA (l : List LV) : Value := .int .u32 (((minA l).getD 0 : Nat) : Int)
def fstB (l : List LV) : Value := .bool (minA l).isSome
/-- What the body of First keeps to. -/
def FstI (w : World) (M : Nat) (pre : List LV) (V : World) : Prop := ((Boxed V w.heap.size 32 (fstA pre) ∧ Boxed V (w.heap.size + 1) 4 (fstB pre)) ∧ Below w.heap.size w V) ∧ M ≤ V.heap.size

theorem fst_stored {w V : World} {M N a : Nat} {S : Nat → Prop} {pre l2 : List LV} (hi : FstI w M pre V) (hn : ¬ S w.heap.size ∧ ¬ S (w.heap.size + 1)) (hm : minA l2 = some a) :
    KeepsFrom N V ((V.setCell ⟨w.heap.size, 0, none⟩ (.int .u32 (a : Int))).setCell ⟨w.heap.size + 1, 0, none⟩ (.bool true)) ∧ KpI S V ((V.setCell ⟨w.heap.size, 0, none⟩ (.int .u32 (a : Int))).setCell ⟨w.heap.size + 1, 0, none⟩ (.bool true)) ∧ FstI w M l2 ((V.setCell ⟨w.heap.size, 0, none⟩ (.int .u32 (a : Int))).setCell ⟨w.heap.size + 1, 0, none⟩ (.bool true)) := by
  obtain ⟨⟨⟨h1, h2⟩, h3⟩, h4⟩ := hi
  have k1 := KeepsOthers.setCell V ⟨w.heap.size, 0, none⟩ (.int .u32 (a : Int))
  have k2 := KeepsOthers.setCell (V.setCell ⟨w.heap.size, 0, none⟩ (.int .u32 (a : Int))) ⟨w.heap.size + 1, 0, none⟩ (.bool true)
  have ea : fstA l2 = .int .u32 (a : Int) := by unfold fstA; rw [hm]; rfl
  have eb : fstB l2 = .bool true := by unfold fstB; rw [hm]; rfl
  refine ⟨(k1.trans k2).from _, ⟨(k1.trans k2).walks, fun k hk => ?_⟩, ⟨⟨⟨?_, ?_⟩, ?_⟩, ?_⟩⟩
  · refine (Below.heap_setCell _ ⟨w.heap.size + 1, 0, none⟩ _ k (fun e => hn.2 ?_)).trans (Below.heap_setCell V ⟨w.heap.size, 0, none⟩ _ k (fun e => hn.1 ?_))
    · rw [show k = w.heap.size + 1 from e] at hk
      exact hk
    · rw [show k = w.heap.size from e] at hk
      exact hk
  · rw [ea]
    exact (h1.set _).other (by omega) _
  · rw [eb]
    exact (h2.other (by omega) _).set _
  · exact (h3.setCell (p := ⟨w.heap.size, 0, none⟩) (Nat.le_refl _) _).setCell (p := ⟨w.heap.size + 1, 0, none⟩) (by simp) _
  · exact Nat.le_trans h4 (k1.trans k2).walks.size

set_option maxRecDepth 100000 in
set_option maxHeartbeats 3000000 in
theorem tfst_in {w : World} {g b : Nat} {L : List LV} (q : Int) (h1 : w.heap[g]? = some (.cells #[.map (some b)] 66 (0, 0))) (h2 : KL.Has w b L) (hT : TabL L) :
    CallsIn Fence.wide 3 Try.prog 13 #[.pointer (some ⟨g, 0, none⟩), .int .i64 q] w fun e w' => e = .returned (fstV (fstL L q)) ∧ Below w.heap.size w w' := by
  obtain ⟨w1, hw1⟩ : ∃ w1, w1 = (w.alloc (.cells #[.int .u32 0] 32)).alloc (.cells #[.bool false] 4) := ⟨_, rfl⟩
  have hB1 : Below w.heap.size w w1 := by rw [hw1]; exact ((Below.refl _ w).alloc (Nat.le_refl _) _).alloc (by simp) _
  have z1 : w1.heap.size = w.heap.size + 1 + 1 := by rw [hw1]; simp
  have b1 : Boxed w1 w.heap.size 32 (.int .u32 0) := by rw [hw1]; exact (Boxed.new w _ _).alloc _
  have b2 : Boxed w1 (w.heap.size + 1) 4 (.bool false) := by rw [hw1]; have := Boxed.new (w.alloc (.cells #[.int .u32 0] 32)) 4 (.bool false); rwa [World.size_alloc] at this
  have hI := bound_iter q ((hB1.block g (Array.getElem?_eq_some_iff.1 h1).1).trans h1) (h2.block (hB1.block b h2.lt))
  have hBd := Lib.hid (bound_any g q w1)
  have hb2 := boundW_below w1 g q
  have hz2 := boundW_size w1 g q
  generalize boundW w1 g q = w2 at hI hBd hb2 hz2
  have HI := Lib.hid hI
  have HB2 : Hid (Below w.heap.size w w2) := Lib.hid (hB1.trans (hb2.mono hB1.size))
  have HX : Hid (Boxed w2 w.heap.size 32 (.int .u32 0) ∧ Boxed w2 (w.heap.size + 1) 4 (.bool false)) := Lib.hid ⟨(hb2.block _ b1.lt).trans b1, (hb2.block _ b2.lt).trans b2⟩
  have HZ : Hid (w1.heap.size = w.heap.size + 1 + 1 ∧ w2.heap.size = w1.heap.size + 1 + 1 + 1) := Lib.hid ⟨z1, hz2⟩
  have HW1 := Lib.hid hw1
  have HGB : Hid (g < w.heap.size ∧ b < w.heap.size) := Lib.hid ⟨(Array.getElem?_eq_some_iff.1 h1).1, h2.lt⟩
  have HT := Lib.hid hT
  clear hw1 h1 h2 hI hb2 hz2 z1 b1 b2 hB1 hT
  refine callsIn_of_wp_marks Try.func13 rfl trivial ?_ rfl
  simp only [Try.ntmps13, List.size_toArray, List.length_cons, List.length_nil, Nat.reduceAdd, Nat.reduceSub, Array.replicate_succ, Array.replicate_zero, List.push_toArray, List.append_toArray, List.nil_append, List.cons_append]
  gi_wp2_with fail
  rw [← HW1.out]
  refine ⟨trivial, (wideI hBd.out).mono ?_⟩
  rintro e w2' ⟨rfl, hw2'⟩
  subst hw2'
  gi_wp2_with fail
  have hslt := HI.out.slt
  have hnot : ¬ IterS (w1.heap.size + 1) (w1.heap.size + 1 + 1) g b (fun k => k = w1.heap.size) w.heap.size ∧ ¬ IterS (w1.heap.size + 1) (w1.heap.size + 1 + 1) g b (fun k => k = w1.heap.size) (w.heap.size + 1) := by
    obtain ⟨z1, z2⟩ := HZ.out
    obtain ⟨z3, z4⟩ := HGB.out
    constructor <;> (rintro (h | h | h | h | h) <;> omega)
  have HN := Lib.hid hnot
  clear hnot
  have hz2 : w.heap.size ≤ w2'.heap.size := HB2.out.size
  have HZ3 : Hid (w.heap.size + 1 + 1 ≤ w2'.heap.size) := Lib.hid (by obtain ⟨z1, z2⟩ := HZ.out; omega)
  refine wpIn_rangeFunc_ownH rfl (by omega) (gf := 53) (lb := #[.pointer (some ⟨w1.heap.size + 1, 0, none⟩), .pointer (some ⟨w1.heap.size + 1 + 1, 0, none⟩)]) (by simp [Act.eval]) trivial (enters_of Try.func53 (by kernel_rfl) rfl)
    (HI.out.stops 2 (by omega)) kpi_t (kpi_b hslt) (Below.refl _ _) (fun _ => rfl)
    (FstI w w2'.heap.size) (fun _ _ _ => False)
    (OwnFrom.and (OwnFrom.and (OwnFrom.and (Own.from (boxed_own w.heap.size 32 fstA) _) (Own.from (boxed_own (w.heap.size + 1) 4 fstB) _)) (ownFrom_below (Nat.le_refl _) hz2)) (fun s X Y row hs hg _ => Nat.le_trans hs hg.size))
    (fun c => ownFrom_pure _ (fun _ => False))
    ⟨⟨HX.out, HB2.out⟩, Nat.le_refl _⟩
    (fun x a' W => ∃ bx, w2'.heap.size ≤ bx ∧ LBox W bx x ∧ a' = { tmps := #[.pointer (some ⟨g, 0, none⟩), .int .i64 q, undef, undef, .int .u32 0, .bool false, .pointer (some ⟨w.heap.size, 0, none⟩), .pointer (some ⟨w.heap.size + 1, 0, none⟩), .pointer (some ⟨bx, 0, none⟩), .pointer (some ⟨g, 0, none⟩), .int .i64 q, .func (.func 53) #[] #[.pointer (some ⟨w1.heap.size + 1, 0, none⟩), .pointer (some ⟨w1.heap.size + 1 + 1, 0, none⟩)], x.v, undef, undef, undef, undef, undef, undef, undef, undef, undef, undef, undef, undef], defers := [] })
    (fun x a' => box_own w2'.heap.size x _ a' w2'.heap.size) ?assign ?body ?done ?stop
  case assign =>
    rintro l pre x W K ⟨⟨⟨hv1, hv2⟩, hB⟩, hz⟩ hK
    simp only [encLs]
    gi_wp2
    refine hK _ _ (keepsFrom_alloc W _) ?_ ⟨⟨⟨hv1.alloc _, hv2.alloc _⟩, hB.alloc hB.size _⟩, by simp; omega⟩ ⟨W.heap.size, ?_, LBox.new W x, rfl⟩
    · exact (KpI.refl W).grown (World.grownBy_alloc W _ none) (fun k hk => Nat.lt_of_lt_of_le (hslt k hk) hz) (fun g e => by cases e)
    · exact hz
  case stop =>
    rintro D c pre V _ _ h _
    exact h.elim
  case body =>
    rintro l pre x a' V hl - ⟨⟨⟨hv1, hv2⟩, hB⟩, hz⟩ ⟨bx, hbx, hX, rfl⟩ hlen
    have hc1 := hv1.cell
    have hc2 := hv2.cell
    have hf1 := hv1.frozen
    have hf2 := hv2.frozen
    have c0 := hX.c0
    have HS := Lib.hid (minA_snoc pre x)
    have HI2 : Hid (FstI w w2'.heap.size pre V) := Lib.hid ⟨⟨⟨hv1, hv2⟩, hB⟩, hz⟩
    clear hv1 hv2 hB hX
    unfold fstA at hc1
    unfold fstB at hc2
    cases hm : minA pre with
    | none =>
      rw [hm] at hc1 hc2 HS
      simp at hc1 hc2
      clear hm
      gi_wp2
      exact fst_stored HI2.out HN.out HS.out
    | some m =>
      rw [hm] at hc1 hc2 HS
      simp at hc1 hc2
      by_cases hlt : x.addr < m
      · have hd : decide ((x.addr : Int) < (m : Int)) = true := by simpa using hlt
        have HS2 := Lib.hid hlt
        clear hlt hm
        gi_wp2
        exact fst_stored HI2.out HN.out (by rw [HS.out]; simp [HS2.out])
      · have hd : decide ((x.addr : Int) < (m : Int)) = false := by simpa using hlt
        have HS2 := Lib.hid hlt
        have HM := Lib.hid hm
        clear hlt hm
        gi_wp2
        refine ⟨KeepsFrom.refl _ _, KpI.refl _, ?_⟩
        have e : minA (pre ++ [x]) = minA pre := by rw [HS.out, HM.out]; simp [HS2.out]
        obtain ⟨⟨⟨h1, h2⟩, h3⟩, h4⟩ := HI2.out
        refine ⟨⟨⟨?_, ?_⟩, h3⟩, h4⟩
        · unfold fstA at h1 ⊢
          rw [e]
          exact h1
        · unfold fstB at h2 ⊢
          rw [e]
          exact h2
  case done =>
    rintro D ys V hD hS ⟨⟨⟨hv1, hv2⟩, hB⟩, hz⟩ hK
    have hc1 := hv1.cell
    have hc2 := hv2.cell
    have HM : Hid (fstV (fstL L q) = .tuple #[fstA ys, fstB ys]) := Lib.hid (by
      rw [← minA_fst HT.out hS]
      unfold fstA fstB
      cases minA ys <;> rfl)
    have HD := Lib.hid hD
    have hA : fstA ys = .int .u32 (((minA ys).getD 0 : Nat) : Int) := rfl
    have hBl : fstB ys = .bool (minA ys).isSome := rfl
    rw [hA] at hc1
    rw [hBl] at hc2
    rw [hA, hBl] at HM
    clear hA hBl hv1 hv2 hS hD
    generalize (minA ys).getD 0 = m1 at *
    generalize (minA ys).isSome = m2 at *
    gi_wp2_with fail
    refine wpIn_wide.2 ?_
    go_quiet (fail)
    have hKD1 : (V.drewN nq).heap[D]? = some (.deferred (some [])) := hK
    have hB1 : Below w.heap.size w (V.drewN nq) := ⟨hB.os, hB.tape, hB.output, hB.size, hB.block⟩
    gi_wp2
    refine ⟨by simp, .inl ⟨_, _, rfl, run_takeDeferred hKD1, ?_⟩⟩
    refine ⟨_, results_tmp2 rfl _ _ _, ?_, hB1.trans (belowK_b (w := w) (Nat.le_refl _) _ D _ _ (by have := HD.out; omega) hKD1 rfl rfl)⟩
    rw [HM.out]
    rfl

theorem tfst_any {w : World} {Q : Nat → Prop} {g : Nat} {L : List LV} (q : Int) (h : TT w Q g L) : Calls Try.prog 13 #[.pointer (some ⟨g, 0, none⟩), .int .i64 q] w fun e w' => e = .returned (fstV (fstL L q)) ∧ Below w.heap.size w w' := by
  obtain ⟨b, h1, h2, h3, -, -, -⟩ := h
  exact callsIn_wide.1 (tfst_in q h1 h2 h3)
end Go.Proofs.Ytjkkdmfpekkfhaa
