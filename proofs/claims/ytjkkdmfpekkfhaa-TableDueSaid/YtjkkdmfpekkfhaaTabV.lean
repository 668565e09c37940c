/- The program's table: Count and First. -/
import Derived.Test.YtjkkdmfpekkfhaaTabU
namespace Go.Proofs.Ytjkkdmfpekkfhaa
open Go.RowKit Go.Sort Go.Maps Go.Shelf Go.Lib
attribute [local go_sem] Oper.semAt_some

/-- What bound lays. -/
def boundW (w : World) (g : Nat) (q : Int) : World :=
  ((w.alloc (.cells #[.int .i64 q] 3)).alloc (.cells #[.pointer (some ⟨g, 0, none⟩)] 27)).alloc (.cells #[.func (.func 52) #[] #[.pointer (some ⟨w.heap.size, 0, none⟩)]] 50)
theorem boundW_size (w : World) (g : Nat) (q : Int) : (boundW w g q).heap.size = w.heap.size + 1 + 1 + 1 := by unfold boundW; simp
theorem boundW_below (w : World) (g : Nat) (q : Int) : Below w.heap.size w (boundW w g q) := by
  unfold boundW
  exact (((Below.refl _ w).alloc (Nat.le_refl _) _).alloc (by simp) _).alloc (by simp; omega) _

theorem bound_any (g : Nat) (q : Int) (w : World) : Calls Try.prog 31 #[.pointer (some ⟨g, 0, none⟩), .int .i64 q] w fun e w' =>
    e = .returned (.func (.func 53) #[] #[.pointer (some ⟨w.heap.size + 1, 0, none⟩), .pointer (some ⟨w.heap.size + 1 + 1, 0, none⟩)]) ∧ w' = boundW w g q := by
  obtain ⟨w1, hw1⟩ : ∃ w1, w1 = w.alloc (.cells #[.int .i64 q] 3) := ⟨_, rfl⟩
  have HZ : Hid (w1.heap.size = w.heap.size + 1) := Lib.hid (by rw [hw1]; simp)
  have HW1 := Lib.hid hw1
  have HT := Lib.hid (those_any g 52 #[.pointer (some ⟨w.heap.size, 0, none⟩)] w1)
  clear hw1
  go_enter Try.func31, Try.ntmps31
  go_upto_region 1 with fail
  rw [← HW1.out]
  go_wp2_with fail
  refine HT.out.mono ?_
  rintro e w' ⟨rfl, rfl⟩
  go_wp2
  go_ret
  rw [HZ.out]
  refine ⟨rfl, ?_⟩
  unfold boundW
  rw [← HW1.out]

theorem bound_iter {w : World} {g b : Nat} {L : List LV} (q : Int) (h1 : w.heap[g]? = some (.cells #[.map (some b)] 66 (0, 0))) (h2 : KL.Has w b L) :
    Iter (boundW w g q) (w.heap.size + 1) (w.heap.size + 1 + 1) g b (fun k => k = w.heap.size) L 52 #[.pointer (some ⟨w.heap.size, 0, none⟩)] fun y => y.bind == q := by
  have hg1 := (Below.heap_alloc w (.cells #[.int .i64 q] 3) g (Array.getElem?_eq_some_iff.1 h1).1).trans h1
  have hM1 := h2.alloc (.cells #[.int .i64 q] 3)
  have hb1 := Boxed.new w 3 (.int .i64 q)
  have hb2 : Boxed (boundW w g q) w.heap.size 3 (.int .i64 q) := Boxed.alloc (Boxed.alloc hb1 _) _
  have ht2 := bound1_tests hb2
  have := iter_made hg1 hM1 ht2 (enters_of Try.func52 (by kernel_rfl) rfl) (fun k hk => by rw [hk]; simp)
  rw [World.size_alloc] at this
  exact this

set_option maxRecDepth 100000 in
set_option maxHeartbeats 2000000 in
theorem tcnt_in {w : World} {g b : Nat} {L : List LV} (q : Int) (h1 : w.heap[g]? = some (.cells #[.map (some b)] 66 (0, 0))) (h2 : KL.Has w b L) (hL : L.length ≤ 256) :
    CallsIn Fence.wide 3 Try.prog 19 #[.pointer (some ⟨g, 0, none⟩), .int .i64 q] w fun e w' => e = .returned (.int .i64 ((cntL L q : Nat) : Int)) ∧ Below w.heap.size w w' := by
  obtain ⟨w1, hw1⟩ : ∃ w1, w1 = w.alloc (.cells #[.int .i64 0] 3) := ⟨_, rfl⟩
  have hB1 : Below w.heap.size w w1 := by rw [hw1]; exact (Below.refl _ w).alloc (Nat.le_refl _) _
  have z1 : w1.heap.size = w.heap.size + 1 := by rw [hw1]; simp
  have b1 : Boxed w1 w.heap.size 3 (.int .i64 0) := by rw [hw1]; exact Boxed.new w _ _
  have hI := bound_iter q ((hB1.block g (Array.getElem?_eq_some_iff.1 h1).1).trans h1) (h2.block (hB1.block b h2.lt))
  have hBd := Lib.hid (bound_any g q w1)
  have hb2 := boundW_below w1 g q
  have hz2 := boundW_size w1 g q
  generalize boundW w1 g q = w2 at hI hBd hb2 hz2
  have HI := Lib.hid hI
  have HB2 : Hid (Below w.heap.size w w2) := Lib.hid (hB1.trans (hb2.mono hB1.size))
  have HX : Hid (Boxed w2 w.heap.size 3 (.int .i64 0)) := Lib.hid ((hb2.block _ b1.lt).trans b1)
  have HZ : Hid (w1.heap.size = w.heap.size + 1 ∧ w2.heap.size = w1.heap.size + 1 + 1 + 1) := Lib.hid ⟨z1, hz2⟩
  have HW1 := Lib.hid hw1
  have HGB : Hid (g < w.heap.size ∧ b < w.heap.size) := Lib.hid ⟨(Array.getElem?_eq_some_iff.1 h1).1, h2.lt⟩
  clear hw1 h1 h2 hI hb2 hz2 z1 b1 hB1
  refine callsIn_of_wp_marks Try.func19 rfl trivial ?_ rfl
  simp only [Try.ntmps19, List.size_toArray, List.length_cons, List.length_nil, Nat.reduceAdd, Nat.reduceSub, Array.replicate_succ, Array.replicate_zero, List.push_toArray, List.append_toArray, List.nil_append, List.cons_append]
  gi_wp2_with fail
  rw [← HW1.out]
  refine ⟨trivial, (wideI hBd.out).mono ?_⟩
  rintro e w2' ⟨rfl, hw2'⟩
  subst hw2'
  gi_wp2_with fail
  have hslt := HI.out.slt
  have hnot : ¬ IterS (w1.heap.size + 1) (w1.heap.size + 1 + 1) g b (fun k => k = w1.heap.size) w.heap.size := by
    obtain ⟨z1, z2⟩ := HZ.out
    obtain ⟨z3, z4⟩ := HGB.out
    rintro (h | h | h | h | h) <;> omega
  have hz2 : w.heap.size ≤ w2'.heap.size := HB2.out.size
  refine wpIn_rangeFunc_ownG rfl (by omega) (gf := 53) (lb := #[.pointer (some ⟨w1.heap.size + 1, 0, none⟩), .pointer (some ⟨w1.heap.size + 1 + 1, 0, none⟩)]) (by simp [Act.eval]) trivial (enters_of Try.func53 (by kernel_rfl) rfl)
    (HI.out.stops 2 (by omega)) kpi_t (kpi_b hslt) (Below.refl _ _) (fun _ => rfl)
    (fun (pre : List LV) V => Boxed V w.heap.size 3 (.int .i64 ((pre.length : Nat) : Int)) ∧ Below w.heap.size w V) (fun _ _ _ => False)
    (OwnFrom.and (Own.from (boxed_own w.heap.size 3 (fun pre : List LV => .int .i64 ((pre.length : Nat) : Int))) _) (ownFrom_below (Nat.le_refl _) hz2))
    (fun c => ownFrom_pure _ (fun _ => False))
    ⟨HX.out, HB2.out⟩
    (fun x => { tmps := #[.pointer (some ⟨g, 0, none⟩), .int .i64 q, undef, undef, .int .i64 0, .pointer (some ⟨w.heap.size, 0, none⟩), .pointer (some ⟨g, 0, none⟩), .int .i64 q, .func (.func 53) #[] #[.pointer (some ⟨w1.heap.size + 1, 0, none⟩), .pointer (some ⟨w1.heap.size + 1 + 1, 0, none⟩)], x.v, undef, undef, undef], defers := [] }) ?assign ?body ?done ?stop
  case assign =>
    intro l x V K hK
    simp only [encLs]
    gi_wp2
    simpa using hK
  case stop =>
    rintro D c pre V _ _ h _
    exact h.elim
  case body =>
    rintro l pre x V ⟨hv, hB⟩ hlen
    have hc := hv.cell
    have hf := hv.frozen
    have HV := Lib.hid hv
    have HB := Lib.hid hB
    clear hv hB
    gi_wp2
    have hv2 := HV.out.set (.int .i64 (((pre.length : Nat) : Int) + 1))
    refine ⟨(KeepsOthers.setCell V _ _).from _, ⟨(KeepsOthers.setCell V _ _).walks, fun k hk => Below.heap_setCell V ⟨w.heap.size, 0, none⟩ _ k (fun e => hnot (by rw [show k = w.heap.size from e] at hk; exact hk))⟩, ?_, HB.out.setCell (p := ⟨w.heap.size, 0, none⟩) (Nat.le_refl _) _⟩
    rw [List.length_append]
    exact hv2
  case done =>
    rintro D ys V hD hS ⟨hv, hB⟩ hK
    have hc := hv.cell
    have HLEN : Hid (ys.length = cntL L q) := Lib.hid (by rw [hS.length_eq, ← List.countP_eq_length_filter]; rfl)
    gi_wp2
    refine ⟨by simp, .inl ⟨_, _, rfl, run_takeDeferred hK, ?_⟩⟩
    refine ⟨_, results_tmp rfl _ _ _, ?_, ?_⟩
    · rw [← HLEN.out]
      rfl
    · exact hB.trans (belowK_b (w := w) (Nat.le_refl _) V D _ _ (by omega) hK rfl rfl)

theorem tcnt_any {w : World} {Q : Nat → Prop} {g : Nat} {L : List LV} (q : Int) (h : TT w Q g L) : Calls Try.prog 19 #[.pointer (some ⟨g, 0, none⟩), .int .i64 q] w fun e w' => e = .returned (.int .i64 ((cntL L q : Nat) : Int)) ∧ Below w.heap.size w w' := by
  obtain ⟨b, h1, h2, -, h4, -, -⟩ := h
  exact callsIn_wide.1 (tcnt_in q h1 h2 h4)

/-! ### the least address -/
def minA (l : List LV) : Option Nat := l.foldl (fun o x => match o with | none => some x.addr | some a => some (if x.addr < a then x.addr else a)) none
theorem minA_snoc (l : List LV) (x : LV) : minA (l ++ [x]) = match minA l with | none => some x.addr | some a => some (if x.addr < a then x.addr else a) := by
  unfold minA
  rw [List.foldl_append]
  rfl
def minO (o : Option Nat) (x : LV) : Option Nat := match o with | none => some x.addr | some a => some (if x.addr < a then x.addr else a)
theorem minA_aux : ∀ (l : List LV) (o : Option Nat), (l.foldl minO o = none → o = none ∧ l = []) ∧ (∀ a, l.foldl minO o = some a → ((∃ y ∈ l, y.addr = a) ∨ o = some a) ∧ (∀ y ∈ l, a ≤ y.addr) ∧ (∀ c, o = some c → a ≤ c))
  | [], o => ⟨fun h => ⟨h, rfl⟩, fun a h => ⟨.inr h, by simp, fun c hc => by rw [List.foldl_nil] at h; rw [h] at hc; injection hc with hc; omega⟩⟩
  | x :: l, o => by
    obtain ⟨h1, h2⟩ := minA_aux l (minO o x)
    have hs : ∃ m, minO o x = some m ∧ m ≤ x.addr ∧ (m = x.addr ∨ o = some m) ∧ ∀ c, o = some c → m ≤ c := by
      cases o with
      | none => exact ⟨x.addr, rfl, Nat.le_refl _, .inl rfl, fun c hc => by cases hc⟩
      | some a =>
        by_cases hlt : x.addr < a
        · exact ⟨x.addr, by unfold minO; simp [hlt], Nat.le_refl _, .inl rfl, fun c hc => by injection hc with hc; omega⟩
        · exact ⟨a, by unfold minO; simp [hlt], by omega, .inr rfl, fun c hc => by injection hc with hc; omega⟩
    obtain ⟨m, hm, hmx, hmo, hmc⟩ := hs
    refine ⟨fun h => ?_, fun a h => ?_⟩
    · obtain ⟨h3, -⟩ := h1 h
      rw [hm] at h3
      cases h3
    · obtain ⟨h3, h4, h5⟩ := h2 a h
      have h6 := h5 m hm
      refine ⟨?_, fun y hy => ?_, fun c hc => Nat.le_trans h6 (hmc c hc)⟩
      · rcases h3 with ⟨y, hy, he⟩ | h3
        · exact .inl ⟨y, by simp [hy], he⟩
        · rw [hm] at h3
          injection h3 with h3
          subst h3
          rcases hmo with e | e
          · exact .inl ⟨x, by simp, e.symm⟩
          · exact .inr e
      · rcases List.mem_cons.1 hy with rfl | hy
        · omega
        · exact h4 y hy
theorem minA_spec (l : List LV) : match minA l with | none => l = [] | some a => (∃ y ∈ l, y.addr = a) ∧ ∀ y ∈ l, a ≤ y.addr := by
  obtain ⟨h1, h2⟩ := minA_aux l none
  have e : minA l = l.foldl minO none := rfl
  cases h : minA l with
  | none => exact (h1 (e ▸ h)).2
  | some a =>
    obtain ⟨h3, h4, -⟩ := h2 a (e ▸ h)
    exact ⟨h3.resolve_right (by simp), h4⟩
theorem minA_fst {L xs : List LV} {q : Int} (hT : TabL L) (hp : xs.Perm (L.filter fun y => y.bind == q)) : minA xs = fstL L q := by
  have h1 := minA_spec xs
  cases hm : minA xs with
  | none =>
    rw [hm] at h1
    subst h1
    have h2 : L.filter (fun y => y.bind == q) = [] := List.nil_perm.1 hp
    unfold fstL
    rw [List.find?_eq_none.2 (fun y hy he => by
      have h3 : y ∈ L.filter fun y => y.bind == q := List.mem_filter.2 ⟨hy, he⟩
      rw [h2] at h3
      cases h3)]
    rfl
  | some a =>
    rw [hm] at h1
    obtain ⟨⟨y, hy, he⟩, hall⟩ := h1
    have hy2 := List.mem_filter.1 (hp.mem_iff.1 hy)
    cases hf : fstL L q with
    | none =>
      unfold fstL at hf
      cases hf2 : L.find? fun y => y.bind == q with
      | none => exact absurd hy2.2 (List.find?_eq_none.1 hf2 y hy2.1)
      | some z => rw [hf2] at hf; cases hf
    | some c =>
      have hle := fst_least hT hf y hy2.1 (eq_of_beq hy2.2)
      have hf3 := hf
      unfold fstL at hf3
      cases hf2 : L.find? fun y => y.bind == q with
      | none => rw [hf2] at hf3; cases hf3
      | some z =>
        rw [hf2] at hf3
        injection hf3 with hf3
        have hz : z ∈ xs := hp.mem_iff.2 (List.mem_filter.2 ⟨List.mem_of_find?_eq_some hf2, List.find?_some (p := fun y : LV => y.bind == q) hf2⟩)
        have := hall z hz
        congr 1
        omega
end Go.Proofs.Ytjkkdmfpekkfhaa
