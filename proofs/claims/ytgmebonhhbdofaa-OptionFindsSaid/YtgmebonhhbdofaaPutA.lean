/- option.Put: its closure, and the options that it does not remove, one by one. -/
import Derived.Test.YtgmebonhhbdofaaRefP2
import Derived.Test.YtgmebonhhbdofaaOptI
namespace Go.Proofs.Ytgmebonhhbdofaa
open Go.RowKit Go.Shelf
attribute [local go_sem] Oper.semAt_some

/-- Is this one removed? -/
def remB (at_ code : Int) (i : Nat) (x : OptV) : Bool := ((i : Int) != at_) && (x.code == code)

set_option maxRecDepth 100000 in
set_option maxHeartbeats 1000000 in
theorem put1_any (A : Option Addr) (c : Nat) (L : List OptV) (i : Nat) (x : OptV) (at_ code : Int) (Ba Bl Bc B : Nat) (w : World) (hr : Op w B A L) (hx : L[i]? = some x)
    (ha : w.cell? ⟨Ba, 0, none⟩ = some (.int .i64 at_)) (hl : w.cell? ⟨Bl, 0, none⟩ = some (.slice A L.length c)) (hc : w.cell? ⟨Bc, 0, none⟩ = some (.int .i64 code)) :
    Calls Try.prog 29 #[.int .i64 (i : Int), .pointer (some ⟨Ba, 0, none⟩), .pointer (some ⟨Bl, 0, none⟩), .pointer (some ⟨Bc, 0, none⟩)] w fun e w' => e = .returned (.bool (remB at_ code i x)) ∧ ∃ n, w' = w.drewN n := by
  have hi : i < L.length := (List.getElem?_eq_some_iff.1 hx).1
  obtain ⟨b, o, rfl, hb, hc1, hc2⟩ := hr.at_ i x hx
  unfold remB
  cases hq : ((i : Int) != at_)
  · go_enter Try.func29, Try.ntmps29
    go_wp2
    go_quiet (fail)
    go_wp2
    go_ret
    exact ⟨by simp, nq, rfl⟩
  · have i0 : (0 : Int) ≤ (i : Int) := by omega
    have i1 : (i : Int) < (L.length : Int) := by omega
    go_enter Try.func29, Try.ntmps29
    go_wp2
    go_quiet (fail)
    go_wp2
    go_ret
    exact ⟨by simp, nq, rfl⟩

theorem without_any (A : Option Addr) (len cap : Nat) (f : FuncId) (ts bs : Array Value) (w : World) :
    Calls Try.prog 30 #[.slice A len cap, .func (.func f) ts bs] w fun e w' => e = .returned (.func (.func 39) #[] #[.pointer (some ⟨w.heap.size, 0, none⟩), .pointer (some ⟨w.heap.size + 1, 0, none⟩)]) ∧ w' = (w.alloc (.cells #[.slice A len cap] 22)).alloc (.cells #[.func (.func f) ts bs] 52) := by
  go_enter Try.func30, Try.ntmps30
  go_wp2
  go_ret
  exact ⟨rfl, rfl⟩

/-- What a round keeps: every block below M but one. -/
def Kq (M ob : Nat) (V V' : World) : Prop := V.heap.size ≤ V'.heap.size ∧ ∀ k, k < M → k ≠ ob → V'.heap[k]? = V.heap[k]?
theorem Kq.refl (M ob : Nat) (V : World) : Kq M ob V V := ⟨Nat.le_refl _, fun _ _ _ => rfl⟩
theorem kq_t {M ob : Nat} {A B C : World} (h : Kq M ob A B) (k : Kq M ob B C) : Kq M ob A C := ⟨Nat.le_trans h.1 k.1, fun i h1 h2 => (k.2 i h1 h2).trans (h.2 i h1 h2)⟩
theorem kq_b {M ob B : Nat} (hM : M ≤ B) (V : World) : Booked B (Kq M ob V) := fun V' l o o' h hl _ _ => ⟨by rw [World.putObj_size]; exact h.1, fun k h1 h2 => (World.putObj_heap_other (by omega)).trans (h.2 k h1 h2)⟩
theorem Kq.grown {M ob : Nat} {V V' V2 : World} (h : Kq M ob V V') {row : Option Nat} (hg : V'.grownBy V2 row) (hM : M ≤ V'.heap.size) (hr : ∀ g, row = some g → M ≤ g ∨ g = ob) : Kq M ob V V2 :=
  ⟨Nat.le_trans h.1 hg.size, fun k h1 h2 => (hg.block k (by omega) (fun e => by rcases hr k e.symm with h' | h' <;> omega)).trans (h.2 k h1 h2)⟩
theorem Kq.boxed {M ob : Nat} {V V' : World} (h : Kq M ob V V') {k : Nat} {t : TypeId} {v : Value} (hb : Boxed V k t v) (h1 : k < M) (h2 : k ≠ ob) : Boxed V' k t v := (h.2 k h1 h2).trans hb
theorem Kq.op {M ob n : Nat} {V V' : World} (h : Kq M ob V V') {A : Option Addr} {L : List OptV} (ho : Op V n A L) (hn : n ≤ ob) (hM : n ≤ M) : Op V' n A L :=
  ho.keep fun p hp => World.cell?_of_block (h.2 p.block (by omega) (by omega))
theorem Kq.by_ {M ob n : Nat} {V V' : World} (h : Kq M ob V V') {A : Option Addr} {l : List UInt8} (ho : By V n A l) (hn : n ≤ ob) (hM : n ≤ M) : By V' n A l :=
  ho.keep fun p hp => World.cell?_of_block (h.2 p.block (by omega) (by omega))

/-- The options that are not removed, each behind its place. -/
def kept (L : List OptV) (at_ code : Int) : Nat → List (Nat × OptV)
  | 0 => []
  | k + 1 => match L[k]? with
    | some x => if remB at_ code k x then kept L at_ code k else kept L at_ code k ++ [(k, x)]
    | none => kept L at_ code k
theorem kept_length (L : List OptV) (at_ code : Int) (k : Nat) : (kept L at_ code k).length ≤ k := by
  induction k with
  | zero => simp [kept]
  | succ k ih =>
    unfold kept
    split
    · split
      · omega
      · simp; omega
    · omega

/-- A place of the list, and what is there. -/
abbrev Pl (L : List OptV) := { p : Nat × OptV // L[p.1]? = some p.2 }
def encP {L : List OptV} (x : Pl L) : Array Value := #[.int .i64 (x.1.1 : Int), x.1.2.v]

set_option maxRecDepth 100000 in
set_option maxHeartbeats 2000000 in
theorem without1_in (n : Nat) (hn : 1 ≤ n) (lp LB RB Ba Bl Bc M ob n₀ : Nat) (A : Option Addr) (c c' : Nat) (L : List OptV) (hL : L.length ≤ 100) (at_ code : Int) (J Jx : List (Pl L) → World → Prop)
    (W : World) (hM : M ≤ W.heap.size) (h2 : RB < M ∧ RB ≠ ob) (h3 : Ba < M ∧ Ba ≠ ob) (h4 : Bl < M ∧ Bl ≠ ob) (h5 : Bc < M ∧ Bc ≠ ob) (hn₀ : n₀ ≤ ob) (hnM : n₀ ≤ M) (hJa : AbidesFrom W.heap.size J)
    (hY : ∀ pre x V, J pre V → pre.length < 101 → YieldAt Fence.wide (n - 1) Try.prog lp (encP x) V fun e V' => (e = .returned (.bool true) ∧ J (pre ++ [x]) V' ∧ Kq M ob V V') ∨ (e = .returned (.bool false) ∧ Jx (pre ++ [x]) V'))
    (b1 : Boxed W LB 22 (.slice A L.length c)) (b2 : Boxed W RB 52 (.func (.func 29) #[] #[.pointer (some ⟨Ba, 0, none⟩), .pointer (some ⟨Bl, 0, none⟩), .pointer (some ⟨Bc, 0, none⟩)]))
    (b3 : Boxed W Ba 3 (.int .i64 at_)) (b4 : Boxed W Bl 22 (.slice A L.length c')) (b5 : Boxed W Bc 3 (.int .i64 code)) (hR : Op W n₀ A L) (h0 : J [] W) :
    CallsIn Fence.wide n Try.prog 39 #[.func (.yield lp) #[] #[], .pointer (some ⟨LB, 0, none⟩), .pointer (some ⟨RB, 0, none⟩)] W fun e V => (∃ v, e = .returned v) ∧ ((∃ xs, xs.map Subtype.val = kept L at_ code L.length ∧ J xs V) ∨ (∃ pre, True ∧ Jx pre V)) := by
  have d1 := b1.cell
  refine callsIn_of_wp Try.func39 rfl trivial ?_ rfl
  simp only [Try.ntmps39, List.size_toArray, List.length_cons, List.length_nil, Nat.reduceAdd, Nat.reduceSub, Array.replicate_succ, Array.replicate_zero, List.push_toArray, List.append_toArray, List.nil_append, List.cons_append]
  gi_wp2
  gi_loopw [8] (fun iv V => ∃ (k : Nat) (pre : List (Pl L)), k ≤ L.length ∧ iv = .int .i64 k ∧ pre.map Subtype.val = kept L at_ code k ∧ J pre V ∧ Kq M ob W V) (fun iv _ => L.length - (intOf iv).toNat)
  case atStart => exact ⟨0, [], Nat.zero_le _, rfl, rfl, h0, Kq.refl _ _ _⟩
  case round =>
    obtain ⟨k, pre, hk, rfl, hpre, hJ, hK⟩ := hrel
    have hpl : pre.length ≤ k := by have h1 := kept_length L at_ code k; rw [← hpre] at h1; simpa using h1
    have HP := Lib.hid hpre
    clear hpre
    by_cases hlt : k < L.length
    · obtain ⟨x, hx⟩ : ∃ x, L[k]? = some x := ⟨_, List.getElem?_eq_getElem hlt⟩
      have hop := hK.op hR hn₀ hnM
      obtain ⟨b, o, rfl, hb, hc1, hc2⟩ := hop.at_ k x hx
      have e2 := ((hK.boxed b2 h2.1 h2.2).alloc (obox x)).cell
      have e3 := ((hK.boxed b3 h3.1 h3.2).alloc (obox x)).cell
      have e4 := ((hK.boxed b4 h4.1 h4.2).alloc (obox x)).cell
      have e5 := ((hK.boxed b5 h5.1 h5.2).alloc (obox x)).cell
      have hsz : n₀ ≤ wr.heap.size := by have := hK.1; omega
      have hMw : M ≤ wr.heap.size := by have := hK.1; omega
      have HR1 := Lib.hid (put1_any (some ⟨b, o, none⟩) c' L k x at_ code Ba Bl Bc n₀ (wr.alloc (obox x)) (hop.below ((Below.refl _ _).alloc hsz _)) hx e3 e4 e5)
      have HX := Lib.hid hx
      clear hx hop e3 e4 e5
      cases hrem : remB at_ code k x
      · rw [hrem] at HR1
        have HK1 : Hid (kept L at_ code (k + 1) = kept L at_ code k ++ [(k, x)]) := by show _ = _; simp [kept, HX.out, hrem]
        clear hrem
        gi_wp2_with fail
        refine ⟨trivial, (wide_of HR1.out).mono ?_⟩
        rintro e w' ⟨rfl, m, rfl⟩
        have hb0 : Below wr.heap.size wr ((wr.alloc (obox x)).drewN m) := by
          have hb1 : Below wr.heap.size wr (wr.alloc (obox x)) := (Below.refl _ _).alloc (Nat.le_refl _) _
          exact ⟨hb1.os, hb1.tape, hb1.output, hb1.size, hb1.block⟩
        have hJ2 : J pre ((wr.alloc (obox x)).drewN m) := hJa _ _ _ none hJ (grown_of_below hb0) (fun r e => by cases e)
        have hK2 : Kq M ob W ((wr.alloc (obox x)).drewN m) := hK.grown (grown_of_below hb0) hMw (fun g e => by cases e)
        obtain ⟨fn, tmps, assign, body, hy0, hRr⟩ := hY pre ⟨(k, x), HX.out⟩ _ hJ2 (by omega)
        have hy : (Instr.yield lp #[.int .i64 (k : Int), .agg #[.int .i64 x.code, .slice x.ad x.data.length x.cap]]).run Try.prog ((wr.alloc (obox x)).drewN m) = .ok (.round lp fn tmps assign body) ((wr.alloc (obox x)).drewN m) := hy0
        clear hy0
        gi_wp2
        refine hRr.mono ?_
        clear hRr hy
        rintro e W3 (⟨rfl, hJ3, hk3⟩ | ⟨rfl, hJx3⟩)
        · gi_wp2
          go_roundw
          case rel => exact ⟨k + 1, pre ++ [⟨(k, x), HX.out⟩], by omega, by go_num, by rw [HK1.out, List.map_append, HP.out]; rfl, hJ3, kq_t hK2 hk3⟩
          case measure => simp [intOf]; omega
        · gi_wp2
          refine bodyPost_ret (results_none rfl _ _ _) rfl ?_
          exact ⟨⟨_, rfl⟩, .inr ⟨_, trivial, hJx3⟩⟩
      · rw [hrem] at HR1
        have HK1 : Hid (kept L at_ code (k + 1) = kept L at_ code k) := by show _ = _; simp [kept, HX.out, hrem]
        clear hrem
        gi_wp2_with fail
        refine ⟨trivial, (wide_of HR1.out).mono ?_⟩
        rintro e w' ⟨rfl, m, rfl⟩
        have hb0 : Below wr.heap.size wr ((wr.alloc (obox x)).drewN m) := by
          have hb1 : Below wr.heap.size wr (wr.alloc (obox x)) := (Below.refl _ _).alloc (Nat.le_refl _) _
          exact ⟨hb1.os, hb1.tape, hb1.output, hb1.size, hb1.block⟩
        have hJ2 : J pre ((wr.alloc (obox x)).drewN m) := hJa _ _ _ none hJ (grown_of_below hb0) (fun r e => by cases e)
        have hK2 : Kq M ob W ((wr.alloc (obox x)).drewN m) := hK.grown (grown_of_below hb0) hMw (fun g e => by cases e)
        gi_wp2
        refine ⟨fun _ h => (by cases h), ?_⟩
        gi_wp2
        go_roundw
        case rel => exact ⟨k + 1, pre, by omega, by go_num, by rw [HK1.out, HP.out], hJ2, hK2⟩
        case measure => simp [intOf]; omega
    · obtain rfl : k = L.length := by omega
      gi_wp2
      go_end0
      exact ⟨⟨_, rfl⟩, .inl ⟨pre, HP.out, hJ⟩⟩
end Go.Proofs.Ytgmebonhhbdofaa
