/- A range over a function whose elements hold memory: the iterator tells, behind its run, what that memory holds (the library's laws let it tell of the list of elements alone). -/
import Derived.Test.YtekladmddfibaaaProg
import Derived.RangeFuncNested
import Derived.RangeFuncBound
import Derived.RangeFuncCalls
import Derived.RangeFuncLeaves
import Derived.Shelf.Abstract
import Derived.Shelf.RegionOpen
import Derived.OwnWalkIn
import Derived.TacticsInMore
import Derived.LoopNIn
import Derived.LoopIn
namespace Go.Proofs.Ytekladmddfibaaa
open Go.RowKit Go.Shelf
attribute [local go_sem] Oper.semAt_some

section
variable {F : Fence} {n : Nat} {P : Program}

/-- What an iterator promises: S of all that came and of the world behind it, Sp of what came where the body stopped. -/
def SeqEnds {α : Type} (F : Fence) (n : Nat) (P : Program) (gf : Nat) (lb : Array Value) (encs : α → Array Value) (Kp : World → World → Prop) (S Sp : List α → World → Prop) (N : Nat) (w : World) : Prop :=
  ∀ (l : Nat) (J Jx : List α → World → Prop) (W : World), Below w.heap.size w W → AbidesFrom W.heap.size J → AbidesFrom W.heap.size Jx →
    (∀ pre x V, J pre V → pre.length < N → YieldAt F (n - 1) P l (encs x) V fun e V' => (e = .returned (.bool true) ∧ J (pre ++ [x]) V' ∧ Kp V V') ∨ (e = .returned (.bool false) ∧ Jx (pre ++ [x]) V')) →
    J [] W →
    CallsIn F n P gf (#[.func (.yield l) #[] #[]] ++ lb) W fun e V => (∃ v, e = .returned v) ∧ ((∃ xs, S xs V ∧ J xs V) ∨ (∃ pre, Sp pre V ∧ Jx pre V))

/-- Kept where the statement's own book is written: a block, from B on, that holds no cells. -/
def Booked (B : Nat) (T : World → Prop) : Prop := ∀ (V : World) (l : Nat) (o o' : Obj), T V → B ≤ l → V.heap[l]? = some o → o.isCells = false → T (V.putObj l o')

theorem range_ends {α : Type} {g : Operand} {ps : Array Tmp} {assign body : Code} {Q : Exit → Act → World → Prop} {a : Act} {w : World}
    (hro : F.round = none) (h1 : 1 ≤ n) {gf : Nat} {lb : Array Value} (hg : a.eval g = .func (.func gf) #[] lb) (hFg : F.fn gf) (eg : ∀ args w, (callFunc gf args).run P w = .ok (.enter gf args) w)
    {encs : α → Array Value} {Kp : World → World → Prop} {S Sp : List α → World → Prop} {N : Nat} {w0 : World} (hseq : SeqEnds F (n - 1) P gf lb encs Kp S Sp N w0)
    (hKt : ∀ {A B C : World}, Kp A B → Kp B C → Kp A C) (hKb : ∀ V, Booked w.heap.size (Kp V)) (hSb : ∀ xs, Booked w.heap.size (S xs)) (hSpb : ∀ xs, Booked w.heap.size (Sp xs)) (hb0 : Below w0.heap.size w0 w) (hps : ∀ x, (encs x).size = ps.size)
    (I : List α → World → Prop) (Ix : Code → List α → World → Prop) (hI : OwnFrom w.heap.size I) (hIx : ∀ c, OwnFrom w.heap.size (Ix c)) (h0 : I [] w) (a₁ : α → World → Act)
    (wA : α → World → World) (hwA : ∀ (x : α) (V : World), V.grownBy (wA x V) none) (hKA : ∀ (x : α) (V : World), w.heap.size ≤ V.heap.size → Kp V (wA x V)) (Got : α → World → World → Prop) (hGot : ∀ x V, Got x V (wA x V)) (hGb : ∀ x V, Booked w.heap.size (Got x V))
    (hassign : ∀ (l : Nat) (x : α) (V : World) (K : Act → World → Prop), K (a₁ x V) (wA x V) →
      assign.wpIn (F.inRound l) (n - 1 - 1) P (Exit.then K (fun _ _ _ => False)) { tmps := (ps.zip (encs x)).foldl (fun t (p, v) => t.setIfInBounds p v) a.tmps, defers := [] } V)
    (hbody : ∀ (l : Nat) (pre : List α) (x : α) (V U : World), I pre V → I pre U → Got x V U → w.heap.size ≤ V.heap.size → V.heap.size ≤ U.heap.size → pre.length < N → body.wpIn (F.inRound l) (n - 1 - 1) P (ownPostG w.heap.size Kp I Ix (pre ++ [x]) U) (a₁ x V) U)
    (hdone : ∀ (D : Nat) (xs : List α) (V : World), w.heap.size ≤ D → S xs V → I xs V → V.heap[D]? = some (.deferred (some [])) → Q .normal { a with defers := { target := .collected D, args := #[] } :: a.defers } V)
    (hstop : ∀ (D : Nat) (c : Code) (pre : List α) (V : World), w.heap.size ≤ D → Sp pre V → Ix c pre V → V.heap[D]? = some (.deferred (some [])) → c.wpIn F n P Q { a with defers := { target := .collected D, args := #[] } :: a.defers } V) :
    (Code.rangeFunc g ps assign body).wpIn F n P Q a w := by
  refine wpIn_rangeFunc fun fn hfn => ?_
  rw [hro]
  -- the loop's record, in its states
  let book : LoopState → Option Code → Obj := fun st pe => .loop { state := st, pending := pe, fn, tmps := a.tmps, params := ps, assign, body, defers := w.heap.size }
  obtain ⟨W1, hW1⟩ : ∃ W1, W1 = (w.alloc (.deferred (some []))).alloc (book .ready none) := ⟨_, rfl⟩
  have hz1 : W1.heap.size = w.heap.size + 1 + 1 := by rw [hW1]; simp
  have hL : W1.heap[w.heap.size + 1]? = some (book .ready none) := by
    have h := World.alloc_heap_new (w.alloc (.deferred (some []))) (book .ready none)
    rw [World.size_alloc] at h
    rw [hW1]; exact h
  have hD : W1.heap[w.heap.size]? = some (.deferred (some [])) := by
    rw [hW1]; exact (Below.heap_alloc _ _ _ (by simp)).trans (World.alloc_heap_new w _)
  have hbW : Below w0.heap.size w0 W1 := by
    rw [hW1]; exact hb0.trans ((((Below.refl _ w).alloc (Nat.le_refl _) _).alloc (by simp) _).mono hb0.size)
  have walk_book : ∀ {A B : World} {row : Option Nat}, (∀ r, row = some r → W1.heap.size ≤ r ∧ ∃ o : Obj, A.heap[r]? = some o ∧ o.isWalk = true) → ∀ r, row = some r → w.heap.size ≤ r ∧ ∃ o : Obj, A.heap[r]? = some o ∧ o.isCells = false :=
    fun hr r e => by
      obtain ⟨hB, o, ho, hw⟩ := hr r e
      exact ⟨by omega, o, ho, Obj.not_cells_of_walk hw⟩
  refine ⟨w.heap.size + 1, [{ target := .collected w.heap.size, args := #[] }], W1, { target := .fn (.func gf) lb, args := #[.func (.yield (w.heap.size + 1)) #[] #[]] }, W1, gf,
    #[.func (.yield (w.heap.size + 1)) #[] #[]] ++ lb, W1, by rw [hW1]; exact run_enterLoop_outer _ _ _ _ _, by simp only [resolve, hg]; simp [go_sem], fun f' hf' => by simp [Target.leads] at hf'; subst hf'; exact hFg, by simp [invoke, go_sem, eg], fun _ => h1, ?_⟩
  refine (hseq (w.heap.size + 1)
    (fun pre V => I pre V ∧ V.heap[w.heap.size + 1]? = some (book .ready none) ∧ V.heap[w.heap.size]? = some (.deferred (some [])))
    (fun pre V => ∃ c, Ix c pre V ∧ V.heap[w.heap.size + 1]? = some (book .done (some c)) ∧ V.heap[w.heap.size]? = some (.deferred (some [])))
    W1 hbW
    (fun s A B row hs hgr hr => ⟨hI s A B row hs.1 hgr (walk_book (B := B) hr), (grownBy_keeps hgr (fun r e => (hr r e).2) hs.2.1 rfl).trans hs.2.1, (grownBy_keeps hgr (fun r e => (hr r e).2) hs.2.2 rfl).trans hs.2.2⟩)
    (fun s A B row ⟨c, hc, hl, hk⟩ hgr hr => ⟨c, hIx c s A B row hc hgr (walk_book (B := B) hr), (grownBy_keeps hgr (fun r e => (hr r e).2) hl rfl).trans hl, (grownBy_keeps hgr (fun r e => (hr r e).2) hk rfl).trans hk⟩)
    ?round ⟨by rw [hW1]; exact hI.alloc _ (hI.alloc _ h0), hL, hD⟩).mono ?behind
  case round =>
    rintro pre x V ⟨hi, hl, hk⟩ hlen
    have hlt0 : w.heap.size + 1 < V.heap.size := (Array.getElem?_eq_some_iff.1 hl).1
    have hA := hwA x V
    have hKVA := hKA x V (by omega)
    have hGA := hGot x V
    have hiA : I pre (wA x V) := hI _ _ _ none hi hA (fun r e => by cases e)
    have hlA : (wA x V).heap[w.heap.size + 1]? = some (book .ready none) := (hA.block _ hlt0 (by simp)).trans hl
    have hkA : (wA x V).heap[w.heap.size]? = some (.deferred (some [])) := (hA.block _ (by omega) (by simp)).trans hk
    refine ⟨fn, _, assign, body, run_yield hl (hps x), roundIn_of_wpIn hfn (hassign _ x V _ ⟨_, run_beginRound hlA rfl, ?_⟩)⟩
    have hsA := hA.size
    generalize hVA : wA x V = VA at *
    clear hVA hA hl hk
    have hlt : w.heap.size + 1 < VA.heap.size := (Array.getElem?_eq_some_iff.1 hlA).1
    obtain ⟨V2, hV2⟩ : ∃ V2, V2 = VA.putObj (w.heap.size + 1) (book .busy none) := ⟨_, rfl⟩
    have hl2 : V2.heap[w.heap.size + 1]? = some (book .busy none) := by rw [hV2]; exact World.putObj_heap_same hlt
    have hk2 : V2.heap[w.heap.size]? = some (.deferred (some [])) := by rw [hV2]; exact (World.putObj_heap_other (by omega)).trans hkA
    have hi2 : I pre V2 := by rw [hV2]; exact hI.putObj _ hiA (by omega) hlA rfl
    have hw2 : Kp V V2 := by rw [hV2]; exact hKb V VA _ _ _ hKVA (by omega) hlA rfl
    have hg2 : Got x V V2 := by rw [hV2]; exact hGb x V VA _ _ _ hGA (by omega) hlA rfl
    have hs2 : V.heap.size ≤ V2.heap.size := by rw [hV2, World.putObj_size]; exact hsA
    have ends : ∀ (jump : Option Code) (V3 : World), KeepsFrom w.heap.size V2 V3 → V3.heap[w.heap.size + 1]? = some (book .busy none) ∧
        (Instr.endRound (w.heap.size + 1) jump).run P V3 = .ok (.bool jump.isNone) (V3.putObj (w.heap.size + 1) (book (if jump.isNone then .ready else .done) jump)) ∧
        (V3.putObj (w.heap.size + 1) (book (if jump.isNone then .ready else .done) jump)).heap[w.heap.size + 1]? = some (book (if jump.isNone then .ready else .done) jump) ∧
        (V3.putObj (w.heap.size + 1) (book (if jump.isNone then .ready else .done) jump)).heap[w.heap.size]? = some (.deferred (some [])) := fun jump V3 hk3 => by
      have hl3 := hk3.same _ _ (by omega) hl2 rfl
      exact ⟨hl3, run_endRound (P := P) jump hl3, World.putObj_heap_same (Array.getElem?_eq_some_iff.1 hl3).1, (World.putObj_heap_other (by omega)).trans (hk3.same _ _ (Nat.le_refl _) hk2 rfl)⟩
    have hbod := hbody (w.heap.size + 1) pre x V V2 hi hi2 hg2 (by omega) hs2 hlen
    rw [hV2] at hbod
    refine wpIn_mono hbod ?_
    rw [← hV2]
    have left : ∀ (c : Code) (V3 : World), KeepsFrom w.heap.size V2 V3 → Ix c (pre ++ [x]) V3 → ∃ v V4, (Instr.endRound (w.heap.size + 1) (some c)).run P V3 = .ok v V4 ∧ ((.returned v = Ending.returned (.bool true) ∧ (I (pre ++ [x]) V4 ∧ V4.heap[w.heap.size + 1]? = some (book .ready none) ∧ V4.heap[w.heap.size]? = some (.deferred (some []))) ∧ Kp V V4) ∨
        (.returned v = Ending.returned (.bool false) ∧ ∃ c, Ix c (pre ++ [x]) V4 ∧ V4.heap[w.heap.size + 1]? = some (book .done (some c)) ∧ V4.heap[w.heap.size]? = some (.deferred (some [])))) := fun c V3 hk3 hi3 => by
      obtain ⟨hl3, hr, hl4, hk4⟩ := ends (some c) V3 hk3
      exact ⟨_, _, hr, .inr ⟨rfl, c, (hIx _).putObj _ hi3 (by omega) hl3 rfl, hl4, hk4⟩⟩
    rintro e a3 V3 hp
    cases e with
    | normal =>
      obtain ⟨hk3, hkp3, hi3⟩ := hp
      obtain ⟨hl3, hr, hl4, hk4⟩ := ends none V3 hk3
      exact ⟨_, _, hr, .inl ⟨rfl, ⟨hI.putObj _ hi3 (by omega) hl3 rfl, hl4, hk4⟩, hKb V V3 _ _ _ (hKt hw2 hkp3) (by omega) hl3 rfl⟩⟩
    | ret => exact left _ V3 hp.1 hp.2
    | exit id => exact left _ V3 hp.1 hp.2
    | goto t => exact left _ V3 hp.1 hp.2
    | panic ch => exact hp.elim
    | outgrown => exact hp.elim
  case behind =>
    rintro e V ⟨⟨v, rfl⟩, (⟨xs, hS, hi, hl, hk⟩ | ⟨pre, hSp, c, hi, hl, hk⟩)⟩
    · exact ⟨none, _, run_endLoop (P := P) hl (by simp), hdone _ xs _ (Nat.le_refl _) (hSb xs V _ _ _ hS (by omega) hl rfl) (hI.putObj _ hi (by omega) hl rfl) ((World.putObj_heap_other (by omega)).trans hk)⟩
    · exact ⟨some c, _, run_endLoop (P := P) hl (by simp), hstop _ c pre _ (Nat.le_refl _) (hSpb pre V _ _ _ hSp (by omega) hl rfl) ((hIx c).putObj _ hi (by omega) hl rfl) ((World.putObj_heap_other (by omega)).trans hk)⟩
end
end Go.Proofs.Ytekladmddfibaaa
