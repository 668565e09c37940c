/- Joined texts: TabN, WayM, TabK. -/
import Derived.Test.YtablffjhipgfbaaMrgTabP
import Derived.Test.YtablffjhipgfbaaMrgRefR
import Derived.Deep.RegionLaw
import Derived.Test.YtablffjhipgfbaaMrgBasM

/- The document's table: New. -/
section
namespace Go.Proofs.Ytablffjhipgfbaa
open Go.RowKit Go.Sort

theorem Rg.drewN {w : World} {B : Nat} {A : Option Addr} {l : List (Nat × Nat)} (h : Rg w B A l) (n : Nat) : Rg (w.drewN n) B A l := h.keep fun _ _ => rfl
theorem grown_set {w : World} (b i : Nat) (u : Value) : w.grownBy (w.setCell ⟨b, i, none⟩ u) (some b) :=
  ⟨rfl, rfl, rfl, by rw [World.size_setCell]; exact Nat.le_refl _, fun k _ hn => heap_setCell_other w ⟨b, i, none⟩ k u (fun e => hn (by rw [e]))⟩
theorem ref_can {l ol : List (Nat × Nat)} {c : Int} (h : RefRes l ol c) (hc : c = 0) : Canon ol ∧ (addrsOf ol).length ≤ 256 := by
  rcases h with ⟨_, _, h⟩ | ⟨_, ⟨_, _, h⟩ | ⟨h1, _, h2, _⟩⟩
  · omega
  · omega
  · exact ⟨h1, h2⟩
theorem newL_snoc (ks : List Nat) (j : Nat) (a : Nat) (h : ks[j]? = some a) : newL (ks.take (j + 1)) = newL (ks.take j) ++ [bareL a 0 0] := by
  unfold newL
  rw [take_snoc_of ks j a h, List.map_append]
  rfl
theorem atL_at {ks : List Nat} {j a : Nat} (h : ks[j]? = some a) : atL ks (j : Int) = (a, 0) := by
  unfold atL
  rw [if_neg (by omega), Int.toNat_natCast, h]

end Go.Proofs.Ytablffjhipgfbaa
end

/- What a call leaves alone: sets of blocks that are changed (OthT), that are kept (KpT); a call that changes its own blocks alone, or what it makes (Way). (Names no function and no type of the program. Cut out of TabK and StoM, which import it.) -/
section
namespace Go.Proofs.Ytablffjhipgfbaa
open Go.RowKit

/-- A change of the blocks P, or of what is made by it, alone. -/
structure OthT (P : Nat → Prop) (w w' : World) : Prop where
  os : w'.os = w.os
  tape : w'.tape = w.tape
  output : w'.output = w.output
  size : w.heap.size ≤ w'.heap.size
  block : ∀ k, k < w.heap.size → ¬ P k → w'.heap[k]? = w.heap[k]?
/-- What keeps the blocks P. -/
structure KpT (P : Nat → Prop) (w w' : World) : Prop where
  os : w'.os = w.os
  tape : w'.tape = w.tape
  output : w'.output = w.output
  size : w.heap.size ≤ w'.heap.size
  block : ∀ k, P k → w'.heap[k]? = w.heap[k]?
section
variable {wB w w' : World} {P P' : Nat → Prop}
theorem OthT.below (h : OthT P w w') (hlo : ∀ k, P k → wB.heap.size ≤ k) (hb : Below wB.heap.size wB w) : Below wB.heap.size wB w' :=
  ⟨h.os.trans hb.os, h.tape.trans hb.tape, h.output.trans hb.output, Nat.le_trans hb.size h.size, fun k hk => (h.block k (Nat.lt_of_lt_of_le hk hb.size) (fun hp => by have := hlo k hp; omega)).trans (hb.block k hk)⟩
theorem KpT.of_below (h : Below w.heap.size w w') (hlt : ∀ k, P k → k < w.heap.size) : KpT P w w' := ⟨h.os, h.tape, h.output, h.size, fun k hk => h.block k (hlt k hk)⟩
theorem KpT.of_grown {row : Option Nat} (h : w.grownBy w' row) (hlt : ∀ k, P k → k < w.heap.size) (hr : ∀ k, row = some k → ¬ P k) : KpT P w w' := ⟨h.os, h.tape, h.output, h.size, fun k hk => h.block k (hlt k hk) (fun e => hr k e.symm hk)⟩
end

/-! ## What a call leaves alone -/
/-- A call changes the blocks Q alone, or what it makes; they are Q' then. -/
structure Way (Q : Nat → Prop) (w : World) (Q' : Nat → Prop) (w' : World) : Prop where
  oth : OthT Q w w'
  new : ∀ b, Q' b → Q b ∨ w.heap.size ≤ b
section
variable {Q Q' Q'' : Nat → Prop} {w w' w'' : World}
theorem OthT.trans' (h : OthT Q w w') (hn : ∀ b, Q' b → Q b ∨ w.heap.size ≤ b) (k : OthT Q' w' w'') : OthT Q w w'' :=
  ⟨k.os.trans h.os, k.tape.trans h.tape, k.output.trans h.output, Nat.le_trans h.size k.size, fun b hb hq => (k.block b (Nat.lt_of_lt_of_le hb h.size) (fun hq' => by
    rcases hn b hq' with h1 | h1
    · exact hq h1
    · omega)).trans (h.block b hb hq)⟩
theorem Way.trans (h : Way Q w Q' w') (k : Way Q' w' Q'' w'') : Way Q w Q'' w'' :=
  ⟨h.oth.trans' h.new k.oth, fun b hb => by
    rcases k.new b hb with h1 | h1
    · exact h.new b h1
    · exact .inr (Nat.le_trans h.oth.size h1)⟩
theorem OthT.of_low (h : Below w.heap.size w w') : OthT Q w w' := ⟨h.os, h.tape, h.output, h.size, fun b hb _ => h.block b hb⟩
theorem Way.of_below (h : Below w.heap.size w w') : Way Q w Q w' := ⟨OthT.of_low h, fun _ hb => .inl hb⟩
theorem Way.refl (Q : Nat → Prop) (w : World) : Way Q w Q w := Way.of_below (Below.refl _ _)
theorem Way.size (h : Way Q w Q' w') : w.heap.size ≤ w'.heap.size := h.oth.size
/-- All below is as it was, if the blocks lie above. -/
theorem Way.below {B : Nat} (h : Way Q w Q' w') (hB : B ≤ w.heap.size) (hQ : ∀ b, Q b → B ≤ b) : Below B w w' :=
  ⟨h.oth.os, h.oth.tape, h.oth.output, h.oth.size, fun b hb => h.oth.block b (Nat.lt_of_lt_of_le hb hB) (fun hq => by have := hQ b hq; omega)⟩
theorem Way.low {B : Nat} (h : Way Q w Q' w') (hB : B ≤ w.heap.size) (hQ : ∀ b, Q b → B ≤ b) : ∀ b, Q' b → B ≤ b := fun b hb => by
  rcases h.new b hb with h1 | h1
  · exact hQ b h1
  · omega
/-- What lies apart is kept, and stays apart. -/
theorem Way.kp {P : Nat → Prop} (h : Way Q w Q' w') (hP : ∀ b, P b → b < w.heap.size) (ha : ∀ b, P b → ¬ Q b) : KpT P w w' :=
  ⟨h.oth.os, h.oth.tape, h.oth.output, h.oth.size, fun b hb => h.oth.block b (hP b hb) (ha b hb)⟩
theorem Way.apart {P : Nat → Prop} (h : Way Q w Q' w') (hP : ∀ b, P b → b < w.heap.size) (ha : ∀ b, P b → ¬ Q b) : ∀ b, P b → ¬ Q' b := fun b hb hq => by
  rcases h.new b hq with h1 | h1
  · exact ha b hb h1
  · have := hP b hb; omega
theorem Way.wide {Q0 Q1 : Nat → Prop} (h : Way Q w Q' w') (h0 : ∀ b, Q b → Q0 b) (h1 : ∀ b, Q1 b → Q0 b ∨ w.heap.size ≤ b) : Way Q0 w Q1 w' :=
  ⟨⟨h.oth.os, h.oth.tape, h.oth.output, h.oth.size, fun b hb hq => h.oth.block b hb (fun hq' => hq (h0 b hq'))⟩, h1⟩
end

theorem way_set (w : World) {Q : Nat → Prop} (b i : Nat) (u : Value) (hQ : Q b) : Way Q w Q (w.setCell ⟨b, i, none⟩ u) :=
  ⟨⟨rfl, rfl, rfl, by rw [World.size_setCell]; exact Nat.le_refl _, fun k _ hk => Below.heap_setCell w ⟨b, i, none⟩ u k (fun e => hk (e ▸ hQ))⟩, fun _ h => .inl h⟩
end Go.Proofs.Ytablffjhipgfbaa
end

/- What is asked of the program's table, whatever it is made of (TabK); the program's and the document's side by side (Two); lessorlaw12.made, long. -/
section
namespace Go.Proofs.Ytablffjhipgfbaa
open Go.RowKit Go.Sort

/-- Leases are answered that lie somewhere. -/
def GivesTt (w : World) (l : List LV) (e : Ending) (w' : World) : Prop :=
  ∃ A c l', e = .returned (.slice A l'.length c) ∧ Hid (l' = l) ∧ El ElemL w' w'.heap.size A l' ∧ l'.length ≤ c ∧ Below w.heap.size w w'
theorem GivesE.gives {w w' : World} {l : List LV} {e : Ending} (h : GivesE w l e w') : GivesTt w l e w' := by
  obtain ⟨A, c, l', he, hl, hr, hc⟩ := h
  obtain ⟨A2, c2, e2, _, h4⟩ := hr.form
  injection e2 with e2 _ _
  subst e2
  exact ⟨A, c, l', he, hl, h4, hc, hr.low⟩

/-- T w P g L: the pointer to block g is the program's table of the leases L; it lies in the blocks P. What its methods do. -/
structure TabK (T : World → (Nat → Prop) → Nat → List LV → Prop) : Prop where
  tab : ∀ {w P g L}, T w P g L → TabL L
  few : ∀ {w P g L}, T w P g L → L.length ≤ 256
  w32 : ∀ {w P g L}, T w P g L → ∀ x ∈ L, x.addr < 4294967296
  lt : ∀ {w P g L}, T w P g L → ∀ k, P k → k < w.heap.size
  keep : ∀ {w w' P g L}, T w P g L → KpT P w w' → T w' P g L
  new : ∀ (A : Option Addr) (c : Nat) (l : List (Nat × Nat)) (w : World), Rg w w.heap.size A l → l.length ≤ 1000 →
    Calls Try.prog 4 #[.slice A l.length c] w fun e w' => ∃ ol code, PoolRes l ol code ∧ Below w.heap.size w w' ∧ ((code ≠ 0 ∧ e = .returned (.tuple #[.pointer none, .int .i64 code])) ∨ (code = 0 ∧ ∃ P g L, e = .returned (.tuple #[.pointer (some ⟨g, 0, none⟩), .int .i64 0]) ∧ Hid (L = newL (addrsOf ol)) ∧ T w' P g L ∧ ∀ k, P k → w.heap.size ≤ k))
  set : ∀ {w P g L} (x : LV), T w P g L → x.addr < 4294967296 →
    Calls Try.prog 5 #[.pointer (some ⟨g, 0, none⟩), x.v] w fun e w' => ∃ P', e = .returned (.int .i64 (setL L x).2) ∧ T w' P' g (setL L x).1 ∧ OthT P w w' ∧ ∀ k, P' k → P k ∨ w.heap.size ≤ k
  get : ∀ {w P g L} (a : Nat), T w P g L → a < 4294967296 →
    Calls Try.prog 9 #[.pointer (some ⟨g, 0, none⟩), .int .u32 (a : Int)] w fun e w' => e = .returned (.tuple #[(getL L a).1.v, .int .i64 (getL L a).2]) ∧ Below w.heap.size w w'
  cnt : ∀ {w P g L} (q : Int), T w P g L →
    Calls Try.prog 6 #[.pointer (some ⟨g, 0, none⟩), .int .i64 q] w fun e w' => e = .returned (.int .i64 ((cntL L q : Nat) : Int)) ∧ Below w.heap.size w w'
  all : ∀ {w P g L}, T w P g L → Calls Try.prog 8 #[.pointer (some ⟨g, 0, none⟩)] w (GivesE w L)

section
variable {T : World → (Nat → Prop) → Nat → List LV → Prop} {wB w w' : World} {P P' : Nat → Prop} {g gr : Nat} {v : Value} {L L' : List LV}
theorem TabK.all' (K : TabK T) (h : T w P g L) : Calls Try.prog 8 #[.pointer (some ⟨g, 0, none⟩)] w (GivesTt w L) := (K.all h).mono fun _ _ h => h.gives
/-- A row of its own is kept where other blocks are changed. -/
theorem El.oth {A : Option Addr} {n c : Nat} {l : List LV} (h : RowE ElemL wB w (.slice A n c) l) (ho : OthT P w w') (hp : ∀ k, (Value.slice A n c).ownBlock = some k → ¬ P k) (hn : n = l.length) : El ElemL w' w'.heap.size A l := by
  subst hn
  refine El.of_own (n := l.length) (c := c) (base := wB.heap.size) ⟨h.own.1, ?_⟩
  rcases h.own.2 with h3 | ⟨g1, cap, cur, e, hb, hh, r⟩
  · exact .inl h3
  · exact .inr ⟨g1, cap, cur, e, hb, (ho.block g1 (Array.getElem?_eq_some_iff.1 hh).1 (hp g1 (by rw [e]; rfl))).trans hh, r⟩
theorem TabK.later (K : TabK T) (h : T w P g L) (hb : Below w.heap.size w w') : T w' P g L := K.keep h (KpT.of_below hb (K.lt h))
end
end Go.Proofs.Ytablffjhipgfbaa
end
