/- What is asked of the program's table, whatever it is made of (TabK); the program's and the document's side by side (Two); lessorlaw12.made, long. -/
import Derived.Test.YtjkkdmfpekkfhaaTabN
namespace Go.Proofs.Ytjkkdmfpekkfhaa
open Go.RowKit Go.Sort

/-- A change of the blocks P, or of what is made by it, alone. -/
structure OthT (P : Nat → Prop) (w w' : World) : Prop where
  os : w'.os = w.os
  tape : w'.tape = w.tape
  output : w'.output = w.output
  size : w.heap.size ≤ w'.heap.size
  block : ∀ k, k < w.heap.size → ¬ P k → w'.heap[k]? = w.heap[k]?
/-- What keeps the blocks P. -/
structure KpT (P : Nat → Prop) (w w' : World) : Prop where
  os : w'.os = w.os
  tape : w'.tape = w.tape
  output : w'.output = w.output
  size : w.heap.size ≤ w'.heap.size
  block : ∀ k, P k → w'.heap[k]? = w.heap[k]?
/-- Leases are answered that lie somewhere. -/
def GivesT (w : World) (l : List LV) (e : Ending) (w' : World) : Prop :=
  ∃ A c l', e = .returned (.slice A l'.length c) ∧ Hid (l' = l) ∧ El ElemL w' w'.heap.size A l' ∧ l'.length ≤ c ∧ Below w.heap.size w w'
theorem GivesE.gives {w w' : World} {l : List LV} {e : Ending} (h : GivesE w l e w') : GivesT w l e w' := by
  obtain ⟨A, c, l', he, hl, hr, hc⟩ := h
  obtain ⟨A2, c2, e2, _, h4⟩ := hr.form
  injection e2 with e2 _ _
  subst e2
  exact ⟨A, c, l', he, hl, h4, hc, hr.low⟩

/-- T w P g L: the pointer to block g is the program's table of the leases L; it lies in the blocks P. What its methods do. -/
structure TabK (T : World → (Nat → Prop) → Nat → List LV → Prop) : Prop where
  tab : ∀ {w P g L}, T w P g L → TabL L
  few : ∀ {w P g L}, T w P g L → L.length ≤ 256
  w32 : ∀ {w P g L}, T w P g L → ∀ x ∈ L, x.addr < 4294967296
  lt : ∀ {w P g L}, T w P g L → ∀ k, P k → k < w.heap.size
  keep : ∀ {w w' P g L}, T w P g L → KpT P w w' → T w' P g L
  new : ∀ (A : Option Addr) (c : Nat) (l : List (Nat × Nat)) (w : World), Rg w w.heap.size A l → l.length ≤ 1000 →
    Calls Try.prog 27 #[.slice A l.length c] w fun e w' => ∃ ol code, PoolRes l ol code ∧ Below w.heap.size w w' ∧ ((code ≠ 0 ∧ e = .returned (.tuple #[.pointer none, .int .i64 code])) ∨ (code = 0 ∧ ∃ P g L, e = .returned (.tuple #[.pointer (some ⟨g, 0, none⟩), .int .i64 0]) ∧ Hid (L = newL (addrsOf ol)) ∧ T w' P g L ∧ ∀ k, P k → w.heap.size ≤ k))
  set : ∀ {w P g L} (x : LV), T w P g L → x.addr < 4294967296 →
    Calls Try.prog 23 #[.pointer (some ⟨g, 0, none⟩), x.v] w fun e w' => ∃ P', e = .returned (.int .i64 (setL L x).2) ∧ T w' P' g (setL L x).1 ∧ OthT P w w' ∧ ∀ k, P' k → P k ∨ w.heap.size ≤ k
  get : ∀ {w P g L} (a : Nat), T w P g L → a < 4294967296 →
    Calls Try.prog 11 #[.pointer (some ⟨g, 0, none⟩), .int .u32 (a : Int)] w fun e w' => e = .returned (.tuple #[(getL L a).1.v, .int .i64 (getL L a).2]) ∧ Below w.heap.size w w'
  fst : ∀ {w P g L} (q : Int), T w P g L →
    Calls Try.prog 13 #[.pointer (some ⟨g, 0, none⟩), .int .i64 q] w fun e w' => e = .returned (fstV (fstL L q)) ∧ Below w.heap.size w w'
  cnt : ∀ {w P g L} (q : Int), T w P g L →
    Calls Try.prog 19 #[.pointer (some ⟨g, 0, none⟩), .int .i64 q] w fun e w' => e = .returned (.int .i64 ((cntL L q : Nat) : Int)) ∧ Below w.heap.size w w'
  all : ∀ {w P g L}, T w P g L → Calls Try.prog 16 #[.pointer (some ⟨g, 0, none⟩)] w (GivesE w L)
  of_ : ∀ {w P g L} (s : ByteArray), T w P g L → Calls Try.prog 21 #[.pointer (some ⟨g, 0, none⟩), .string s] w (GivesE w (ofL L s.data.toList))
  due : ∀ {w P g L} (now : Int), T w P g L → Calls Try.prog 17 #[.pointer (some ⟨g, 0, none⟩), .int .i64 now] w (GivesE w (dueL L now))

section
variable {T : World → (Nat → Prop) → Nat → List LV → Prop} {wB w w' : World} {P P' : Nat → Prop} {g gr : Nat} {v : Value} {L L' : List LV}
theorem OthT.below (h : OthT P w w') (hlo : ∀ k, P k → wB.heap.size ≤ k) (hb : Below wB.heap.size wB w) : Below wB.heap.size wB w' :=
  ⟨h.os.trans hb.os, h.tape.trans hb.tape, h.output.trans hb.output, Nat.le_trans hb.size h.size, fun k hk => (h.block k (Nat.lt_of_lt_of_le hk hb.size) (fun hp => by have := hlo k hp; omega)).trans (hb.block k hk)⟩
theorem KpT.of_below (h : Below w.heap.size w w') (hlt : ∀ k, P k → k < w.heap.size) : KpT P w w' := ⟨h.os, h.tape, h.output, h.size, fun k hk => h.block k (hlt k hk)⟩
theorem KpT.of_grown {row : Option Nat} (h : w.grownBy w' row) (hlt : ∀ k, P k → k < w.heap.size) (hr : ∀ k, row = some k → ¬ P k) : KpT P w w' := ⟨h.os, h.tape, h.output, h.size, fun k hk => h.block k (hlt k hk) (fun e => hr k e.symm hk)⟩
theorem TabK.all' (K : TabK T) (h : T w P g L) : Calls Try.prog 16 #[.pointer (some ⟨g, 0, none⟩)] w (GivesT w L) := (K.all h).mono fun _ _ h => h.gives
theorem TabK.of' (K : TabK T) (s : ByteArray) (h : T w P g L) : Calls Try.prog 21 #[.pointer (some ⟨g, 0, none⟩), .string s] w (GivesT w (ofL L s.data.toList)) := (K.of_ s h).mono fun _ _ h => h.gives
theorem TabK.due' (K : TabK T) (now : Int) (h : T w P g L) : Calls Try.prog 17 #[.pointer (some ⟨g, 0, none⟩), .int .i64 now] w (GivesT w (dueL L now)) := (K.due now h).mono fun _ _ h => h.gives
/-- A row of its own is kept where other blocks are changed. -/
theorem El.oth {A : Option Addr} {n c : Nat} {l : List LV} (h : RowE ElemL wB w (.slice A n c) l) (ho : OthT P w w') (hp : ∀ k, (Value.slice A n c).ownBlock = some k → ¬ P k) (hn : n = l.length) : El ElemL w' w'.heap.size A l := by
  subst hn
  refine El.of_own (n := l.length) (c := c) (base := wB.heap.size) ⟨h.own.1, ?_⟩
  rcases h.own.2 with h3 | ⟨g1, cap, cur, e, hb, hh, r⟩
  · exact .inl h3
  · exact .inr ⟨g1, cap, cur, e, hb, (ho.block g1 (Array.getElem?_eq_some_iff.1 hh).1 (hp g1 (by rw [e]; rfl))).trans hh, r⟩
theorem TabK.later (K : TabK T) (h : T w P g L) (hb : Below w.heap.size w w') : T w' P g L := K.keep h (KpT.of_below hb (K.lt h))
theorem RT.oth (h : RT wB w gr v L) (ho : OthT P w w') (hlo : ∀ k, P k → wB.heap.size ≤ k) (h1 : ¬ P gr) (h2 : ∀ k, v.ownBlock = some k → ¬ P k) : RT wB w' gr v L := by
  refine ⟨(ho.block gr h.lt h1).trans h.box, ⟨⟨h.row.own.1, ?_⟩, ho.below hlo h.low⟩, h.lo⟩
  rcases h.row.own.2 with h3 | ⟨g1, cap, cur, rfl, hb, hh, r⟩
  · exact .inl h3
  · exact .inr ⟨g1, cap, cur, rfl, hb, (ho.block g1 (Array.getElem?_eq_some_iff.1 hh).1 (h2 g1 rfl)).trans hh, r⟩

/-- The program's table and the document's, side by side, both made since wB, with leases of their own. -/
structure Two2 (T : World → (Nat → Prop) → Nat → List LV → Prop) (wB w : World) (P : Nat → Prop) (g gr : Nat) (v : Value) (L M : List LV) : Prop where
  t : T w P g L
  r : RT wB w gr v M
  a1 : ¬ P gr
  a2 : ∀ k, v.ownBlock = some k → ¬ P k
  lo : ∀ k, P k → wB.heap.size ≤ k
theorem Two2.low (h : Two2 T wB w P g gr v L L') : Below wB.heap.size wB w := h.r.low
theorem Two2.later (K : TabK T) (h : Two2 T wB w P g gr v L L') (hb : Below w.heap.size w w') : Two2 T wB w' P g gr v L L' := ⟨K.later h.t hb, h.r.later hb, h.a1, h.a2, h.lo⟩
/-- The program's is changed. -/
theorem Two2.first {M : List LV} (h : Two2 T wB w P g gr v L M) (ht : T w' P' g L') (ho : OthT P w w') (hp : ∀ k, P' k → P k ∨ w.heap.size ≤ k) : Two2 T wB w' P' g gr v L' M := by
  refine ⟨ht, h.r.oth ho h.lo h.a1 h.a2, fun hk => ?_, fun k hv hk => ?_, fun k hk => ?_⟩
  · rcases hp gr hk with h1 | h1
    · exact h.a1 h1
    · have := h.r.lt; omega
  · rcases hp k hk with h1 | h1
    · exact h.a2 k hv h1
    · have := (h.r.row.lt k hv).2; omega
  · rcases hp k hk with h1 | h1
    · exact h.lo k h1
    · exact Nat.le_trans h.low.size h1
/-- The document's is changed. -/
theorem Two2.second (K : TabK T) {M M' : List LV} (h : Two2 T wB w P g gr v L M) (hr : RT wB w' gr v M') (hg : w.grownBy w' v.ownBlock) : Two2 T wB w' P g gr v L M' :=
  ⟨K.keep h.t (KpT.of_grown hg (K.lt h.t) h.a2), hr, h.a1, h.a2, h.lo⟩
end
/-- What any leases that are set make of a table. -/
def runT (L : List LV) (ls : List LV) : List LV := ls.foldl (fun L x => (setL L x).1) L
theorem runT_snoc (L ls : List LV) (x : LV) : runT L (ls ++ [x]) = (setL (runT L ls) x).1 := by simp [runT]
/-- What a test should not have. -/
def longB (l : List (Nat × Nat)) (ls : List LV) : Bool := (ls.any fun x => decide (200 < x.client.length)) || decide (50 < l.length) || decide (200 < ls.length)

set_option maxRecDepth 100000 in
set_option maxHeartbeats 1000000 in
theorem long_any (A A2 : Option Addr) (c c2 : Nat) (l : List (Nat × Nat)) (ls : List LV) (w : World) (B : Nat) (h : El ElemL w B A2 ls) (hl : l.length ≤ 9223372036854775807) (hls : ls.length ≤ 9223372036854775807) :
    Calls Try.prog 9 #[.slice A l.length c, .slice A2 ls.length c2] w fun e w' => e = .returned (.bool (longB l ls)) ∧ w = w' := by
  have HE := Lib.hid h
  clear h
  go_enter Try.func9, Try.ntmps9
  go_wp2
  go_loop [5] (fun i => ∃ j : Nat, j ≤ ls.length ∧ i = .int .i64 j ∧ Hid (∀ x ∈ ls.take j, x.client.length ≤ 200)) (fun i => ls.length - (intOf i).toNat)
  case atStart => exact ⟨0, Nat.zero_le _, rfl, Lib.hid (by simp)⟩
  case round =>
    obtain ⟨j, hj, rfl, HN⟩ := hrel
    by_cases hlt : j < ls.length
    · obtain ⟨x, hx⟩ : ∃ x, ls[j]? = some x := ⟨_, List.getElem?_eq_getElem hlt⟩
      obtain ⟨b, o, rfl, hb, -, -, c02, -⟩ := HE.out.at8 j x hx
      have HX := Lib.hid hx
      have HCB := Lib.hid x.cb_size
      clear hx
      by_cases he : 200 < x.client.length
      · have hd : decide ((200 : Int) < (x.cb.size : Int)) = true := by rw [HCB.out]; simp; omega
        have HR : Hid (longB l ls = true) := Lib.hid (by
          unfold longB
          rw [List.any_eq_true.2 ⟨x, List.mem_of_getElem? HX.out, decide_eq_true he⟩]
          rfl)
        clear he
        go_wp2
        go_ret
        rw [HR.out]
        exact ⟨rfl, rfl⟩
      · have hd : decide ((200 : Int) < (x.cb.size : Int)) = false := by rw [HCB.out]; simp; omega
        have HN2 : Hid (∀ y ∈ ls.take (j + 1), y.client.length ≤ 200) := Lib.hid (by
          intro y hy
          rw [take_snoc_of ls j x HX.out, List.mem_append, List.mem_singleton] at hy
          rcases hy with hy | rfl
          · exact HN.out y hy
          · omega)
        clear he
        go_wp2
        go_round
        case rel => exact ⟨j + 1, by omega, by go_num, HN2⟩
        case measure => simp [intOf]; omega
    · have HA : Hid ((ls.any fun x => decide (200 < x.client.length)) = false) := Lib.hid (by
        rw [List.any_eq_false]
        intro x hx
        have := HN.out x (by rwa [List.take_of_length_le (by omega)])
        simp
        omega)
      by_cases h50 : 50 < l.length
      · have hd : decide ((50 : Int) < (l.length : Int)) = true := by simp; omega
        have HR : Hid (longB l ls = true) := Lib.hid (by unfold longB; rw [HA.out, decide_eq_true h50]; rfl)
        clear h50
        go_wp2
        go_ret
        rw [HR.out]
        exact ⟨rfl, rfl⟩
      · have hd : decide ((50 : Int) < (l.length : Int)) = false := by simp; omega
        have HR : Hid (longB l ls = decide ((200 : Int) < (ls.length : Int))) := Lib.hid (by
          unfold longB
          rw [HA.out, decide_eq_false h50, Bool.false_or, Bool.false_or, decide_eq_decide]
          omega)
        clear h50
        go_wp2
        go_ret
        rw [HR.out]
        exact ⟨rfl, rfl⟩
end Go.Proofs.Ytjkkdmfpekkfhaa
