/- Joined texts: TabN, WayM, TabK. -/
import Derived.Test.YtmaohnbddlccdaaGreatMrgTabP
import Derived.Test.YtmaohnbddlccdaaGreatMrgRefR
import Derived.Deep.RegionLaw
import Derived.Test.YtmaohnbddlccdaaGreatMrgBasM

/- The document's table: New. -/
section
namespace Go.Proofs.YtmaohnbddlccdaaGreat
open Go.RowKit Go.Sort

theorem Rg.drewN {w : World} {B : Nat} {A : Option Addr} {l : List (Nat × Nat)} (h : Rg w B A l) (n : Nat) : Rg (w.drewN n) B A l := h.keep fun _ _ => rfl
theorem grown_set {w : World} (b i : Nat) (u : Value) : w.grownBy (w.setCell ⟨b, i, none⟩ u) (some b) :=
  ⟨rfl, rfl, rfl, by rw [World.size_setCell]; exact Nat.le_refl _, fun k _ hn => heap_setCell_other w ⟨b, i, none⟩ k u (fun e => hn (by rw [e]))⟩
/-- What New answers: no table, or one of the pool's addresses. -/
def GivesN (w : World) (l : List (Nat × Nat)) (e : Ending) (w' : World) : Prop :=
  ∃ ol code, RefRes l ol code ∧ Below w.heap.size w w' ∧ ((code ≠ 0 ∧ e = .returned (.tuple #[.pointer none, .int .i64 code])) ∨ (code = 0 ∧ ∃ g v L, e = .returned (.tuple #[.pointer (some ⟨g, 0, none⟩), .int .i64 0]) ∧ Hid (L = newL (addrsOf ol)) ∧ RTb w w' g v L))
theorem ref_can {l ol : List (Nat × Nat)} {c : Int} (h : RefRes l ol c) (hc : c = 0) : Canon ol ∧ (addrsOf ol).length ≤ 256 := by
  rcases h with ⟨_, _, h⟩ | ⟨_, ⟨_, _, h⟩ | ⟨h1, _, h2, _⟩⟩
  · omega
  · omega
  · exact ⟨h1, h2⟩
theorem newL_snoc (ks : List Nat) (j : Nat) (a : Nat) (h : ks[j]? = some a) : newL (ks.take (j + 1)) = newL (ks.take j) ++ [bareL a 0 0] := by
  unfold newL
  rw [take_snoc_of ks j a h, List.map_append]
  rfl
theorem atL_at {ks : List Nat} {j a : Nat} (h : ks[j]? = some a) : atL ks (j : Int) = (a, 0) := by
  unfold atL
  rw [if_neg (by omega), Int.toNat_natCast, h]

set_option maxRecDepth 100000 in
set_option maxHeartbeats 4000000 in
theorem rtnew_any (A : Option Addr) (c : Nat) (l : List (Nat × Nat)) (w : World) (hr : Rg w w.heap.size A l) (hl : l.length ≤ 1000) :
    Calls Tryz.prog 27 #[.slice A l.length c] w (GivesN w l) := by
  go_enter Tryz.func27, Tryz.ntmps27
  go_wp2_with fail
  refine (rpool_any A c l w hr hl).mono ?_
  rintro e w1 ⟨ol, code, p, cap, rfl, hres, hR1, hB1⟩
  have HRES := Lib.hid hres
  have HR1 := Lib.hid hR1
  have HB1 := Lib.hid hB1
  clear hr hR1 hB1 hres
  by_cases hc : code = 0
  rotate_left
  · have hd : (code != 0) = true := by simpa using hc
    have HC := Lib.hid hc
    clear hc
    go_wp2
    go_ret2
    exact ⟨ol, code, HRES.out, HB1.out, .inl ⟨HC.out, rfl⟩⟩
  subst hc
  obtain ⟨hcan, h256⟩ := ref_can HRES.out rfl
  have HCAN := Lib.hid hcan
  have hol : ol.length ≤ 256 := Nat.le_trans (canon_len ol hcan) h256
  obtain ⟨ks, hks⟩ : ∃ ks, ks = addrsOf ol := ⟨_, rfl⟩
  have HKS := Lib.hid hks
  have hkl : ks.length ≤ 256 := by rw [hks]; exact h256
  obtain ⟨w2, hw2⟩ : ∃ w2, w2 = w1.alloc (.cells #[.slice none 0 0] 106) := ⟨_, rfl⟩
  have HX2 : Hid (w2.heap[w1.heap.size]? = some (.cells #[.slice none 0 0] 106 (0, 0))) := Lib.hid (by rw [hw2]; exact heap_alloc_new w1 _)
  have hB2 : Below w1.heap.size w1 w2 := by rw [hw2]; exact (Below.refl _ _).alloc (Nat.le_refl _) _
  have HROW2 : Hid (RowE ElemL w1 w2 (.slice none 0 0) []) := Lib.hid ((RowE.nil w1).later hB2)
  have HW2 := Lib.hid hw2
  clear hcan h256 hks hw2 hB2
  go_upto_region 5 with fail
  rw [← HW2.out]
  go_wp2_with fail
  go_loopw [7, 8, 9] (fun i _ _ wr => ∃ (j : Nat) (A' : Option Addr) (c' : Nat) (d : List LV), j ≤ ks.length ∧ i = .int .i64 j ∧ Hid (wr.heap[w1.heap.size]? = some (.cells #[.slice A' d.length c'] 106 (0, 0))) ∧ Hid (d = newL (ks.take j)) ∧ Hid (RowE ElemL w1 wr (.slice A' d.length c') d) ∧ d.length ≤ 256) (fun i _ _ _ => ks.length - (intOf i).toNat)
  case atStart => exact ⟨0, none, 0, [], Nat.zero_le _, rfl, HX2, Lib.hid rfl, HROW2, by simp⟩
  case round =>
    obtain ⟨j, A', c', d, hj, rfl, HX, HD, HV, hdl⟩ := hrel
    have HRr : Hid (Rg wr w1.heap.size p ol) := Lib.hid (HR1.out.below HV.out.low)
    have HV' : Hid (∀ x ∈ ol, x.1 ≤ x.2) := Lib.hid HCAN.out.val
    have HCNT := Lib.hid (rcount_any p cap ol wr (by have := HRr.out; exact this.more HV.out.low.size) HV'.out (by omega) (by rw [← HKS.out]; exact hkl))
    rw [← HKS.out] at HCNT
    go_wp2_with fail
    refine HCNT.out.mono ?_
    rintro e w3 ⟨rfl, n3, rfl⟩
    by_cases hlt : j < ks.length
    · obtain ⟨a, ha⟩ : ∃ a, ks[j]? = some a := ⟨_, List.getElem?_eq_getElem hlt⟩
      have HAT := Lib.hid (rat_any p cap ol (j : Int) (wr.drewN n3) ((HRr.out.drewN n3).more HV.out.low.size) HV'.out (by omega) (by rw [← HKS.out]; exact hkl) (by omega))
      rw [← HKS.out, atL_at ha] at HAT
      have HA := Lib.hid ha
      clear ha
      go_wp2_with fail
      refine HAT.out.mono ?_
      rintro e w4 ⟨rfl, n4, rfl⟩
      obtain ⟨w5, hw5⟩ : ∃ w5, w5 = (wr.drewN n3).drewN n4 := ⟨_, rfl⟩
      rw [← hw5]
      have hB5 : Below wr.heap.size wr w5 := by rw [hw5, World.drewN_drewN]; exact ⟨rfl, rfl, rfl, Nat.le_refl _, fun _ _ => rfl⟩
      have HX5 : Hid (w5.heap[w1.heap.size]? = some (.cells #[.slice A' d.length c'] 106 (0, 0))) := Lib.hid (by rw [hw5]; exact HX.out)
      have HV5 := Lib.hid (HV.out.later hB5)
      have HBA := Lib.hid (fun W => rbare_any a 0 0 W)
      have c5 := cell_of_row w5 w1.heap.size 0 _ _ _ HX5.out
      simp at c5
      have HDL := Lib.hid hdl
      clear hw5 hB5 HCNT HAT hdl
      go_upto_region 9 with fail
      go_region_law (first
        | (go_simp; go_at_call 49; refine (HBA.out _).mono ?_; rintro e w6 ⟨rfl, hB6c⟩; have hB6 : Below w5.heap.size w5 w6 := ⟨hB6c.os, hB6c.tape, hB6c.output, hB6c.size, hB6c.block⟩; have HX6 := Lib.hid ((hB6.block w1.heap.size (Array.getElem?_eq_some_iff.1 HX5.out).1).trans HX5.out); have HV6 := Lib.hid (HV5.out.later hB6); have c6 := cell_of_row w6 w1.heap.size 0 _ _ _ HX6.out; simp at c6; have HX7 := Lib.hid ((Below.heap_alloc w6 (.cells (bareL a 0 0).cells 42) w1.heap.size (Array.getElem?_eq_some_iff.1 HX6.out).1).trans HX6.out); have c7 := cell_of_row (w6.alloc (.cells (bareL a 0 0).cells 42)) w1.heap.size 0 _ _ _ HX7.out; simp at c7; have HLX := Lib.hid (El.lit (E := ElemL) w6 [bareL a 0 0] (bareL a 0 0).cells 42 (cells8 _)); have hz : d.length + [bareL a 0 0].length ≤ 100000000000 := (by have := HDL.out; simp; omega))
        | (refine step_rowE (E := ElemL) rfl (.tmp 36) (.tmp 39) rfl rfl (HV6.out.alloc _) [bareL a 0 0] rfl rfl HLX.out hz ?_; intro A8 k8 w8 l8 HL8 hR8 hk8 _ hg8; have HX8 := Lib.hid ((hg8.block w1.heap.size (Array.getElem?_eq_some_iff.1 HX7.out).1 (fun e => (HV6.out.alloc _).apart HX7.out (by decide) e.symm)).trans HX7.out); have c8 := cell_of_row w8 w1.heap.size 0 _ _ _ HX8.out; simp at c8; have f8 := frozen_of_row w8 w1.heap.size 0 _ _ HX8.out; have HR8 := Lib.hid hR8; clear hR8))
      all_goals
        have HX9 := Lib.hid (heap_setCell_same w8 w1.heap.size 0 _ _ (.slice A8 l8.length k8) HX8.out)
        have HV9 := Lib.hid (HR8.out.kept (grown_set (w := w8) w1.heap.size 0 (.slice A8 l8.length k8)) (fun k e => by injection e with e; exact Nat.le_of_eq e) (.inr (HR8.out.apart HX8.out (by decide)).symm))
        have hlen : l8.length ≤ 256 := by rw [HL8.out, HD.out, ← newL_snoc ks j a HA.out]; unfold newL; rw [List.length_map, List.length_take]; omega
        clear c8 f8
        go_wp2
        go_roundw
        case rel => exact ⟨j + 1, A8, k8, l8, by omega, by go_num, HX9, Lib.hid (by rw [HL8.out, HD.out, newL_snoc ks j a HA.out]), HV9, hlen⟩
        case measure => simp [intOf]; omega
    · obtain rfl : j = ks.length := by omega
      have HD2 : Hid (d = newL (addrsOf ol)) := Lib.hid (by rw [HD.out, List.take_of_length_le (Nat.le_refl _), HKS.out])
      go_wp2
      go_ret2
      refine ⟨ol, 0, HRES.out, HB1.out.trans ((HV.out.low.trans (show Below w1.heap.size wr (wr.drewN n3) from ⟨rfl, rfl, rfl, Nat.le_refl _, fun _ _ => rfl⟩)).mono HB1.out.size), .inr ⟨rfl, w1.heap.size, _, d, rfl, HD2, HX.out, ?_, HB1.out.size⟩⟩
      exact ((HV.out.base HB1.out).later (drewN_below wr n3))
end Go.Proofs.YtmaohnbddlccdaaGreat
end

/- What a call leaves alone: sets of blocks that are changed (OthT), that are kept (KpT); a call that changes its own blocks alone, or what it makes (Way). (Names no function and no type of the program. Cut out of TabK and StoM, which import it.) -/
section
namespace Go.Proofs.YtmaohnbddlccdaaGreat
open Go.RowKit

/-- A change of the blocks P, or of what is made by it, alone. -/
structure OthT (P : Nat → Prop) (w w' : World) : Prop where
  os : w'.os = w.os
  tape : w'.tape = w.tape
  output : w'.output = w.output
  size : w.heap.size ≤ w'.heap.size
  block : ∀ k, k < w.heap.size → ¬ P k → w'.heap[k]? = w.heap[k]?
/-- What keeps the blocks P. -/
structure KpT (P : Nat → Prop) (w w' : World) : Prop where
  os : w'.os = w.os
  tape : w'.tape = w.tape
  output : w'.output = w.output
  size : w.heap.size ≤ w'.heap.size
  block : ∀ k, P k → w'.heap[k]? = w.heap[k]?
section
variable {wB w w' : World} {P P' : Nat → Prop}
theorem OthT.below (h : OthT P w w') (hlo : ∀ k, P k → wB.heap.size ≤ k) (hb : Below wB.heap.size wB w) : Below wB.heap.size wB w' :=
  ⟨h.os.trans hb.os, h.tape.trans hb.tape, h.output.trans hb.output, Nat.le_trans hb.size h.size, fun k hk => (h.block k (Nat.lt_of_lt_of_le hk hb.size) (fun hp => by have := hlo k hp; omega)).trans (hb.block k hk)⟩
theorem KpT.of_below (h : Below w.heap.size w w') (hlt : ∀ k, P k → k < w.heap.size) : KpT P w w' := ⟨h.os, h.tape, h.output, h.size, fun k hk => h.block k (hlt k hk)⟩
theorem KpT.of_grown {row : Option Nat} (h : w.grownBy w' row) (hlt : ∀ k, P k → k < w.heap.size) (hr : ∀ k, row = some k → ¬ P k) : KpT P w w' := ⟨h.os, h.tape, h.output, h.size, fun k hk => h.block k (hlt k hk) (fun e => hr k e.symm hk)⟩
end

/-! ## What a call leaves alone -/
/-- A call changes the blocks Q alone, or what it makes; they are Q' then. -/
structure Way (Q : Nat → Prop) (w : World) (Q' : Nat → Prop) (w' : World) : Prop where
  oth : OthT Q w w'
  new : ∀ b, Q' b → Q b ∨ w.heap.size ≤ b
section
variable {Q Q' Q'' : Nat → Prop} {w w' w'' : World}
theorem OthT.trans' (h : OthT Q w w') (hn : ∀ b, Q' b → Q b ∨ w.heap.size ≤ b) (k : OthT Q' w' w'') : OthT Q w w'' :=
  ⟨k.os.trans h.os, k.tape.trans h.tape, k.output.trans h.output, Nat.le_trans h.size k.size, fun b hb hq => (k.block b (Nat.lt_of_lt_of_le hb h.size) (fun hq' => by
    rcases hn b hq' with h1 | h1
    · exact hq h1
    · omega)).trans (h.block b hb hq)⟩
theorem Way.trans (h : Way Q w Q' w') (k : Way Q' w' Q'' w'') : Way Q w Q'' w'' :=
  ⟨h.oth.trans' h.new k.oth, fun b hb => by
    rcases k.new b hb with h1 | h1
    · exact h.new b h1
    · exact .inr (Nat.le_trans h.oth.size h1)⟩
theorem OthT.of_low (h : Below w.heap.size w w') : OthT Q w w' := ⟨h.os, h.tape, h.output, h.size, fun b hb _ => h.block b hb⟩
theorem Way.of_below (h : Below w.heap.size w w') : Way Q w Q w' := ⟨OthT.of_low h, fun _ hb => .inl hb⟩
theorem Way.refl (Q : Nat → Prop) (w : World) : Way Q w Q w := Way.of_below (Below.refl _ _)
theorem Way.size (h : Way Q w Q' w') : w.heap.size ≤ w'.heap.size := h.oth.size
/-- All below is as it was, if the blocks lie above. -/
theorem Way.below {B : Nat} (h : Way Q w Q' w') (hB : B ≤ w.heap.size) (hQ : ∀ b, Q b → B ≤ b) : Below B w w' :=
  ⟨h.oth.os, h.oth.tape, h.oth.output, h.oth.size, fun b hb => h.oth.block b (Nat.lt_of_lt_of_le hb hB) (fun hq => by have := hQ b hq; omega)⟩
theorem Way.low {B : Nat} (h : Way Q w Q' w') (hB : B ≤ w.heap.size) (hQ : ∀ b, Q b → B ≤ b) : ∀ b, Q' b → B ≤ b := fun b hb => by
  rcases h.new b hb with h1 | h1
  · exact hQ b h1
  · omega
/-- What lies apart is kept, and stays apart. -/
theorem Way.kp {P : Nat → Prop} (h : Way Q w Q' w') (hP : ∀ b, P b → b < w.heap.size) (ha : ∀ b, P b → ¬ Q b) : KpT P w w' :=
  ⟨h.oth.os, h.oth.tape, h.oth.output, h.oth.size, fun b hb => h.oth.block b (hP b hb) (ha b hb)⟩
theorem Way.apart {P : Nat → Prop} (h : Way Q w Q' w') (hP : ∀ b, P b → b < w.heap.size) (ha : ∀ b, P b → ¬ Q b) : ∀ b, P b → ¬ Q' b := fun b hb hq => by
  rcases h.new b hq with h1 | h1
  · exact ha b hb h1
  · have := hP b hb; omega
theorem Way.wide {Q0 Q1 : Nat → Prop} (h : Way Q w Q' w') (h0 : ∀ b, Q b → Q0 b) (h1 : ∀ b, Q1 b → Q0 b ∨ w.heap.size ≤ b) : Way Q0 w Q1 w' :=
  ⟨⟨h.oth.os, h.oth.tape, h.oth.output, h.oth.size, fun b hb hq => h.oth.block b hb (fun hq' => hq (h0 b hq'))⟩, h1⟩
end

theorem way_set (w : World) {Q : Nat → Prop} (b i : Nat) (u : Value) (hQ : Q b) : Way Q w Q (w.setCell ⟨b, i, none⟩ u) :=
  ⟨⟨rfl, rfl, rfl, by rw [World.size_setCell]; exact Nat.le_refl _, fun k _ hk => Below.heap_setCell w ⟨b, i, none⟩ u k (fun e => hk (e ▸ hQ))⟩, fun _ h => .inl h⟩
end Go.Proofs.YtmaohnbddlccdaaGreat
end

/- What is asked of the program's table, whatever it is made of (TabK); the program's and the document's side by side (Two); lessorlaw12.made, long. -/
section
namespace Go.Proofs.YtmaohnbddlccdaaGreat
open Go.RowKit Go.Sort

/-- Leases are answered that lie somewhere. -/
def GivesTt (w : World) (l : List LV) (e : Ending) (w' : World) : Prop :=
  ∃ A c l', e = .returned (.slice A l'.length c) ∧ Hid (l' = l) ∧ El ElemL w' w'.heap.size A l' ∧ l'.length ≤ c ∧ Below w.heap.size w w'
theorem GivesE.gives {w w' : World} {l : List LV} {e : Ending} (h : GivesE w l e w') : GivesTt w l e w' := by
  obtain ⟨A, c, l', he, hl, hr, hc⟩ := h
  obtain ⟨A2, c2, e2, _, h4⟩ := hr.form
  injection e2 with e2 _ _
  subst e2
  exact ⟨A, c, l', he, hl, h4, hc, hr.low⟩

/-- T w P g L: the pointer to block g is the program's table of the leases L; it lies in the blocks P. What its methods do. -/
structure TabK (T : World → (Nat → Prop) → Nat → List LV → Prop) : Prop where
  tab : ∀ {w P g L}, T w P g L → TabL L
  few : ∀ {w P g L}, T w P g L → L.length ≤ 256
  w32 : ∀ {w P g L}, T w P g L → ∀ x ∈ L, x.addr < 4294967296
  lt : ∀ {w P g L}, T w P g L → ∀ k, P k → k < w.heap.size
  keep : ∀ {w w' P g L}, T w P g L → KpT P w w' → T w' P g L
  new : ∀ (A : Option Addr) (c : Nat) (l : List (Nat × Nat)) (w : World), Rg w w.heap.size A l → l.length ≤ 1000 →
    Calls Tryz.prog 25 #[.slice A l.length c] w fun e w' => ∃ ol code, PoolRes l ol code ∧ Below w.heap.size w w' ∧ ((code ≠ 0 ∧ e = .returned (.tuple #[.pointer none, .int .i64 code])) ∨ (code = 0 ∧ ∃ P g L, e = .returned (.tuple #[.pointer (some ⟨g, 0, none⟩), .int .i64 0]) ∧ Hid (L = newL (addrsOf ol)) ∧ T w' P g L ∧ ∀ k, P k → w.heap.size ≤ k))
  set : ∀ {w P g L} (x : LV), T w P g L → x.addr < 4294967296 →
    Calls Tryz.prog 28 #[.pointer (some ⟨g, 0, none⟩), x.v] w fun e w' => ∃ P', e = .returned (.int .i64 (setL L x).2) ∧ T w' P' g (setL L x).1 ∧ OthT P w w' ∧ ∀ k, P' k → P k ∨ w.heap.size ≤ k
  get : ∀ {w P g L} (a : Nat), T w P g L → a < 4294967296 →
    Calls Tryz.prog 21 #[.pointer (some ⟨g, 0, none⟩), .int .u32 (a : Int)] w fun e w' => e = .returned (.tuple #[(getL L a).1.v, .int .i64 (getL L a).2]) ∧ Below w.heap.size w w'
  all : ∀ {w P g L}, T w P g L → Calls Tryz.prog 121 #[.pointer (some ⟨g, 0, none⟩)] w (GivesE w L)
  of_ : ∀ {w P g L} (s : ByteArray), T w P g L → Calls Tryz.prog 117 #[.pointer (some ⟨g, 0, none⟩), .string s] w (GivesE w (ofL L s.data.toList))

section
variable {T : World → (Nat → Prop) → Nat → List LV → Prop} {wB w w' : World} {P P' : Nat → Prop} {g gr : Nat} {v : Value} {L L' : List LV}
theorem TabK.all' (K : TabK T) (h : T w P g L) : Calls Tryz.prog 121 #[.pointer (some ⟨g, 0, none⟩)] w (GivesTt w L) := (K.all h).mono fun _ _ h => h.gives
theorem TabK.of' (K : TabK T) (s : ByteArray) (h : T w P g L) : Calls Tryz.prog 117 #[.pointer (some ⟨g, 0, none⟩), .string s] w (GivesTt w (ofL L s.data.toList)) := (K.of_ s h).mono fun _ _ h => h.gives
/-- A row of its own is kept where other blocks are changed. -/
theorem El.oth {A : Option Addr} {n c : Nat} {l : List LV} (h : RowE ElemL wB w (.slice A n c) l) (ho : OthT P w w') (hp : ∀ k, (Value.slice A n c).ownBlock = some k → ¬ P k) (hn : n = l.length) : El ElemL w' w'.heap.size A l := by
  subst hn
  refine El.of_own (n := l.length) (c := c) (base := wB.heap.size) ⟨h.own.1, ?_⟩
  rcases h.own.2 with h3 | ⟨g1, cap, cur, e, hb, hh, r⟩
  · exact .inl h3
  · exact .inr ⟨g1, cap, cur, e, hb, (ho.block g1 (Array.getElem?_eq_some_iff.1 hh).1 (hp g1 (by rw [e]; rfl))).trans hh, r⟩
theorem TabK.later (K : TabK T) (h : T w P g L) (hb : Below w.heap.size w w') : T w' P g L := K.keep h (KpT.of_below hb (K.lt h))
theorem RTb.oth (h : RTb wB w gr v L) (ho : OthT P w w') (hlo : ∀ k, P k → wB.heap.size ≤ k) (h1 : ¬ P gr) (h2 : ∀ k, v.ownBlock = some k → ¬ P k) : RTb wB w' gr v L := by
  refine ⟨(ho.block gr h.lt h1).trans h.box, ⟨⟨h.row.own.1, ?_⟩, ho.below hlo h.low⟩, h.lo⟩
  rcases h.row.own.2 with h3 | ⟨g1, cap, cur, rfl, hb, hh, r⟩
  · exact .inl h3
  · exact .inr ⟨g1, cap, cur, rfl, hb, (ho.block g1 (Array.getElem?_eq_some_iff.1 hh).1 (h2 g1 rfl)).trans hh, r⟩

/-- The program's table and the document's, side by side, both made since wB, with leases of their own. -/
structure Two2 (T : World → (Nat → Prop) → Nat → List LV → Prop) (wB w : World) (P : Nat → Prop) (g gr : Nat) (v : Value) (L M : List LV) : Prop where
  t : T w P g L
  r : RTb wB w gr v M
  a1 : ¬ P gr
  a2 : ∀ k, v.ownBlock = some k → ¬ P k
  lo : ∀ k, P k → wB.heap.size ≤ k
theorem Two2.low (h : Two2 T wB w P g gr v L L') : Below wB.heap.size wB w := h.r.low
theorem Two2.later (K : TabK T) (h : Two2 T wB w P g gr v L L') (hb : Below w.heap.size w w') : Two2 T wB w' P g gr v L L' := ⟨K.later h.t hb, h.r.later hb, h.a1, h.a2, h.lo⟩
/-- The program's is changed. -/
theorem Two2.first {M : List LV} (h : Two2 T wB w P g gr v L M) (ht : T w' P' g L') (ho : OthT P w w') (hp : ∀ k, P' k → P k ∨ w.heap.size ≤ k) : Two2 T wB w' P' g gr v L' M := by
  refine ⟨ht, h.r.oth ho h.lo h.a1 h.a2, fun hk => ?_, fun k hv hk => ?_, fun k hk => ?_⟩
  · rcases hp gr hk with h1 | h1
    · exact h.a1 h1
    · have := h.r.lt; omega
  · rcases hp k hk with h1 | h1
    · exact h.a2 k hv h1
    · have := (h.r.row.lt k hv).2; omega
  · rcases hp k hk with h1 | h1
    · exact h.lo k h1
    · exact Nat.le_trans h.low.size h1
/-- The document's is changed. -/
theorem Two2.second (K : TabK T) {M M' : List LV} (h : Two2 T wB w P g gr v L M) (hr : RTb wB w' gr v M') (hg : w.grownBy w' v.ownBlock) : Two2 T wB w' P g gr v L M' :=
  ⟨K.keep h.t (KpT.of_grown hg (K.lt h.t) h.a2), hr, h.a1, h.a2, h.lo⟩
end
/-- What any leases that are set make of a table. -/
def runT (L : List LV) (ls : List LV) : List LV := ls.foldl (fun L x => (setL L x).1) L
theorem runT_snoc (L ls : List LV) (x : LV) : runT L (ls ++ [x]) = (setL (runT L ls) x).1 := by simp [runT]
/-- What a test should not have. -/
def longB (l : List (Nat × Nat)) (ls : List LV) : Bool := (ls.any fun x => decide (200 < x.client.length)) || decide (50 < l.length) || decide (200 < ls.length)

end Go.Proofs.YtmaohnbddlccdaaGreat
end
