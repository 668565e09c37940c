/- packet.header. -/
import Derived.Test.YtmlckjccgdmknaaDecT
namespace Go.Proofs.Ytmlckjccgdmknaa
open Go.RowKit

def zeroP : PktV := ⟨0, 0, 0, 0, 0, 0, 0, 0, none, 0, [], none, 0, []⟩
/-- The packet that the bytes ahead of the options tell. -/
def hdrA (b : List UInt8) (opts : List (Int × List UInt8)) : PktA :=
  ⟨((numL (b.take 1) : Nat) : Int), numL ((b.drop 4).take 4), ((numL ((b.drop 8).take 2) : Nat) : Int), ((numL ((b.drop 10).take 2) : Nat) : Int), numL ((b.drop 12).take 4), numL ((b.drop 16).take 4), numL ((b.drop 20).take 4), numL ((b.drop 24).take 4),
    ((b.drop 28).take 16).take (numL ((b.drop 2).take 1)), opts⟩
/-- Do the bytes hold a header? -/
def okH (b : List UInt8) : Prop := 240 ≤ b.length ∧ numL ((b.drop 2).take 1) ≤ 16
instance (b : List UInt8) : Decidable (okH b) := by unfold okH; infer_instance

/-- A packet is laid into a box, cell by cell. -/
def storeP (W : World) (g : Nat) (q : PktV) : World :=
  (((((((((W.setCell ⟨g, 0, none⟩ (.int .i64 q.op)).setCell ⟨g, 1, none⟩ (.int .u32 (q.xid : Int))).setCell ⟨g, 2, none⟩ (.int .i64 q.secs)).setCell ⟨g, 3, none⟩ (.int .i64 q.flags)).setCell ⟨g, 4, none⟩ (.int .u32 (q.ci : Int))).setCell ⟨g, 5, none⟩ (.int .u32 (q.yi : Int))).setCell ⟨g, 6, none⟩ (.int .u32 (q.si : Int))).setCell ⟨g, 7, none⟩ (.int .u32 (q.gi : Int))).setCell ⟨g, 8, none⟩ (.slice q.hwA q.hw.length q.hwC)).setCell ⟨g, 9, none⟩ (.slice q.opA q.L.length q.opC)
theorem PBox.set0 {W : World} {g : Nat} {p : PktV} (h : PBox W g p) (n : Int) : PBox (W.setCell ⟨g, 0, none⟩ (.int .i64 n)) g { p with op := n } := heap_setCell_same W g 0 _ _ (.int .i64 n) h
theorem PBox.set1 {W : World} {g : Nat} {p : PktV} (h : PBox W g p) (n : Nat) : PBox (W.setCell ⟨g, 1, none⟩ (.int .u32 (n : Int))) g { p with xid := n } := heap_setCell_same W g 1 _ _ (.int .u32 (n : Int)) h
theorem PBox.set2 {W : World} {g : Nat} {p : PktV} (h : PBox W g p) (n : Int) : PBox (W.setCell ⟨g, 2, none⟩ (.int .i64 n)) g { p with secs := n } := heap_setCell_same W g 2 _ _ (.int .i64 n) h
theorem PBox.set3 {W : World} {g : Nat} {p : PktV} (h : PBox W g p) (n : Int) : PBox (W.setCell ⟨g, 3, none⟩ (.int .i64 n)) g { p with flags := n } := heap_setCell_same W g 3 _ _ (.int .i64 n) h
theorem PBox.set4 {W : World} {g : Nat} {p : PktV} (h : PBox W g p) (n : Nat) : PBox (W.setCell ⟨g, 4, none⟩ (.int .u32 (n : Int))) g { p with ci := n } := heap_setCell_same W g 4 _ _ (.int .u32 (n : Int)) h
theorem PBox.set5 {W : World} {g : Nat} {p : PktV} (h : PBox W g p) (n : Nat) : PBox (W.setCell ⟨g, 5, none⟩ (.int .u32 (n : Int))) g { p with yi := n } := heap_setCell_same W g 5 _ _ (.int .u32 (n : Int)) h
theorem PBox.set6 {W : World} {g : Nat} {p : PktV} (h : PBox W g p) (n : Nat) : PBox (W.setCell ⟨g, 6, none⟩ (.int .u32 (n : Int))) g { p with si := n } := heap_setCell_same W g 6 _ _ (.int .u32 (n : Int)) h
theorem PBox.set7 {W : World} {g : Nat} {p : PktV} (h : PBox W g p) (n : Nat) : PBox (W.setCell ⟨g, 7, none⟩ (.int .u32 (n : Int))) g { p with gi := n } := heap_setCell_same W g 7 _ _ (.int .u32 (n : Int)) h
theorem PBox.set8 {W : World} {g : Nat} {p : PktV} (h : PBox W g p) (A : Option Addr) (c : Nat) (l : List UInt8) : PBox (W.setCell ⟨g, 8, none⟩ (.slice A l.length c)) g { p with hwA := A, hwC := c, hw := l } := heap_setCell_same W g 8 _ _ (.slice A l.length c) h
theorem PBox.set9 {W : World} {g : Nat} {p : PktV} (h : PBox W g p) (A : Option Addr) (c : Nat) (L : List OptV) : PBox (W.setCell ⟨g, 9, none⟩ (.slice A L.length c)) g { p with opA := A, opC := c, L := L } := heap_setCell_same W g 9 _ _ (.slice A L.length c) h
theorem storeP_box {W : World} {g : Nat} {p : PktV} (h : PBox W g p) (q : PktV) : PBox (storeP W g q) g q := by
  unfold storeP
  exact (((((((((h.set0 q.op).set1 q.xid).set2 q.secs).set3 q.flags).set4 q.ci).set5 q.yi).set6 q.si).set7 q.gi).set8 q.hwA q.hwC q.hw).set9 q.opA q.opC q.L
theorem grown_one (W : World) (g i : Nat) (v : Value) : W.grownBy (W.setCell ⟨g, i, none⟩ v) (some g) := grownBy_cell W ⟨g, i, none⟩ v
theorem grown_set {W W' : World} {g : Nat} (h : W.grownBy W' (some g)) (i : Nat) (v : Value) : W.grownBy (W'.setCell ⟨g, i, none⟩ v) (some g) := h.trans (grown_one W' g i v)
theorem storeP_grown (W : World) (g : Nat) (q : PktV) : W.grownBy (storeP W g q) (some g) := by
  unfold storeP
  exact grown_set (grown_set (grown_set (grown_set (grown_set (grown_set (grown_set (grown_set (grown_set (grown_one W g 0 _) 1 _) 2 _) 3 _) 4 _) 5 _) 6 _) 7 _) 8 _) 9 _

/-- Where header stands: the reader, its own packet's box, its answer's box. -/
structure Hd (w W : World) (g B : Nat) (l : List UInt8) (p : PktV) : Prop where
  rd : Rd W g B l
  box : PBox W (w.heap.size + 1) p
  res : PBox W w.heap.size zeroP
  gr : w.grownBy W (some g)
  hg : g < w.heap.size
section
variable {w W W' : World} {g B : Nat} {l l' : List UInt8} {p : PktV}
theorem Hd.le (h : Hd w W g B l p) : B ≤ g := by
  obtain ⟨_, _, _, _, _, h4⟩ := h.rd
  exact h4
theorem Hd.moved (h : Hd w W g B l p) (hr : Rd W' g B l') (hg : W.grownBy W' (some g)) : Hd w W' g B l' p := by
  have hlt := h.hg
  exact ⟨hr, (hg.block _ h.box.lt (fun e => by injection e with e; omega)).trans h.box, (hg.block _ h.res.lt (fun e => by injection e with e; omega)).trans h.res, h.gr.trans hg, h.hg⟩
/-- A turn in blocks that were laid since. -/
theorem Hd.other (h : Hd w W g B l p) {row : Option Nat} (hg : W.grownBy W' row) (hr : ∀ k, row = some k → w.heap.size + 1 < k) : Hd w W' g B l p := by
  have hlt := h.hg
  have hle := h.le
  refine ⟨h.rd.other hg (fun k e => by have := hr k e; omega), (hg.block _ h.box.lt (fun e => by have := hr _ e.symm; omega)).trans h.box, (hg.block _ h.res.lt (fun e => by have := hr _ e.symm; omega)).trans h.res, ?_, h.hg⟩
  exact h.gr.andThen hg (fun j e => .inl (by have := hr j e; omega))
theorem Hd.store (h : Hd w W g B l p) (i : Nat) (v : Value) (p' : PktV) (hp : p'.cells = p.cells.setIfInBounds i v) : Hd w (W.setCell ⟨w.heap.size + 1, i, none⟩ v) g B l p' := by
  have hlt := h.hg
  have hle := h.le
  have hgr := grownBy_cell W ⟨w.heap.size + 1, i, none⟩ v
  refine ⟨h.rd.other hgr (fun k e => by injection e with e; subst e; constructor <;> simp <;> omega), ?_, (hgr.block _ h.res.lt (by simp)).trans h.res, h.gr.andThen hgr (fun j e => by injection e with e; subst e; left; simp), h.hg⟩
  have := heap_setCell_same W (w.heap.size + 1) i _ _ v h.box
  unfold PBox
  rw [hp]
  exact this
end

set_option maxRecDepth 100000 in
set_option maxHeartbeats 1000000 in
theorem header_any (g B : Nat) (b : List UInt8) (w : World) (h : Rd w g B b) (hbl : b.length ≤ 100000) :
    Calls Try.prog 32 #[.pointer (some ⟨g, 0, none⟩)] w fun e w' => w.grownBy w' (some g) ∧
      ((okH b ∧ ∃ q : PktV, e = .returned q.v ∧ q.abs = hdrA b [] ∧ q.L = [] ∧ Pk w' w'.heap.size q ∧ Rd w' g B (b.drop 240)) ∨ (¬ okH b ∧ e = .panicked endP)) := by
  obtain ⟨w0, hw0⟩ : ∃ w0, w0 = (w.alloc (pbox zeroP)).alloc (pbox zeroP) := ⟨_, rfl⟩
  have H0 : Hid (Hd w w0 g B b zeroP) := Lib.hid (by
    rw [hw0]
    refine ⟨(h.alloc _).alloc _, ?_, (PBox.new w zeroP).later ((Below.refl _ _).alloc (Nat.le_refl _) _), ?_, h.lt⟩
    · have := PBox.new (w.alloc (pbox zeroP)) zeroP; simp only [World.size_alloc] at this; exact this
    · exact (World.grownBy_alloc w _ _).trans (World.grownBy_alloc _ _ _))
  have HW := Lib.hid hw0
  clear hw0 h
  go_enter Try.func32, Try.ntmps32
  go_wp2_with fail
  change Calls _ _ _ ((w.alloc (pbox zeroP)).alloc (pbox zeroP)) _
  rw [← HW.out]
  rcases Nat.lt_or_ge b.length 1 with hlt | hge0
  · refine (num_end g B b 1 _ H0.out.rd (by omega)).mono ?_
    rintro e w' ⟨rfl, rfl⟩
    exact ⟨rfl, H0.out.gr, .inr ⟨fun hok => by have := hok.1; omega, rfl⟩⟩
  refine (num_ok g B b 1 (by decide) _ H0.out.rd (by omega)).mono ?_
  rintro e v0 ⟨rfl, hrd, hg⟩
  have M0 := Lib.hid (H0.out.moved hrd hg)
  clear hrd hg
  obtain ⟨n0, hn0⟩ : ∃ n, n = numL (List.take 1 b) := ⟨_, rfl⟩
  rw [← hn0]
  have hb0 : n0 < 256 := by rw [hn0]; have := numL_lt (List.take 1 b); rw [List.length_take, Nat.min_eq_left (by omega)] at this; exact this
  have N0 := Lib.hid hn0
  clear hn0
  have cc := M0.out.box.c0
  have cf := frozen_of_row v0 (w.heap.size + 1) 0 _ _ M0.out.box
  go_wp2_with fail
  have S0 : Hid (Hd w (v0.setCell ⟨w.heap.size + 1, 0, none⟩ (.int .i64 (n0 : Int))) g B (b.drop 1) ⟨(n0 : Int), 0, 0, 0, 0, 0, 0, 0, none, 0, [], none, 0, []⟩) := Lib.hid (M0.out.store 0 _ _ rfl)
  clear cc cf
  -- CUT0
  rcases Nat.lt_or_ge b.length 2 with hlt | hge1
  · refine (take_end g B (b.drop 1) 1 _ S0.out.rd (by rw [List.length_drop]; omega)).mono ?_
    rintro e w' ⟨rfl, rfl⟩
    exact ⟨rfl, S0.out.gr, .inr ⟨fun hok => by have := hok.1; omega, rfl⟩⟩
  refine (take_ok g B (b.drop 1) 1 _ S0.out.rd (by rw [List.length_drop]; omega)).mono ?_
  rintro e v1 ⟨A1, c1, rfl, _, _, hrd, hg⟩
  simp only [List.drop_drop, Nat.reduceAdd] at hrd
  have M1 := Lib.hid (S0.out.moved hrd hg)
  clear hrd hg
  go_wp2_with fail
  -- CUT1
  rcases Nat.lt_or_ge b.length 3 with hlt | hge2
  · refine (num_end g B (b.drop 2) 1 _ M1.out.rd (by rw [List.length_drop]; omega)).mono ?_
    rintro e w' ⟨rfl, rfl⟩
    exact ⟨rfl, M1.out.gr, .inr ⟨fun hok => by have := hok.1; omega, rfl⟩⟩
  refine (num_ok g B (b.drop 2) 1 (by decide) _ M1.out.rd (by rw [List.length_drop]; omega)).mono ?_
  rintro e v2 ⟨rfl, hrd, hg⟩
  simp only [List.drop_drop, Nat.reduceAdd] at hrd
  have M2 := Lib.hid (M1.out.moved hrd hg)
  clear hrd hg
  obtain ⟨n2, hn2⟩ : ∃ n, n = numL (List.take 1 (b.drop 2)) := ⟨_, rfl⟩
  rw [← hn2]
  have hb2 : n2 < 256 := by rw [hn2]; have := numL_lt (List.take 1 (b.drop 2)); rw [List.length_take, Nat.min_eq_left (by rw [List.length_drop]; omega)] at this; exact this
  have N2 := Lib.hid hn2
  clear hn2
  go_wp2_with fail
  -- CUT2
  rcases Nat.lt_or_ge b.length 4 with hlt | hge3
  · refine (take_end g B (b.drop 3) 1 _ M2.out.rd (by rw [List.length_drop]; omega)).mono ?_
    rintro e w' ⟨rfl, rfl⟩
    exact ⟨rfl, M2.out.gr, .inr ⟨fun hok => by have := hok.1; omega, rfl⟩⟩
  refine (take_ok g B (b.drop 3) 1 _ M2.out.rd (by rw [List.length_drop]; omega)).mono ?_
  rintro e v3 ⟨A3, c3, rfl, _, _, hrd, hg⟩
  simp only [List.drop_drop, Nat.reduceAdd] at hrd
  have M3 := Lib.hid (M2.out.moved hrd hg)
  clear hrd hg
  go_wp2_with fail
  -- CUT3
  rcases Nat.lt_or_ge b.length 8 with hlt | hge4
  · refine (num_end g B (b.drop 4) 4 _ M3.out.rd (by rw [List.length_drop]; omega)).mono ?_
    rintro e w' ⟨rfl, rfl⟩
    exact ⟨rfl, M3.out.gr, .inr ⟨fun hok => by have := hok.1; omega, rfl⟩⟩
  refine (num_ok g B (b.drop 4) 4 (by decide) _ M3.out.rd (by rw [List.length_drop]; omega)).mono ?_
  rintro e v4 ⟨rfl, hrd, hg⟩
  simp only [List.drop_drop, Nat.reduceAdd] at hrd
  have M4 := Lib.hid (M3.out.moved hrd hg)
  clear hrd hg
  obtain ⟨n4, hn4⟩ : ∃ n, n = numL (List.take 4 (b.drop 4)) := ⟨_, rfl⟩
  rw [← hn4]
  have hb4 : n4 < 4294967296 := by rw [hn4]; have := numL_lt (List.take 4 (b.drop 4)); rw [List.length_take, Nat.min_eq_left (by rw [List.length_drop]; omega)] at this; exact this
  have N4 := Lib.hid hn4
  clear hn4
  have cc := M4.out.box.c1
  have cf := frozen_of_row v4 (w.heap.size + 1) 1 _ _ M4.out.box
  have hwr := wrap32 n4 hb4
  go_wp2_with fail
  have S4 : Hid (Hd w (v4.setCell ⟨w.heap.size + 1, 1, none⟩ (.int .u32 (n4 : Int))) g B (b.drop 8) ⟨(n0 : Int), n4, 0, 0, 0, 0, 0, 0, none, 0, [], none, 0, []⟩) := Lib.hid (M4.out.store 1 _ _ rfl)
  clear cc cf hwr
  -- CUT4
  rcases Nat.lt_or_ge b.length 10 with hlt | hge5
  · refine (num_end g B (b.drop 8) 2 _ S4.out.rd (by rw [List.length_drop]; omega)).mono ?_
    rintro e w' ⟨rfl, rfl⟩
    exact ⟨rfl, S4.out.gr, .inr ⟨fun hok => by have := hok.1; omega, rfl⟩⟩
  refine (num_ok g B (b.drop 8) 2 (by decide) _ S4.out.rd (by rw [List.length_drop]; omega)).mono ?_
  rintro e v5 ⟨rfl, hrd, hg⟩
  simp only [List.drop_drop, Nat.reduceAdd] at hrd
  have M5 := Lib.hid (S4.out.moved hrd hg)
  clear hrd hg
  obtain ⟨n5, hn5⟩ : ∃ n, n = numL (List.take 2 (b.drop 8)) := ⟨_, rfl⟩
  rw [← hn5]
  have hb5 : n5 < 65536 := by rw [hn5]; have := numL_lt (List.take 2 (b.drop 8)); rw [List.length_take, Nat.min_eq_left (by rw [List.length_drop]; omega)] at this; exact this
  have N5 := Lib.hid hn5
  clear hn5
  have cc := M5.out.box.c2
  have cf := frozen_of_row v5 (w.heap.size + 1) 2 _ _ M5.out.box
  go_wp2_with fail
  have S5 : Hid (Hd w (v5.setCell ⟨w.heap.size + 1, 2, none⟩ (.int .i64 (n5 : Int))) g B (b.drop 10) ⟨(n0 : Int), n4, (n5 : Int), 0, 0, 0, 0, 0, none, 0, [], none, 0, []⟩) := Lib.hid (M5.out.store 2 _ _ rfl)
  clear cc cf
  -- CUT5
  rcases Nat.lt_or_ge b.length 12 with hlt | hge6
  · refine (num_end g B (b.drop 10) 2 _ S5.out.rd (by rw [List.length_drop]; omega)).mono ?_
    rintro e w' ⟨rfl, rfl⟩
    exact ⟨rfl, S5.out.gr, .inr ⟨fun hok => by have := hok.1; omega, rfl⟩⟩
  refine (num_ok g B (b.drop 10) 2 (by decide) _ S5.out.rd (by rw [List.length_drop]; omega)).mono ?_
  rintro e v6 ⟨rfl, hrd, hg⟩
  simp only [List.drop_drop, Nat.reduceAdd] at hrd
  have M6 := Lib.hid (S5.out.moved hrd hg)
  clear hrd hg
  obtain ⟨n6, hn6⟩ : ∃ n, n = numL (List.take 2 (b.drop 10)) := ⟨_, rfl⟩
  rw [← hn6]
  have hb6 : n6 < 65536 := by rw [hn6]; have := numL_lt (List.take 2 (b.drop 10)); rw [List.length_take, Nat.min_eq_left (by rw [List.length_drop]; omega)] at this; exact this
  have N6 := Lib.hid hn6
  clear hn6
  have cc := M6.out.box.c3
  have cf := frozen_of_row v6 (w.heap.size + 1) 3 _ _ M6.out.box
  go_wp2_with fail
  have S6 : Hid (Hd w (v6.setCell ⟨w.heap.size + 1, 3, none⟩ (.int .i64 (n6 : Int))) g B (b.drop 12) ⟨(n0 : Int), n4, (n5 : Int), (n6 : Int), 0, 0, 0, 0, none, 0, [], none, 0, []⟩) := Lib.hid (M6.out.store 3 _ _ rfl)
  clear cc cf
  -- CUT6
  rcases Nat.lt_or_ge b.length 16 with hlt | hge7
  · refine (num_end g B (b.drop 12) 4 _ S6.out.rd (by rw [List.length_drop]; omega)).mono ?_
    rintro e w' ⟨rfl, rfl⟩
    exact ⟨rfl, S6.out.gr, .inr ⟨fun hok => by have := hok.1; omega, rfl⟩⟩
  refine (num_ok g B (b.drop 12) 4 (by decide) _ S6.out.rd (by rw [List.length_drop]; omega)).mono ?_
  rintro e v7 ⟨rfl, hrd, hg⟩
  simp only [List.drop_drop, Nat.reduceAdd] at hrd
  have M7 := Lib.hid (S6.out.moved hrd hg)
  clear hrd hg
  obtain ⟨n7, hn7⟩ : ∃ n, n = numL (List.take 4 (b.drop 12)) := ⟨_, rfl⟩
  rw [← hn7]
  have hb7 : n7 < 4294967296 := by rw [hn7]; have := numL_lt (List.take 4 (b.drop 12)); rw [List.length_take, Nat.min_eq_left (by rw [List.length_drop]; omega)] at this; exact this
  have N7 := Lib.hid hn7
  clear hn7
  have cc := M7.out.box.c4
  have cf := frozen_of_row v7 (w.heap.size + 1) 4 _ _ M7.out.box
  have hwr := wrap32 n7 hb7
  go_wp2_with fail
  have S7 : Hid (Hd w (v7.setCell ⟨w.heap.size + 1, 4, none⟩ (.int .u32 (n7 : Int))) g B (b.drop 16) ⟨(n0 : Int), n4, (n5 : Int), (n6 : Int), n7, 0, 0, 0, none, 0, [], none, 0, []⟩) := Lib.hid (M7.out.store 4 _ _ rfl)
  clear cc cf hwr
  -- CUT7
  rcases Nat.lt_or_ge b.length 20 with hlt | hge8
  · refine (num_end g B (b.drop 16) 4 _ S7.out.rd (by rw [List.length_drop]; omega)).mono ?_
    rintro e w' ⟨rfl, rfl⟩
    exact ⟨rfl, S7.out.gr, .inr ⟨fun hok => by have := hok.1; omega, rfl⟩⟩
  refine (num_ok g B (b.drop 16) 4 (by decide) _ S7.out.rd (by rw [List.length_drop]; omega)).mono ?_
  rintro e v8 ⟨rfl, hrd, hg⟩
  simp only [List.drop_drop, Nat.reduceAdd] at hrd
  have M8 := Lib.hid (S7.out.moved hrd hg)
  clear hrd hg
  obtain ⟨n8, hn8⟩ : ∃ n, n = numL (List.take 4 (b.drop 16)) := ⟨_, rfl⟩
  rw [← hn8]
  have hb8 : n8 < 4294967296 := by rw [hn8]; have := numL_lt (List.take 4 (b.drop 16)); rw [List.length_take, Nat.min_eq_left (by rw [List.length_drop]; omega)] at this; exact this
  have N8 := Lib.hid hn8
  clear hn8
  have cc := M8.out.box.c5
  have cf := frozen_of_row v8 (w.heap.size + 1) 5 _ _ M8.out.box
  have hwr := wrap32 n8 hb8
  go_wp2_with fail
  have S8 : Hid (Hd w (v8.setCell ⟨w.heap.size + 1, 5, none⟩ (.int .u32 (n8 : Int))) g B (b.drop 20) ⟨(n0 : Int), n4, (n5 : Int), (n6 : Int), n7, n8, 0, 0, none, 0, [], none, 0, []⟩) := Lib.hid (M8.out.store 5 _ _ rfl)
  clear cc cf hwr
  -- CUT8
  rcases Nat.lt_or_ge b.length 24 with hlt | hge9
  · refine (num_end g B (b.drop 20) 4 _ S8.out.rd (by rw [List.length_drop]; omega)).mono ?_
    rintro e w' ⟨rfl, rfl⟩
    exact ⟨rfl, S8.out.gr, .inr ⟨fun hok => by have := hok.1; omega, rfl⟩⟩
  refine (num_ok g B (b.drop 20) 4 (by decide) _ S8.out.rd (by rw [List.length_drop]; omega)).mono ?_
  rintro e v9 ⟨rfl, hrd, hg⟩
  simp only [List.drop_drop, Nat.reduceAdd] at hrd
  have M9 := Lib.hid (S8.out.moved hrd hg)
  clear hrd hg
  obtain ⟨n9, hn9⟩ : ∃ n, n = numL (List.take 4 (b.drop 20)) := ⟨_, rfl⟩
  rw [← hn9]
  have hb9 : n9 < 4294967296 := by rw [hn9]; have := numL_lt (List.take 4 (b.drop 20)); rw [List.length_take, Nat.min_eq_left (by rw [List.length_drop]; omega)] at this; exact this
  have N9 := Lib.hid hn9
  clear hn9
  have cc := M9.out.box.c6
  have cf := frozen_of_row v9 (w.heap.size + 1) 6 _ _ M9.out.box
  have hwr := wrap32 n9 hb9
  go_wp2_with fail
  have S9 : Hid (Hd w (v9.setCell ⟨w.heap.size + 1, 6, none⟩ (.int .u32 (n9 : Int))) g B (b.drop 24) ⟨(n0 : Int), n4, (n5 : Int), (n6 : Int), n7, n8, n9, 0, none, 0, [], none, 0, []⟩) := Lib.hid (M9.out.store 6 _ _ rfl)
  clear cc cf hwr
  -- CUT9
  rcases Nat.lt_or_ge b.length 28 with hlt | hge10
  · refine (num_end g B (b.drop 24) 4 _ S9.out.rd (by rw [List.length_drop]; omega)).mono ?_
    rintro e w' ⟨rfl, rfl⟩
    exact ⟨rfl, S9.out.gr, .inr ⟨fun hok => by have := hok.1; omega, rfl⟩⟩
  refine (num_ok g B (b.drop 24) 4 (by decide) _ S9.out.rd (by rw [List.length_drop]; omega)).mono ?_
  rintro e v10 ⟨rfl, hrd, hg⟩
  simp only [List.drop_drop, Nat.reduceAdd] at hrd
  have M10 := Lib.hid (S9.out.moved hrd hg)
  clear hrd hg
  obtain ⟨n10, hn10⟩ : ∃ n, n = numL (List.take 4 (b.drop 24)) := ⟨_, rfl⟩
  rw [← hn10]
  have hb10 : n10 < 4294967296 := by rw [hn10]; have := numL_lt (List.take 4 (b.drop 24)); rw [List.length_take, Nat.min_eq_left (by rw [List.length_drop]; omega)] at this; exact this
  have N10 := Lib.hid hn10
  clear hn10
  have cc := M10.out.box.c7
  have cf := frozen_of_row v10 (w.heap.size + 1) 7 _ _ M10.out.box
  have hwr := wrap32 n10 hb10
  go_wp2_with fail
  have S10 : Hid (Hd w (v10.setCell ⟨w.heap.size + 1, 7, none⟩ (.int .u32 (n10 : Int))) g B (b.drop 28) ⟨(n0 : Int), n4, (n5 : Int), (n6 : Int), n7, n8, n9, n10, none, 0, [], none, 0, []⟩) := Lib.hid (M10.out.store 7 _ _ rfl)
  clear cc cf hwr
  -- CUT10
  rcases Nat.lt_or_ge b.length 44 with hlt | hge11
  · refine (take_end g B (b.drop 28) 16 _ S10.out.rd (by rw [List.length_drop]; omega)).mono ?_
    rintro e w' ⟨rfl, rfl⟩
    exact ⟨rfl, S10.out.gr, .inr ⟨fun hok => by have := hok.1; omega, rfl⟩⟩
  refine (take_ok g B (b.drop 28) 16 _ S10.out.rd (by rw [List.length_drop]; omega)).mono ?_
  rintro e v11 ⟨A11, c11, rfl, hby, hc11, hrd, hg⟩
  simp only [List.drop_drop, Nat.reduceAdd] at hrd
  have M11 := Lib.hid (S10.out.moved hrd hg)
  clear hrd hg
  have hl16 : ((b.drop 28).take 16).length = 16 := by rw [List.length_take, List.length_drop]; omega
  have M12 : Hid (Hd w (v11.alloc (.cells #[.slice A11 16 c11] 53)) g B (b.drop 44) ⟨(n0 : Int), n4, (n5 : Int), (n6 : Int), n7, n8, n9, n10, none, 0, [], none, 0, []⟩) := Lib.hid (M11.out.other (World.grownBy_alloc v11 _ none) (fun k e => by cases e))
  have R12 : Hid (Rd (v11.alloc (.cells #[.slice A11 16 c11] 53)) v11.heap.size B ((b.drop 28).take 16)) := Lib.hid (by
    have hBv : B ≤ v11.heap.size := by have h1 := M11.out.le; have h2 := M11.out.hg; have h3 := M11.out.gr.size; omega
    refine ⟨A11, c11, ?_, hby.below ((Below.refl _ _).alloc hBv _), by omega, hBv⟩
    rw [hl16]
    exact heap_alloc_new v11 _)
  clear hby
  go_wp2_with fail
  rcases Nat.lt_or_ge 16 n2 with hlt | hge12
  · refine (take_end v11.heap.size B _ n2 _ R12.out (by rw [hl16]; omega)).mono ?_
    rintro e w' ⟨rfl, rfl⟩
    exact ⟨rfl, M12.out.gr, .inr ⟨fun hok => by have := hok.2; rw [← N2.out] at this; omega, rfl⟩⟩
  refine (take_ok v11.heap.size B _ n2 _ R12.out (by rw [hl16]; omega)).mono ?_
  rintro e v12 ⟨A12, c12, rfl, hby, hc12, _, hg⟩
  have hlt11 := M11.out.box.lt
  have M13 := Lib.hid (M12.out.other hg (fun k e => by injection e with e; omega))
  obtain ⟨hwl, hhw⟩ : ∃ hwl, hwl = ((b.drop 28).take 16).take n2 := ⟨_, rfl⟩
  have hlw : hwl.length = n2 := by rw [hhw, List.length_take, hl16]; omega
  rw [← hhw] at hby
  have HHW := Lib.hid hhw
  have hlt13 := M13.out.box.lt
  have HC := Lib.hid (clone_any A12 c12 hwl v12 (hby.more (by have h1 := M13.out.le; have h2 := M13.out.hg; omega)) (by omega))
  rw [hlw] at HC
  clear hg hby hhw M12 M11 R12 hlt11
  go_wp2_with fail
  refine HC.out.mono ?_
  rintro e v13 ⟨A13, c13, rfl, hown, hB13⟩
  have M14 := Lib.hid (M13.out.other (grownBy_of_below hB13) (fun k e => by cases e))
  have O14 : Hid (v13.ownsRow v12.heap.size 5 1 (.slice A13 n2 c13) hwl.length (bcells hwl)) := Lib.hid hown
  clear hown hB13
  have cc := M14.out.box.c8
  have cf := frozen_of_row v13 (w.heap.size + 1) 8 _ _ M14.out.box
  go_wp2_with fail
  have S14 : Hid (Hd w (v13.setCell ⟨w.heap.size + 1, 8, none⟩ (.slice A13 n2 c13)) g B (b.drop 44) ⟨(n0 : Int), n4, (n5 : Int), (n6 : Int), n7, n8, n9, n10, A13, c13, hwl, none, 0, []⟩) := Lib.hid (M14.out.store 8 _ _ (by rw [← hlw]; rfl))
  have O15 : Hid ((v13.setCell ⟨w.heap.size + 1, 8, none⟩ (.slice A13 n2 c13)).ownsRow v12.heap.size 5 1 (.slice A13 n2 c13) hwl.length (bcells hwl)) := Lib.hid (O14.out.kept (grownBy_cell v13 _ _) (own_ne O14.out hlt13))
  clear cc cf M14 O14
  rcases Nat.lt_or_ge b.length 236 with hlt | hge15
  · refine (take_end g B (b.drop 44) 192 _ S14.out.rd (by rw [List.length_drop]; omega)).mono ?_
    rintro e w' ⟨rfl, rfl⟩
    exact ⟨rfl, S14.out.gr, .inr ⟨fun hok => by have := hok.1; omega, rfl⟩⟩
  refine (take_ok g B (b.drop 44) 192 _ S14.out.rd (by rw [List.length_drop]; omega)).mono ?_
  rintro e v15 ⟨A15, c15, rfl, _, _, hrd, hg⟩
  simp only [List.drop_drop, Nat.reduceAdd] at hrd
  have M15 := Lib.hid (S14.out.moved hrd hg)
  have O16 := Lib.hid (O15.out.kept hg (own_ne O15.out (by have := M13.out.hg; omega)))
  clear hrd hg O15
  go_wp2_with fail
  rcases Nat.lt_or_ge b.length 240 with hlt | hge16
  · refine (take_end g B (b.drop 236) 4 _ M15.out.rd (by rw [List.length_drop]; omega)).mono ?_
    rintro e w' ⟨rfl, rfl⟩
    exact ⟨rfl, M15.out.gr, .inr ⟨fun hok => by have := hok.1; omega, rfl⟩⟩
  refine (take_ok g B (b.drop 236) 4 _ M15.out.rd (by rw [List.length_drop]; omega)).mono ?_
  rintro e v16 ⟨A16, c16, rfl, _, _, hrd, hg⟩
  simp only [List.drop_drop, Nat.reduceAdd] at hrd
  have M16 := Lib.hid (M15.out.moved hrd hg)
  have O17 := Lib.hid (O16.out.kept hg (own_ne O16.out (by have := M13.out.hg; omega)))
  clear hrd hg O16
  obtain ⟨d0, d1, d2, d3, d4, d5, d6, d7, d8, d9⟩ := M16.out.box.all
  obtain ⟨r0, r1, r2, r3, r4, r5, r6, r7, r8, r9⟩ := M16.out.res.all
  have f0 := frozen_of_row v16 w.heap.size 0 _ _ M16.out.res
  have f1 := frozen_of_row v16 w.heap.size 1 _ _ M16.out.res
  have f2 := frozen_of_row v16 w.heap.size 2 _ _ M16.out.res
  have f3 := frozen_of_row v16 w.heap.size 3 _ _ M16.out.res
  have f4 := frozen_of_row v16 w.heap.size 4 _ _ M16.out.res
  have f5 := frozen_of_row v16 w.heap.size 5 _ _ M16.out.res
  have f6 := frozen_of_row v16 w.heap.size 6 _ _ M16.out.res
  have f7 := frozen_of_row v16 w.heap.size 7 _ _ M16.out.res
  have f8 := frozen_of_row v16 w.heap.size 8 _ _ M16.out.res
  have f9 := frozen_of_row v16 w.heap.size 9 _ _ M16.out.res
  go_wp2
  subst hlw
  obtain ⟨q, hq⟩ : ∃ q : PktV, q = ⟨(n0 : Int), n4, (n5 : Int), (n6 : Int), n7, n8, n9, n10, A13, c13, hwl, none, 0, []⟩ := ⟨_, rfl⟩
  obtain ⟨Wf, hWf⟩ : ∃ Wf, Wf = storeP v16 w.heap.size q := ⟨_, rfl⟩
  have hBx : PBox Wf w.heap.size q := by rw [hWf]; exact storeP_box M16.out.res q
  have hGr : v16.grownBy Wf (some w.heap.size) := by rw [hWf]; exact storeP_grown v16 w.heap.size q
  have hle := M16.out.le
  have hgl := M16.out.hg
  have hRd := M16.out.rd.other hGr (fun k e => by injection e with e; omega)
  have hOw := O17.out.kept hGr (own_ne O17.out (by omega))
  have hG := M16.out.gr.andThen hGr (fun j e => by injection e with e; left; omega)
  have hab : q.abs = hdrA b [] := by
    rw [hq]
    unfold PktV.abs hdrA
    rw [← N0.out, ← N4.out, ← N5.out, ← N6.out, ← N7.out, ← N8.out, ← N9.out, ← N10.out, ← N2.out, HHW.out]
    simp [absL]
  have hqL : q.L = [] := by rw [hq]
  have hPk : Pk Wf Wf.heap.size q := by
    rw [hq]
    exact ⟨By.of_own hOw, Op.nil⟩
  have hok : okH b := ⟨hge16, by rw [← N2.out]; exact hge12⟩
  have hfin : storeP v16 w.heap.size q = Wf := hWf.symm
  rw [hq] at hfin
  unfold storeP at hfin
  simp only [List.length_nil] at hfin
  rw [hfin]
  obtain ⟨e0, e1, e2, e3, e4, e5, e6, e7, e8, e9⟩ := hBx.all
  clear hfin hWf d0 d1 d2 d3 d4 d5 d6 d7 d8 d9 r0 r1 r2 r3 r4 r5 r6 r7 r8 r9 f0 f1 f2 f3 f4 f5 f6 f7 f8 f9
  exact bodyPost_ret (v := q.v) (by simp [results, Try.f32, go_sem, e0, e1, e2, e3, e4, e5, e6, e7, e8, e9]) rfl ⟨hG, .inl ⟨hok, q, rfl, hab, hqL, hPk, hRd⟩⟩
-- M1
end Go.Proofs.Ytmlckjccgdmknaa
