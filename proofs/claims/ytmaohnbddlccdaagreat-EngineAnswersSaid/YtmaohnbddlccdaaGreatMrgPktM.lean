/- Joined texts: PktM, PktH, RefN, RangeT. -/
import Derived.Test.YtmaohnbddlccdaaGreatMrgOptD
import Derived.RangeFuncNested
import Derived.RangeFuncBound
import Derived.RangeFuncCalls
import Derived.RangeFuncLeaves
import Derived.Shelf.Abstract
import Derived.Shelf.RegionOpen
import Derived.OwnWalkIn
import Derived.TacticsInMore
import Derived.LoopNIn
import Derived.LoopIn

/- Packets in memory: how a packet lies, and its box. -/
section
namespace Go.Proofs.YtmaohnbddlccdaaGreat.NO
open Go.RowKit

/-- A packet as it lies. -/
structure PktV where
  op : Int
  xid : Nat
  secs : Int
  flags : Int
  ci : Nat
  yi : Nat
  si : Nat
  gi : Nat
  hwA : Option Addr
  hwC : Nat
  hw : List UInt8
  opA : Option Addr
  opC : Nat
  L : List OptV
abbrev PktV.cells (p : PktV) : Array Value := #[.int .i64 p.op, .int .u32 (p.xid : Int), .int .i64 p.secs, .int .i64 p.flags, .int .u32 (p.ci : Int), .int .u32 (p.yi : Int), .int .u32 (p.si : Int), .int .u32 (p.gi : Int), .slice p.hwA p.hw.length p.hwC, .slice p.opA p.L.length p.opC]
abbrev PktV.v (p : PktV) : Value := .agg p.cells
/-- A packet's cells in a block of their own. -/
abbrev pbox (p : PktV) : Obj := .cells p.cells 32

/-- A packet's bytes and options lie below block B. -/
structure Pk (w : World) (B : Nat) (p : PktV) : Prop where
  hw : By w B p.hwA p.hw
  opt : Op w B p.opA p.L
section
variable {w w' : World} {B B' : Nat} {p : PktV}
theorem Pk.keep (h : Pk w B p) (hk : ∀ q : Addr, q.block < B → w'.cell? q = w.cell? q) : Pk w' B p := ⟨h.hw.keep hk, h.opt.keep hk⟩
theorem Pk.below (h : Pk w B p) (hb : Below B w w') : Pk w' B p := ⟨h.hw.below hb, h.opt.below hb⟩
theorem Pk.more (h : Pk w B p) (hB : B ≤ B') : Pk w B' p := ⟨h.hw.more hB, h.opt.more hB⟩
theorem Pk.later (h : Pk w w.heap.size p) (hb : Below w.heap.size w w') : Pk w' w'.heap.size p := (h.below hb).more hb.size
theorem Pk.drew (h : Pk w B p) : Pk w.drew B p := ⟨h.hw.drew, h.opt.drew⟩
theorem Pk.drewN (h : Pk w B p) (n : Nat) : Pk (w.drewN n) B p := ⟨h.hw.drewN n, h.opt.drewN n⟩
theorem Pk.boxed (h : Pk w w.heap.size p) (o : Obj) : Pk (w.alloc o) (w.alloc o).heap.size p := h.later ((Below.refl _ _).alloc (Nat.le_refl _) _)
end

/-- Block g is the packet's box. -/
def PBox (w : World) (g : Nat) (p : PktV) : Prop := w.heap[g]? = some (.cells p.cells 32 (0, 0))
section
variable {w w' : World} {g : Nat} {p : PktV}
theorem PBox.new (w : World) (p : PktV) : PBox (w.alloc (pbox p)) w.heap.size p := heap_alloc_new w _
theorem PBox.lt (h : PBox w g p) : g < w.heap.size := (Array.getElem?_eq_some_iff.1 h).1
theorem PBox.below (h : PBox w g p) {B : Nat} (hb : Below B w w') (hg : g < B) : PBox w' g p := (hb.block g hg).trans h
theorem PBox.later (h : PBox w g p) (hb : Below w.heap.size w w') : PBox w' g p := h.below hb h.lt
theorem PBox.drew (h : PBox w g p) : PBox w.drew g p := h
theorem PBox.drewN (h : PBox w g p) (n : Nat) : PBox (w.drewN n) g p := h
theorem PBox.at_ (h : PBox w g p) (i : Nat) : w.cell? ⟨g, i, none⟩ = p.cells[i]? := cell_of_row w g i _ _ _ h
theorem PBox.all (h : PBox w g p) : w.cell? ⟨g, 0, none⟩ = some (.int .i64 p.op) ∧ w.cell? ⟨g, 1, none⟩ = some (.int .u32 (p.xid : Int)) ∧ w.cell? ⟨g, 2, none⟩ = some (.int .i64 p.secs) ∧ w.cell? ⟨g, 3, none⟩ = some (.int .i64 p.flags)
    ∧ w.cell? ⟨g, 4, none⟩ = some (.int .u32 (p.ci : Int)) ∧ w.cell? ⟨g, 5, none⟩ = some (.int .u32 (p.yi : Int)) ∧ w.cell? ⟨g, 6, none⟩ = some (.int .u32 (p.si : Int)) ∧ w.cell? ⟨g, 7, none⟩ = some (.int .u32 (p.gi : Int))
    ∧ w.cell? ⟨g, 8, none⟩ = some (.slice p.hwA p.hw.length p.hwC) ∧ w.cell? ⟨g, 9, none⟩ = some (.slice p.opA p.L.length p.opC) :=
  ⟨h.at_ 0, h.at_ 1, h.at_ 2, h.at_ 3, h.at_ 4, h.at_ 5, h.at_ 6, h.at_ 7, h.at_ 8, h.at_ 9⟩
end

theorem PBox.c0 {w : World} {g : Nat} {p : PktV} (h : PBox w g p) : w.cell? ⟨g, 0, none⟩ = some (.int .i64 p.op) := h.at_ 0
theorem PBox.c1 {w : World} {g : Nat} {p : PktV} (h : PBox w g p) : w.cell? ⟨g, 1, none⟩ = some (.int .u32 (p.xid : Int)) := h.at_ 1
theorem PBox.c2 {w : World} {g : Nat} {p : PktV} (h : PBox w g p) : w.cell? ⟨g, 2, none⟩ = some (.int .i64 p.secs) := h.at_ 2
theorem PBox.c3 {w : World} {g : Nat} {p : PktV} (h : PBox w g p) : w.cell? ⟨g, 3, none⟩ = some (.int .i64 p.flags) := h.at_ 3
theorem PBox.c4 {w : World} {g : Nat} {p : PktV} (h : PBox w g p) : w.cell? ⟨g, 4, none⟩ = some (.int .u32 (p.ci : Int)) := h.at_ 4
theorem PBox.c5 {w : World} {g : Nat} {p : PktV} (h : PBox w g p) : w.cell? ⟨g, 5, none⟩ = some (.int .u32 (p.yi : Int)) := h.at_ 5
theorem PBox.c6 {w : World} {g : Nat} {p : PktV} (h : PBox w g p) : w.cell? ⟨g, 6, none⟩ = some (.int .u32 (p.si : Int)) := h.at_ 6
theorem PBox.c7 {w : World} {g : Nat} {p : PktV} (h : PBox w g p) : w.cell? ⟨g, 7, none⟩ = some (.int .u32 (p.gi : Int)) := h.at_ 7
theorem PBox.c8 {w : World} {g : Nat} {p : PktV} (h : PBox w g p) : w.cell? ⟨g, 8, none⟩ = some (.slice p.hwA p.hw.length p.hwC) := h.at_ 8
theorem PBox.c9 {w : World} {g : Nat} {p : PktV} (h : PBox w g p) : w.cell? ⟨g, 9, none⟩ = some (.slice p.opA p.L.length p.opC) := h.at_ 9

/-- Its numbers fit. -/
structure PkR (p : PktV) : Prop where
  xid : p.xid < 4294967296
  ci : p.ci < 4294967296
  yi : p.yi < 4294967296
  si : p.si < 4294967296
  gi : p.gi < 4294967296

/-- A packet, wherever it lies. -/
structure PktA where
  op : Int
  xid : Nat
  secs : Int
  flags : Int
  ci : Nat
  yi : Nat
  si : Nat
  gi : Nat
  hw : List UInt8
  opts : List (Int × List UInt8)
  deriving DecidableEq
def PktV.abs (p : PktV) : PktA := ⟨p.op, p.xid, p.secs, p.flags, p.ci, p.yi, p.si, p.gi, p.hw, absL p.L⟩

def pfewB (p : PktV) : Bool := fewB p.L && decide (p.hw.length < 1000)

set_option maxRecDepth 100000 in
set_option maxHeartbeats 1000000 in
theorem pfew_any (p : PktV) (w : World) (hp : Pk w w.heap.size p) (hlm : p.L.length ≤ 9223372036854775807) (hdm : ∀ x ∈ p.L, x.data.length ≤ 9223372036854775807) (hhm : p.hw.length ≤ 9223372036854775807) :
    Calls Tryz.prog 26 #[p.v] w fun e w' => e = .returned (.bool (pfewB p)) ∧ w' = w.alloc (pbox p) := by
  have HF := Lib.hid (few_any p.opA p.opC p.L (w.alloc (pbox p)) (hp.boxed (pbox p)).opt hlm hdm)
  unfold pfewB
  cases hf : fewB p.L
  all_goals
    rw [hf] at HF
    clear hf
    go_enter Tryz.func26, Tryz.ntmps26
    go_wp2_with fail
    refine HF.out.mono ?_
    rintro e w1 ⟨rfl, rfl⟩
    go_wp2
    go_ret
    exact ⟨by simp <;> omega, rfl⟩

end Go.Proofs.YtmaohnbddlccdaaGreat.NO
end

/- packet.short, packet.headed, packet.Right, lessorref03.Right. -/
section
namespace Go.Proofs.YtmaohnbddlccdaaGreat.NO
open Go.RowKit

def shortB (n : Int) : Bool := decide (0 ≤ n) && decide (n ≤ 65535)
theorem short_any (n : Int) (w : World) : Calls Tryz.prog 106 #[.int .i64 n] w fun e w' => e = .returned (.bool (shortB n)) ∧ w = w' := by
  unfold shortB
  cases h0 : decide (0 ≤ n)
  all_goals
    go_enter Tryz.func106, Tryz.ntmps106
    go_wp2
    go_ret
    exact ⟨by simp, rfl⟩

/-- Is what a packet has beside its options as it should be? -/
def headB (p : PktV) : Bool := (p.op == 1 || p.op == 2) && shortB p.secs && shortB p.flags && decide (1 ≤ p.hw.length) && decide (p.hw.length ≤ 16)
theorem head_iff (p : PktV) : headB p = true ↔ (p.op = 1 ∨ p.op = 2) ∧ (0 ≤ p.secs ∧ p.secs ≤ 65535) ∧ (0 ≤ p.flags ∧ p.flags ≤ 65535) ∧ 1 ≤ p.hw.length ∧ p.hw.length ≤ 16 := by
  simp [headB, shortB, and_assoc]

set_option maxRecDepth 100000 in
set_option maxHeartbeats 4000000 in
theorem headed_any (p : PktV) (w : World) (hhm : p.hw.length ≤ 9223372036854775807) :
    Calls Tryz.prog 58 #[p.v] w fun e w' => e = .returned (.bool (headB p)) ∧ w' = w.alloc (pbox p) := by
  have HS := Lib.hid (fun W => short_any p.secs W)
  have HT := Lib.hid (fun W => short_any p.flags W)
  unfold headB
  cases h1 : (p.op == 1) <;> cases h2 : (p.op == 2)
  · go_enter Tryz.func58, Tryz.ntmps58
    go_wp2
    go_ret
    exact ⟨by simp, rfl⟩
  all_goals
    cases h3 : shortB p.secs
    · rw [h3] at HS
      clear h3
      go_enter Tryz.func58, Tryz.ntmps58
      go_wp2_with (go_at_call 106; refine (HS.out _).mono ?_; rintro e w' ⟨rfl, rfl⟩)
      go_ret
      exact ⟨by simp, rfl⟩
    · rw [h3] at HS
      clear h3
      cases h4 : shortB p.flags
      all_goals
        rw [h4] at HT
        clear h4
        cases h5 : decide (1 ≤ p.hw.length)
        all_goals
          have h6 : decide ((1 : Int) ≤ (p.hw.length : Int)) = decide (1 ≤ p.hw.length) := by simp; omega
          rw [h5] at h6
          go_enter Tryz.func58, Tryz.ntmps58
          go_wp2_with fail
          refine (HS.out _).mono ?_
          rintro e w' ⟨rfl, rfl⟩
          go_wp2_with fail
          refine (HT.out _).mono ?_
          rintro e w' ⟨rfl, rfl⟩
          go_wp2
          go_ret
          exact ⟨by simp <;> omega, rfl⟩

/-- May a packet be? -/
def rightB (p : PktV) : Bool := ((encL (absL p.L)).2 == 0) && headB p

set_option maxRecDepth 100000 in
set_option maxHeartbeats 4000000 in
theorem right_any (p : PktV) (w : World) (hp : Pk w w.heap.size p) (hL : p.L.length ≤ 2000) (hhm : p.hw.length ≤ 9223372036854775807) :
    Calls Tryz.prog 23 #[p.v] w fun e w' => e = .returned (.bool (rightB p)) ∧ Below w.heap.size w w' := by
  have hB0 : Below w.heap.size w (w.alloc (pbox p)) := (Below.refl _ _).alloc (Nat.le_refl _) _
  have HE := Lib.hid (encode_any p.opA p.opC p.L (w.alloc (pbox p)) (hp.boxed (pbox p)).opt hL)
  have HH := Lib.hid (fun W => headed_any p W hhm)
  unfold rightB
  have hbox := PBox.new w p
  have HX := Lib.hid hbox
  clear hbox
  cases hq : ((encL (absL p.L)).2 == 0)
  · go_enter Tryz.func23, Tryz.ntmps23
    go_wp2_with fail
    refine HE.out.mono ?_
    rintro e w1 ⟨A, c, rfl, _, _, hB1⟩
    go_wp2
    go_ret
    exact ⟨by simp, hB0.trans (hB1.mono hB0.size)⟩
  · go_enter Tryz.func23, Tryz.ntmps23
    go_wp2_with fail
    refine HE.out.mono ?_
    rintro e w1 ⟨A, c, rfl, _, _, hB1⟩
    obtain ⟨c0, c1, c2, c3, c4, c5, c6, c7, c8, c9⟩ := (HX.out.later hB1).all
    have hB2 : Below w.heap.size w w1 := hB0.trans (hB1.mono hB0.size)
    go_wp2_with fail
    refine (HH.out _).mono ?_
    rintro e w2 ⟨rfl, rfl⟩
    go_wp2
    go_ret
    exact ⟨by simp, hB2.alloc hB2.size _⟩
end Go.Proofs.YtmaohnbddlccdaaGreat.NO
end

/- lessorref02.Bytes. -/
section
namespace Go.Proofs.YtmaohnbddlccdaaGreat.NO
open Go.RowKit

/-- The last k bytes are there. -/
def tailP (n m k : Nat) : List UInt8 := List.replicate (m - k) 0 ++ (beL n m).drop (m - k)
theorem tailP_length (n m k : Nat) : (tailP n m k).length = m := by simp [tailP, beL_length]; try omega
theorem tailP_zero (n m : Nat) : tailP n m 0 = List.replicate m 0 := by simp [tailP, List.drop_of_length_le, beL_length]
theorem tailP_all (n m : Nat) : tailP n m m = beL n m := by simp [tailP]
theorem tailP_set (n m k : Nat) (hk : k < m) : (tailP n m k).set (m - 1 - k) (UInt8.ofNat (n / 256 ^ k)) = tailP n m (k + 1) := by
  unfold tailP
  rw [show m - k = m - 1 - k + 1 by omega, show m - (k + 1) = m - 1 - k by omega, List.replicate_succ', List.append_assoc, List.set_append_right _ _ (by simp)]
  have hb := be_at n m (m - 1 - k) (by omega)
  rw [show m - 1 - (m - 1 - k) = k by omega] at hb
  obtain ⟨h1, h2⟩ := List.getElem?_eq_some_iff.1 hb
  rw [List.drop_eq_getElem_cons h1, h2]
  simp

set_option maxRecDepth 100000 in
set_option maxHeartbeats 1000000 in
theorem rbytes_ok (n m : Nat) (hn : n < 9223372036854775808) (hm : m ≤ 4) (hs : sizedB (m : Int) = true) (w : World) :
    Calls Tryz.prog 142 #[.int .i64 (n : Int), .int .i64 (m : Int)] w (GivesB w (bytR n m).1 (bytR n m).2) := by
  have HR : Hid ((256 ^ m ≤ n ∧ bytR n m = ([], 1)) ∨ (n < 256 ^ m ∧ bytR n m = (beL n m, 0))) := by
    by_cases h : n < 256 ^ m
    · exact .inr ⟨h, bytR_ok hs h⟩
    · exact .inl ⟨Nat.le_of_not_lt h, bytR_big (Nat.le_of_not_lt h)⟩
  have hd0 : decide ((n : Int) < 0) = false := by simp
  have hmk := run_makeF m (by omega)
  have hone : ((m : Int) != 1) = false ∨ (((m : Int) != 1) = true ∧ ((m : Int) != 2) = false) ∨ (((m : Int) != 1) = true ∧ ((m : Int) != 2) = true ∧ ((m : Int) != 4) = false) := by
    simp [sizedB] at hs ⊢; omega
  have hm1 : 1 ≤ m := by simp [sizedB] at hs; omega
  clear hs
  have hown0 := madeF_own w w.heap.size m (Nat.le_refl _) (by omega)
  have hB0 : Below w.heap.size w (w.alloc (.cells (madeCells #[.int .u8 0] m) 5)) := (Below.refl _ _).alloc (Nat.le_refl _) _
  rcases hone with h1 | ⟨h1, h2⟩ | ⟨h1, h2, h4⟩
  all_goals
    go_enter Tryz.func142, Tryz.ntmps142
    go_wp2
    clear hmk
    go_loopw [0, 7] (fun nv i wr => ∃ k q : Nat, k ≤ m ∧ i = .int .i64 ((m : Int) - 1 - k) ∧ nv = .int .i64 (q : Int) ∧ q = n / 256 ^ k ∧ wr.ownsRow w.heap.size 5 1 (.slice (some ⟨w.heap.size, 0, none⟩) m m) m (bcells (tailP n m k)) ∧ Below w.heap.size w wr) (fun _ i _ => (intOf i + 1).toNat)
    case atStart => exact ⟨0, n, Nat.zero_le _, by simp, rfl, by simp, by rw [tailP_zero]; exact hown0, hB0⟩
    case round =>
      obtain ⟨k, q, hk, rfl, rfl, hq, hown, hB⟩ := hrel
      have hqn : q ≤ n := by rw [hq]; exact Nat.div_le_self _ _
      have HQ := Lib.hid hq
      clear hq
      by_cases hlt : k < m
      · obtain ⟨j, hj⟩ : ∃ j, j = m - 1 - k := ⟨_, rfl⟩
        have hjm : (m : Int) - 1 - k = (j : Int) := by omega
        have hcell := hown.cellAt j (by omega)
        obtain ⟨y, hy⟩ : ∃ y, (bcells (tailP n m k))[j]? = some y := ⟨_, List.getElem?_eq_getElem (by rw [bcells_length, tailP_length]; omega)⟩
        rw [hy] at hcell
        have hfr := hown.frozenAt j
        have hjlt : j < m := by omega
        have HJ := Lib.hid hj
        have HJM := Lib.hid hjm
        rw [hjm]
        clear hy hj hjm
        go_wp2
        have eb : (q : Int) % 256 = ((UInt8.ofNat q).toNat : Int) := by rw [UInt8.toNat_ofNat']; rfl
        rw [eb]
        have hst := hown.stored j (bV (UInt8.ofNat q))
        rw [bcells_set, HQ.out, HJ.out, tailP_set n m k hlt] at hst
        rw [← HQ.out, ← HJ.out] at hst
        go_roundw
        case rel => exact ⟨k + 1, q / 256, by omega, by have := HJM.out; congr 1; omega, by go_num, by rw [HQ.out, Nat.div_div_eq_div_mul, Nat.pow_succ], hst.1, own_below hB hB.size hown hst.2⟩
        case measure => simp [intOf]
      · obtain rfl : k = m := by omega
        rw [tailP_all] at hown
        have hby := By.of_own hown
        rw [show (k : Int) - 1 - k = -1 by omega]
        rcases HR.out with ⟨hge, hR⟩ | ⟨hlt', hR⟩
        · have HRR := Lib.hid hR
          have hq0 : 0 < q := by rw [HQ.out]; exact Nat.div_pos hge (Nat.pow_pos (by omega))
          clear hR hge
          go_wp2
          go_ret2
          rw [HRR.out]
          exact ⟨none, 0, rfl, By.nil, Nat.le_refl _, hB⟩
        · have HRR := Lib.hid hR
          have hq0 : q = 0 := by rw [HQ.out]; exact Nat.div_eq_of_lt hlt'
          clear hR hlt' HQ
          subst hq0
          go_wp2
          go_ret2
          rw [HRR.out]
          exact ⟨some ⟨w.heap.size, 0, none⟩, k, by rw [beL_length]; rfl, hby, by rw [beL_length]; exact Nat.le_refl _, hB⟩

set_option maxRecDepth 100000 in
set_option maxHeartbeats 1000000 in
theorem rbytes_any (n many : Int) (hn : n < 9223372036854775808) (w : World) :
    Calls Tryz.prog 142 #[.int .i64 n, .int .i64 many] w (GivesB w (bytR n many).1 (bytR n many).2) := by
  cases hs : sizedB many
  · have HR := Lib.hid (bytR_bad_many (n := n) hs)
    have h1 : (many != 1) = true := by simp [sizedB] at hs ⊢; omega
    have h2 : (many != 2) = true := by simp [sizedB] at hs ⊢; omega
    have h4 : (many != 4) = true := by simp [sizedB] at hs ⊢; omega
    clear hs
    go_enter Tryz.func142, Tryz.ntmps142
    go_wp2
    go_ret2
    rw [HR.out]
    exact ⟨none, 0, rfl, By.nil, Nat.le_refl _, Below.refl _ _⟩
  · obtain ⟨m, rfl⟩ : ∃ m : Nat, many = m := ⟨many.toNat, by simp [sizedB] at hs; omega⟩
    have hm4 : m ≤ 4 := by simp [sizedB] at hs; omega
    by_cases hneg : n < 0
    · have HR := Lib.hid (bytR_neg (many := m) hneg)
      have hd : decide (n < 0) = true := by simpa using hneg
      have hone : ((m : Int) != 1) = false ∨ (((m : Int) != 1) = true ∧ ((m : Int) != 2) = false) ∨ (((m : Int) != 1) = true ∧ ((m : Int) != 2) = true ∧ ((m : Int) != 4) = false) := by
        simp [sizedB] at hs ⊢; omega
      clear hs
      rcases hone with h1 | ⟨h1, h2⟩ | ⟨h1, h2, h4⟩
      all_goals
        go_enter Tryz.func142, Tryz.ntmps142
        go_wp2
        go_ret2
        rw [HR.out]
        exact ⟨none, 0, rfl, By.nil, Nat.le_refl _, Below.refl _ _⟩
    · obtain ⟨q, rfl⟩ : ∃ q : Nat, n = q := ⟨n.toNat, by omega⟩
      exact rbytes_ok q m (by omega) hm4 hs w
end Go.Proofs.YtmaohnbddlccdaaGreat.NO
end

/- A range over a function whose elements hold memory: the iterator tells, behind its run, what that memory holds (the library's laws let it tell of the list of elements alone). -/
section
namespace Go.Proofs.YtmaohnbddlccdaaGreat.NO
open Go.RowKit Go.Shelf
attribute [local go_sem] Oper.semAt_some

section
variable {F : Fence} {n : Nat} {P : Program}

/-- What an iterator promises: S of all that came and of the world behind it, Sp of what came where the body stopped. -/
def SeqEnds {α : Type} (F : Fence) (n : Nat) (P : Program) (gf : Nat) (lb : Array Value) (encs : α → Array Value) (Kp : World → World → Prop) (S Sp : List α → World → Prop) (N : Nat) (w : World) : Prop :=
  ∀ (l : Nat) (J Jx : List α → World → Prop) (W : World), Below w.heap.size w W → AbidesFrom W.heap.size J → AbidesFrom W.heap.size Jx →
    (∀ pre x V, J pre V → pre.length < N → YieldAt F (n - 1) P l (encs x) V fun e V' => (e = .returned (.bool true) ∧ J (pre ++ [x]) V' ∧ Kp V V') ∨ (e = .returned (.bool false) ∧ Jx (pre ++ [x]) V')) →
    J [] W →
    CallsIn F n P gf (#[.func (.yield l) #[] #[]] ++ lb) W fun e V => (∃ v, e = .returned v) ∧ ((∃ xs, S xs V ∧ J xs V) ∨ (∃ pre, Sp pre V ∧ Jx pre V))

/-- Kept where the statement's own book is written: a block, from B on, that holds no cells. -/
def Booked (B : Nat) (T : World → Prop) : Prop := ∀ (V : World) (l : Nat) (o o' : Obj), T V → B ≤ l → V.heap[l]? = some o → o.isCells = false → T (V.putObj l o')

theorem range_ends {α : Type} {g : Operand} {ps : Array Tmp} {assign body : Code} {Q : Exit → Act → World → Prop} {a : Act} {w : World}
    (hro : F.round = none) (h1 : 1 ≤ n) {gf : Nat} {lb : Array Value} (hg : a.eval g = .func (.func gf) #[] lb) (hFg : F.fn gf) (eg : ∀ args w, (callFunc gf args).run P w = .ok (.enter gf args) w)
    {encs : α → Array Value} {Kp : World → World → Prop} {S Sp : List α → World → Prop} {N : Nat} {w0 : World} (hseq : SeqEnds F (n - 1) P gf lb encs Kp S Sp N w0)
    (hKt : ∀ {A B C : World}, Kp A B → Kp B C → Kp A C) (hKb : ∀ V, Booked w.heap.size (Kp V)) (hSb : ∀ xs, Booked w.heap.size (S xs)) (hSpb : ∀ xs, Booked w.heap.size (Sp xs)) (hb0 : Below w0.heap.size w0 w) (hps : ∀ x, (encs x).size = ps.size)
    (I : List α → World → Prop) (Ix : Code → List α → World → Prop) (hI : OwnFrom w.heap.size I) (hIx : ∀ c, OwnFrom w.heap.size (Ix c)) (h0 : I [] w) (a₁ : α → World → Act)
    (wA : α → World → World) (hwA : ∀ (x : α) (V : World), V.grownBy (wA x V) none) (hKA : ∀ (x : α) (V : World), w.heap.size ≤ V.heap.size → Kp V (wA x V)) (Got : α → World → World → Prop) (hGot : ∀ x V, Got x V (wA x V)) (hGb : ∀ x V, Booked w.heap.size (Got x V))
    (hassign : ∀ (l : Nat) (x : α) (V : World) (K : Act → World → Prop), K (a₁ x V) (wA x V) →
      assign.wpIn (F.inRound l) (n - 1 - 1) P (Exit.then K (fun _ _ _ => False)) { tmps := (ps.zip (encs x)).foldl (fun t (p, v) => t.setIfInBounds p v) a.tmps, defers := [] } V)
    (hbody : ∀ (l : Nat) (pre : List α) (x : α) (V U : World), I pre V → I pre U → Got x V U → w.heap.size ≤ V.heap.size → V.heap.size ≤ U.heap.size → pre.length < N → body.wpIn (F.inRound l) (n - 1 - 1) P (ownPostG w.heap.size Kp I Ix (pre ++ [x]) U) (a₁ x V) U)
    (hdone : ∀ (D : Nat) (xs : List α) (V : World), w.heap.size ≤ D → S xs V → I xs V → V.heap[D]? = some (.deferred (some [])) → Q .normal { a with defers := { target := .collected D, args := #[] } :: a.defers } V)
    (hstop : ∀ (D : Nat) (c : Code) (pre : List α) (V : World), w.heap.size ≤ D → Sp pre V → Ix c pre V → V.heap[D]? = some (.deferred (some [])) → c.wpIn F n P Q { a with defers := { target := .collected D, args := #[] } :: a.defers } V) :
    (Code.rangeFunc g ps assign body).wpIn F n P Q a w := by
  refine wpIn_rangeFunc fun fn hfn => ?_
  rw [hro]
  -- the loop's record, in its states
  let book : LoopState → Option Code → Obj := fun st pe => .loop { state := st, pending := pe, fn, tmps := a.tmps, params := ps, assign, body, defers := w.heap.size }
  obtain ⟨W1, hW1⟩ : ∃ W1, W1 = (w.alloc (.deferred (some []))).alloc (book .ready none) := ⟨_, rfl⟩
  have hz1 : W1.heap.size = w.heap.size + 1 + 1 := by rw [hW1]; simp
  have hL : W1.heap[w.heap.size + 1]? = some (book .ready none) := by
    have h := World.alloc_heap_new (w.alloc (.deferred (some []))) (book .ready none)
    rw [World.size_alloc] at h
    rw [hW1]; exact h
  have hD : W1.heap[w.heap.size]? = some (.deferred (some [])) := by
    rw [hW1]; exact (Below.heap_alloc _ _ _ (by simp)).trans (World.alloc_heap_new w _)
  have hbW : Below w0.heap.size w0 W1 := by
    rw [hW1]; exact hb0.trans ((((Below.refl _ w).alloc (Nat.le_refl _) _).alloc (by simp) _).mono hb0.size)
  have walk_book : ∀ {A B : World} {row : Option Nat}, (∀ r, row = some r → W1.heap.size ≤ r ∧ ∃ o : Obj, A.heap[r]? = some o ∧ o.isWalk = true) → ∀ r, row = some r → w.heap.size ≤ r ∧ ∃ o : Obj, A.heap[r]? = some o ∧ o.isCells = false :=
    fun hr r e => by
      obtain ⟨hB, o, ho, hw⟩ := hr r e
      exact ⟨by omega, o, ho, Obj.not_cells_of_walk hw⟩
  refine ⟨w.heap.size + 1, [{ target := .collected w.heap.size, args := #[] }], W1, { target := .fn (.func gf) lb, args := #[.func (.yield (w.heap.size + 1)) #[] #[]] }, W1, gf,
    #[.func (.yield (w.heap.size + 1)) #[] #[]] ++ lb, W1, by rw [hW1]; exact run_enterLoop_outer _ _ _ _ _, by simp only [resolve, hg]; simp [go_sem], fun f' hf' => by simp [Target.leads] at hf'; subst hf'; exact hFg, by simp [invoke, go_sem, eg], fun _ => h1, ?_⟩
  refine (hseq (w.heap.size + 1)
    (fun pre V => I pre V ∧ V.heap[w.heap.size + 1]? = some (book .ready none) ∧ V.heap[w.heap.size]? = some (.deferred (some [])))
    (fun pre V => ∃ c, Ix c pre V ∧ V.heap[w.heap.size + 1]? = some (book .done (some c)) ∧ V.heap[w.heap.size]? = some (.deferred (some [])))
    W1 hbW
    (fun s A B row hs hgr hr => ⟨hI s A B row hs.1 hgr (walk_book (B := B) hr), (grownBy_keeps hgr (fun r e => (hr r e).2) hs.2.1 rfl).trans hs.2.1, (grownBy_keeps hgr (fun r e => (hr r e).2) hs.2.2 rfl).trans hs.2.2⟩)
    (fun s A B row ⟨c, hc, hl, hk⟩ hgr hr => ⟨c, hIx c s A B row hc hgr (walk_book (B := B) hr), (grownBy_keeps hgr (fun r e => (hr r e).2) hl rfl).trans hl, (grownBy_keeps hgr (fun r e => (hr r e).2) hk rfl).trans hk⟩)
    ?round ⟨by rw [hW1]; exact hI.alloc _ (hI.alloc _ h0), hL, hD⟩).mono ?behind
  case round =>
    rintro pre x V ⟨hi, hl, hk⟩ hlen
    have hlt0 : w.heap.size + 1 < V.heap.size := (Array.getElem?_eq_some_iff.1 hl).1
    have hA := hwA x V
    have hKVA := hKA x V (by omega)
    have hGA := hGot x V
    have hiA : I pre (wA x V) := hI _ _ _ none hi hA (fun r e => by cases e)
    have hlA : (wA x V).heap[w.heap.size + 1]? = some (book .ready none) := (hA.block _ hlt0 (by simp)).trans hl
    have hkA : (wA x V).heap[w.heap.size]? = some (.deferred (some [])) := (hA.block _ (by omega) (by simp)).trans hk
    refine ⟨fn, _, assign, body, run_yield hl (hps x), roundIn_of_wpIn hfn (hassign _ x V _ ⟨_, run_beginRound hlA rfl, ?_⟩)⟩
    have hsA := hA.size
    generalize hVA : wA x V = VA at *
    clear hVA hA hl hk
    have hlt : w.heap.size + 1 < VA.heap.size := (Array.getElem?_eq_some_iff.1 hlA).1
    obtain ⟨V2, hV2⟩ : ∃ V2, V2 = VA.putObj (w.heap.size + 1) (book .busy none) := ⟨_, rfl⟩
    have hl2 : V2.heap[w.heap.size + 1]? = some (book .busy none) := by rw [hV2]; exact World.putObj_heap_same hlt
    have hk2 : V2.heap[w.heap.size]? = some (.deferred (some [])) := by rw [hV2]; exact (World.putObj_heap_other (by omega)).trans hkA
    have hi2 : I pre V2 := by rw [hV2]; exact hI.putObj _ hiA (by omega) hlA rfl
    have hw2 : Kp V V2 := by rw [hV2]; exact hKb V VA _ _ _ hKVA (by omega) hlA rfl
    have hg2 : Got x V V2 := by rw [hV2]; exact hGb x V VA _ _ _ hGA (by omega) hlA rfl
    have hs2 : V.heap.size ≤ V2.heap.size := by rw [hV2, World.putObj_size]; exact hsA
    have ends : ∀ (jump : Option Code) (V3 : World), KeepsFrom w.heap.size V2 V3 → V3.heap[w.heap.size + 1]? = some (book .busy none) ∧
        (Instr.endRound (w.heap.size + 1) jump).run P V3 = .ok (.bool jump.isNone) (V3.putObj (w.heap.size + 1) (book (if jump.isNone then .ready else .done) jump)) ∧
        (V3.putObj (w.heap.size + 1) (book (if jump.isNone then .ready else .done) jump)).heap[w.heap.size + 1]? = some (book (if jump.isNone then .ready else .done) jump) ∧
        (V3.putObj (w.heap.size + 1) (book (if jump.isNone then .ready else .done) jump)).heap[w.heap.size]? = some (.deferred (some [])) := fun jump V3 hk3 => by
      have hl3 := hk3.same _ _ (by omega) hl2 rfl
      exact ⟨hl3, run_endRound (P := P) jump hl3, World.putObj_heap_same (Array.getElem?_eq_some_iff.1 hl3).1, (World.putObj_heap_other (by omega)).trans (hk3.same _ _ (Nat.le_refl _) hk2 rfl)⟩
    have hbod := hbody (w.heap.size + 1) pre x V V2 hi hi2 hg2 (by omega) hs2 hlen
    rw [hV2] at hbod
    refine wpIn_mono hbod ?_
    rw [← hV2]
    have left : ∀ (c : Code) (V3 : World), KeepsFrom w.heap.size V2 V3 → Ix c (pre ++ [x]) V3 → ∃ v V4, (Instr.endRound (w.heap.size + 1) (some c)).run P V3 = .ok v V4 ∧ ((.returned v = Ending.returned (.bool true) ∧ (I (pre ++ [x]) V4 ∧ V4.heap[w.heap.size + 1]? = some (book .ready none) ∧ V4.heap[w.heap.size]? = some (.deferred (some []))) ∧ Kp V V4) ∨
        (.returned v = Ending.returned (.bool false) ∧ ∃ c, Ix c (pre ++ [x]) V4 ∧ V4.heap[w.heap.size + 1]? = some (book .done (some c)) ∧ V4.heap[w.heap.size]? = some (.deferred (some [])))) := fun c V3 hk3 hi3 => by
      obtain ⟨hl3, hr, hl4, hk4⟩ := ends (some c) V3 hk3
      exact ⟨_, _, hr, .inr ⟨rfl, c, (hIx _).putObj _ hi3 (by omega) hl3 rfl, hl4, hk4⟩⟩
    rintro e a3 V3 hp
    cases e with
    | normal =>
      obtain ⟨hk3, hkp3, hi3⟩ := hp
      obtain ⟨hl3, hr, hl4, hk4⟩ := ends none V3 hk3
      exact ⟨_, _, hr, .inl ⟨rfl, ⟨hI.putObj _ hi3 (by omega) hl3 rfl, hl4, hk4⟩, hKb V V3 _ _ _ (hKt hw2 hkp3) (by omega) hl3 rfl⟩⟩
    | ret => exact left _ V3 hp.1 hp.2
    | exit id => exact left _ V3 hp.1 hp.2
    | goto t => exact left _ V3 hp.1 hp.2
    | panic ch => exact hp.elim
    | outgrown => exact hp.elim
  case behind =>
    rintro e V ⟨⟨v, rfl⟩, (⟨xs, hS, hi, hl, hk⟩ | ⟨pre, hSp, c, hi, hl, hk⟩)⟩
    · exact ⟨none, _, run_endLoop (P := P) hl (by simp), hdone _ xs _ (Nat.le_refl _) (hSb xs V _ _ _ hS (by omega) hl rfl) (hI.putObj _ hi (by omega) hl rfl) ((World.putObj_heap_other (by omega)).trans hk)⟩
    · exact ⟨some c, _, run_endLoop (P := P) hl (by simp), hstop _ c pre _ (Nat.le_refl _) (hSpb pre V _ _ _ hSp (by omega) hl rfl) ((hIx c).putObj _ hi (by omega) hl rfl) ((World.putObj_heap_other (by omega)).trans hk)⟩
end
end Go.Proofs.YtmaohnbddlccdaaGreat.NO
end
