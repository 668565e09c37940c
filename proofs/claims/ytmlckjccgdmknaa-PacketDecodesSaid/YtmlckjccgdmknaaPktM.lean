/- Packets in memory: how a packet lies, and its box. -/
import Derived.Test.YtmlckjccgdmknaaOptF
import Derived.Test.YtmlckjccgdmknaaOptN
namespace Go.Proofs.Ytmlckjccgdmknaa
open Go.RowKit

/-- A packet as it lies. -/
structure PktV where
  op : Int
  xid : Nat
  secs : Int
  flags : Int
  ci : Nat
  yi : Nat
  si : Nat
  gi : Nat
  hwA : Option Addr
  hwC : Nat
  hw : List UInt8
  opA : Option Addr
  opC : Nat
  L : List OptV
abbrev PktV.cells (p : PktV) : Array Value := #[.int .i64 p.op, .int .u32 (p.xid : Int), .int .i64 p.secs, .int .i64 p.flags, .int .u32 (p.ci : Int), .int .u32 (p.yi : Int), .int .u32 (p.si : Int), .int .u32 (p.gi : Int), .slice p.hwA p.hw.length p.hwC, .slice p.opA p.L.length p.opC]
abbrev PktV.v (p : PktV) : Value := .agg p.cells
/-- A packet's cells in a block of their own. -/
abbrev pbox (p : PktV) : Obj := .cells p.cells 27

/-- A packet's bytes and options lie below block B. -/
structure Pk (w : World) (B : Nat) (p : PktV) : Prop where
  hw : By w B p.hwA p.hw
  opt : Op w B p.opA p.L
section
variable {w w' : World} {B B' : Nat} {p : PktV}
theorem Pk.keep (h : Pk w B p) (hk : ∀ q : Addr, q.block < B → w'.cell? q = w.cell? q) : Pk w' B p := ⟨h.hw.keep hk, h.opt.keep hk⟩
theorem Pk.below (h : Pk w B p) (hb : Below B w w') : Pk w' B p := ⟨h.hw.below hb, h.opt.below hb⟩
theorem Pk.more (h : Pk w B p) (hB : B ≤ B') : Pk w B' p := ⟨h.hw.more hB, h.opt.more hB⟩
theorem Pk.later (h : Pk w w.heap.size p) (hb : Below w.heap.size w w') : Pk w' w'.heap.size p := (h.below hb).more hb.size
theorem Pk.drew (h : Pk w B p) : Pk w.drew B p := ⟨h.hw.drew, h.opt.drew⟩
theorem Pk.drewN (h : Pk w B p) (n : Nat) : Pk (w.drewN n) B p := ⟨h.hw.drewN n, h.opt.drewN n⟩
theorem Pk.boxed (h : Pk w w.heap.size p) (o : Obj) : Pk (w.alloc o) (w.alloc o).heap.size p := h.later ((Below.refl _ _).alloc (Nat.le_refl _) _)
end

/-- Block g is the packet's box. -/
def PBox (w : World) (g : Nat) (p : PktV) : Prop := w.heap[g]? = some (.cells p.cells 27 (0, 0))
section
variable {w w' : World} {g : Nat} {p : PktV}
theorem PBox.new (w : World) (p : PktV) : PBox (w.alloc (pbox p)) w.heap.size p := heap_alloc_new w _
theorem PBox.lt (h : PBox w g p) : g < w.heap.size := (Array.getElem?_eq_some_iff.1 h).1
theorem PBox.below (h : PBox w g p) {B : Nat} (hb : Below B w w') (hg : g < B) : PBox w' g p := (hb.block g hg).trans h
theorem PBox.later (h : PBox w g p) (hb : Below w.heap.size w w') : PBox w' g p := h.below hb h.lt
theorem PBox.drew (h : PBox w g p) : PBox w.drew g p := h
theorem PBox.drewN (h : PBox w g p) (n : Nat) : PBox (w.drewN n) g p := h
theorem PBox.at_ (h : PBox w g p) (i : Nat) : w.cell? ⟨g, i, none⟩ = p.cells[i]? := cell_of_row w g i _ _ _ h
theorem PBox.all (h : PBox w g p) : w.cell? ⟨g, 0, none⟩ = some (.int .i64 p.op) ∧ w.cell? ⟨g, 1, none⟩ = some (.int .u32 (p.xid : Int)) ∧ w.cell? ⟨g, 2, none⟩ = some (.int .i64 p.secs) ∧ w.cell? ⟨g, 3, none⟩ = some (.int .i64 p.flags)
    ∧ w.cell? ⟨g, 4, none⟩ = some (.int .u32 (p.ci : Int)) ∧ w.cell? ⟨g, 5, none⟩ = some (.int .u32 (p.yi : Int)) ∧ w.cell? ⟨g, 6, none⟩ = some (.int .u32 (p.si : Int)) ∧ w.cell? ⟨g, 7, none⟩ = some (.int .u32 (p.gi : Int))
    ∧ w.cell? ⟨g, 8, none⟩ = some (.slice p.hwA p.hw.length p.hwC) ∧ w.cell? ⟨g, 9, none⟩ = some (.slice p.opA p.L.length p.opC) :=
  ⟨h.at_ 0, h.at_ 1, h.at_ 2, h.at_ 3, h.at_ 4, h.at_ 5, h.at_ 6, h.at_ 7, h.at_ 8, h.at_ 9⟩
end

theorem PBox.c0 {w : World} {g : Nat} {p : PktV} (h : PBox w g p) : w.cell? ⟨g, 0, none⟩ = some (.int .i64 p.op) := h.at_ 0
theorem PBox.c1 {w : World} {g : Nat} {p : PktV} (h : PBox w g p) : w.cell? ⟨g, 1, none⟩ = some (.int .u32 (p.xid : Int)) := h.at_ 1
theorem PBox.c2 {w : World} {g : Nat} {p : PktV} (h : PBox w g p) : w.cell? ⟨g, 2, none⟩ = some (.int .i64 p.secs) := h.at_ 2
theorem PBox.c3 {w : World} {g : Nat} {p : PktV} (h : PBox w g p) : w.cell? ⟨g, 3, none⟩ = some (.int .i64 p.flags) := h.at_ 3
theorem PBox.c4 {w : World} {g : Nat} {p : PktV} (h : PBox w g p) : w.cell? ⟨g, 4, none⟩ = some (.int .u32 (p.ci : Int)) := h.at_ 4
theorem PBox.c5 {w : World} {g : Nat} {p : PktV} (h : PBox w g p) : w.cell? ⟨g, 5, none⟩ = some (.int .u32 (p.yi : Int)) := h.at_ 5
theorem PBox.c6 {w : World} {g : Nat} {p : PktV} (h : PBox w g p) : w.cell? ⟨g, 6, none⟩ = some (.int .u32 (p.si : Int)) := h.at_ 6
theorem PBox.c7 {w : World} {g : Nat} {p : PktV} (h : PBox w g p) : w.cell? ⟨g, 7, none⟩ = some (.int .u32 (p.gi : Int)) := h.at_ 7
theorem PBox.c8 {w : World} {g : Nat} {p : PktV} (h : PBox w g p) : w.cell? ⟨g, 8, none⟩ = some (.slice p.hwA p.hw.length p.hwC) := h.at_ 8
theorem PBox.c9 {w : World} {g : Nat} {p : PktV} (h : PBox w g p) : w.cell? ⟨g, 9, none⟩ = some (.slice p.opA p.L.length p.opC) := h.at_ 9

/-- Its numbers fit. -/
structure PkR (p : PktV) : Prop where
  xid : p.xid < 4294967296
  ci : p.ci < 4294967296
  yi : p.yi < 4294967296
  si : p.si < 4294967296
  gi : p.gi < 4294967296

/-- A packet, wherever it lies. -/
structure PktA where
  op : Int
  xid : Nat
  secs : Int
  flags : Int
  ci : Nat
  yi : Nat
  si : Nat
  gi : Nat
  hw : List UInt8
  opts : List (Int × List UInt8)
  deriving DecidableEq
def PktV.abs (p : PktV) : PktA := ⟨p.op, p.xid, p.secs, p.flags, p.ci, p.yi, p.si, p.gi, p.hw, absL p.L⟩

def pfewB (p : PktV) : Bool := fewB p.L && decide (p.hw.length < 1000)

set_option maxRecDepth 100000 in
set_option maxHeartbeats 1000000 in
theorem pfew_any (p : PktV) (w : World) (hp : Pk w w.heap.size p) (hlm : p.L.length ≤ 9223372036854775807) (hdm : ∀ x ∈ p.L, x.data.length ≤ 9223372036854775807) (hhm : p.hw.length ≤ 9223372036854775807) :
    Calls Try.prog 9 #[p.v] w fun e w' => e = .returned (.bool (pfewB p)) ∧ w' = w.alloc (pbox p) := by
  have HF := Lib.hid (few_any p.opA p.opC p.L (w.alloc (pbox p)) (hp.boxed (pbox p)).opt hlm hdm)
  unfold pfewB
  cases hf : fewB p.L
  all_goals
    rw [hf] at HF
    clear hf
    go_enter Try.func9, Try.ntmps9
    go_wp2_with fail
    refine HF.out.mono ?_
    rintro e w1 ⟨rfl, rfl⟩
    go_wp2
    go_ret
    exact ⟨by simp <;> omega, rfl⟩

end Go.Proofs.Ytmlckjccgdmknaa
