/- What packet.Decode defers; its boxes. -/
import Derived.Test.YtmlckjccgdmknaaDecB
import Derived.Defers
import Derived.Recover
namespace Go.Proofs.Ytmlckjccgdmknaa
open Go.RowKit Go.Sort

/-- A packet's box holds no byte, and no option. -/
theorem PBox.u8_no {w : World} {g : Nat} {p : PktV} (h : PBox w g p) {k : Nat} {n : Int} (hc : w.cell? ⟨g, k, none⟩ = some (.int .u8 n)) : False := by
  rw [h.at_ k] at hc
  match k, hc with
  | 0, hc => simp at hc
  | 1, hc => simp at hc
  | 2, hc => simp at hc
  | 3, hc => simp at hc
  | 4, hc => simp at hc
  | 5, hc => simp at hc
  | 6, hc => simp at hc
  | 7, hc => simp at hc
  | 8, hc => simp at hc
  | 9, hc => simp at hc
  | k + 10, hc => simp at hc
theorem PBox.opt_no {w : World} {g : Nat} {p : PktV} (h : PBox w g p) {k : Nat} {n : Int} {a : Option Addr} {l c : Nat} (h0 : w.cell? ⟨g, k, none⟩ = some (.int .i64 n)) (h1 : w.cell? ⟨g, k + 1, none⟩ = some (.slice a l c)) : False := by
  rw [h.at_ k] at h0
  rw [h.at_ (k + 1)] at h1
  match k, h0, h1 with
  | 0, _, h1 => simp at h1
  | 1, h0, _ => simp at h0
  | 2, _, h1 => simp at h1
  | 3, _, h1 => simp at h1
  | 4, h0, _ => simp at h0
  | 5, h0, _ => simp at h0
  | 6, h0, _ => simp at h0
  | 7, h0, _ => simp at h0
  | 8, h0, _ => simp at h0
  | 9, h0, _ => simp at h0
  | k + 10, h0, _ => simp at h0

/-- Block g is an error's box. -/
def EBox (w : World) (g : Nat) (n : Int) : Prop := w.heap[g]? = some (.cells #[.int .i64 n] 30 (0, 0))
section
variable {w w' : World} {g B : Nat} {n : Int} {p : PktV}
theorem EBox.lt (h : EBox w g n) : g < w.heap.size := (Array.getElem?_eq_some_iff.1 h).1
theorem EBox.at_ (h : EBox w g n) (i : Nat) : w.cell? ⟨g, i, none⟩ = #[Value.int .i64 n][i]? := cell_of_row w g i _ _ _ h
theorem EBox.c0 (h : EBox w g n) : w.cell? ⟨g, 0, none⟩ = some (.int .i64 n) := h.at_ 0
theorem EBox.set (h : EBox w g n) (m : Int) : EBox (w.setCell ⟨g, 0, none⟩ (.int .i64 m)) g m := heap_setCell_same w g 0 _ _ (.int .i64 m) h
theorem EBox.other (h : EBox w g n) {row : Option Nat} (hg : w.grownBy w' row) (hr : row ≠ some g) : EBox w' g n := (hg.block g h.lt (fun e => hr e.symm)).trans h
theorem PBox.other (h : PBox w g p) {row : Option Nat} (hg : w.grownBy w' row) (hr : row ≠ some g) : PBox w' g p := (hg.block g h.lt (fun e => hr e.symm)).trans h
theorem EBox.u8_no (h : EBox w g n) {k : Nat} {m : Int} (hc : w.cell? ⟨g, k, none⟩ = some (.int .u8 m)) : False := by
  rw [h.at_ k] at hc
  match k, hc with
  | 0, hc => simp at hc
  | k + 1, hc => simp at hc
theorem EBox.opt_no (h : EBox w g n) {k : Nat} {a : Option Addr} {l c : Nat} (h1 : w.cell? ⟨g, k + 1, none⟩ = some (.slice a l c)) : False := by
  rw [h.at_ (k + 1)] at h1
  simp at h1
/-- Bytes stay where only a box turns. -/
theorem By.offP {A : Option Addr} {l : List UInt8} (h : By w B A l) (hb : PBox w g p) (hg : w.grownBy w' (some g)) (hB : B ≤ w.heap.size) : By w' B A l := by
  refine ⟨fun i x hx => ?_⟩
  obtain ⟨b, o, rfl, hlt, hc⟩ := h.at_ i x hx
  exact ⟨b, o, rfl, hlt, (World.cell?_of_block (hg.block b (by omega) (fun e => by injection e with e; subst e; exact hb.u8_no hc))).trans hc⟩
theorem By.offE {A : Option Addr} {l : List UInt8} (h : By w B A l) (hb : EBox w g n) (hg : w.grownBy w' (some g)) (hB : B ≤ w.heap.size) : By w' B A l := by
  refine ⟨fun i x hx => ?_⟩
  obtain ⟨b, o, rfl, hlt, hc⟩ := h.at_ i x hx
  exact ⟨b, o, rfl, hlt, (World.cell?_of_block (hg.block b (by omega) (fun e => by injection e with e; subst e; exact hb.u8_no hc))).trans hc⟩
theorem Op.offP {A : Option Addr} {l : List OptV} (h : Op w B A l) (hb : PBox w g p) (hg : w.grownBy w' (some g)) (hB : B ≤ w.heap.size) : Op w' B A l := by
  refine ⟨fun i x hx => ?_, fun x hx => (h.data x hx).offP hb hg hB⟩
  obtain ⟨b, o, rfl, hlt, h1, h2⟩ := h.at_ i x hx
  have hk := hg.block b (by omega) (fun e => by injection e with e; subst e; exact hb.opt_no h1 h2)
  exact ⟨b, o, rfl, hlt, (World.cell?_of_block hk).trans h1, (World.cell?_of_block hk).trans h2⟩
theorem Op.offE {A : Option Addr} {l : List OptV} (h : Op w B A l) (hb : EBox w g n) (hg : w.grownBy w' (some g)) (hB : B ≤ w.heap.size) : Op w' B A l := by
  refine ⟨fun i x hx => ?_, fun x hx => (h.data x hx).offE hb hg hB⟩
  obtain ⟨b, o, rfl, hlt, h1, h2⟩ := h.at_ i x hx
  have hk := hg.block b (by omega) (fun e => by injection e with e; subst e; exact hb.opt_no h2)
  exact ⟨b, o, rfl, hlt, (World.cell?_of_block hk).trans h1, (World.cell?_of_block hk).trans h2⟩
theorem Pk.offP {q : PktV} (h : Pk w w.heap.size q) (hb : PBox w g p) (hg : w.grownBy w' (some g)) : Pk w' w'.heap.size q :=
  Pk.more ⟨h.hw.offP hb hg (Nat.le_refl _), h.opt.offP hb hg (Nat.le_refl _)⟩ hg.size
theorem Pk.offE {q : PktV} (h : Pk w w.heap.size q) (hb : EBox w g n) (hg : w.grownBy w' (some g)) : Pk w' w'.heap.size q :=
  Pk.more ⟨h.hw.offE hb hg (Nat.le_refl _), h.opt.offE hb hg (Nat.le_refl _)⟩ hg.size
end

set_option maxRecDepth 100000 in
set_option maxHeartbeats 1000000 in
theorem catch_panicking (gp ge : Nat) (p : PktV) (n : Int) (w : World) (hp : PBox w gp p) (he : EBox w ge n) (hne : gp ≠ ge) :
    CallsD Try.prog 31 #[.pointer (some ⟨gp, 0, none⟩), .pointer (some ⟨ge, 0, none⟩)] (.panicking endP) w fun e u' w' =>
      e = .returned (.tuple #[]) ∧ u' = .panicking [{ v := endV, recovered := true }] ∧ w' = (storeP w gp zeroP).setCell ⟨ge, 0, none⟩ (.int .i64 2) := by
  obtain ⟨r0, r1, r2, r3, r4, r5, r6, r7, r8, r9⟩ := hp.all
  have e0 := he.c0
  have fe := frozen_of_row w ge 0 _ _ he
  have f0 := frozen_of_row w gp 0 _ _ hp
  have f1 := frozen_of_row w gp 1 _ _ hp
  have f2 := frozen_of_row w gp 2 _ _ hp
  have f3 := frozen_of_row w gp 3 _ _ hp
  have f4 := frozen_of_row w gp 4 _ _ hp
  have f5 := frozen_of_row w gp 5 _ _ hp
  have f6 := frozen_of_row w gp 6 _ _ hp
  have f7 := frozen_of_row w gp 7 _ _ hp
  have f8 := frozen_of_row w gp 8 _ _ hp
  have f9 := frozen_of_row w gp 9 _ _ hp
  have hne2 : ge ≠ gp := hne.symm
  clear hp he
  refine callsD_of_wpS Try.func31 rfl fun c₀ cs hu => ?_
  apply wpS_seq
  apply wpS_region
  simp [wpOpsS, go_sem, recoverD, hu, Try.ntmps31, Exit.thenS, endV]
  refine wpS_cond (t := true) (by simp [Act.eval, Array.replicate]) ?_
  simp only [if_true]
  refine wpS_of_wp ?_
  go_wp2
  simp [bodyPostS, results, Try.results31, storeP, zeroP]

theorem catch_idle (gp ge : Nat) (w : World) :
    CallsD Try.prog 31 #[.pointer (some ⟨gp, 0, none⟩), .pointer (some ⟨ge, 0, none⟩)] .returning w fun e u' w' => e = .returned (.tuple #[]) ∧ u' = .returning ∧ w' = w := by
  refine callsD_of_wpS Try.func31 rfl fun c₀ cs hu => ?_
  apply wpS_seq
  apply wpS_region
  simp [wpOpsS, go_sem, recoverD, hu, Try.ntmps31, Exit.thenS]
  refine wpS_cond (t := false) (by simp [Act.eval, Array.replicate]) ?_
  simp only [Bool.false_eq_true, if_false]
  refine wpS_of_wp (wp_skip ?_)
  cases c₀
  simp_all [bodyPostS, results, Try.results31]
end Go.Proofs.Ytmlckjccgdmknaa
