/- The reader: take and number. -/
import Derived.Test.YtmlckjccgdmknaaPktP
import Derived.Test.YtmlckjccgdmknaaPktK
namespace Go.Proofs.Ytmlckjccgdmknaa
open Go.RowKit

/-- What a panic of the reader's bears. -/
def endV : Value := .iface 9 (.string ⟨#[116, 104, 101, 32, 98, 121, 116, 101, 115, 32, 101, 110, 100, 32, 104, 101, 114, 101]⟩)
abbrev endP : List PanicEntry := [{ v := endV, recovered := false }]

/-- Block g is a reader of the bytes l, which lie below block B. -/
def Rd (w : World) (g B : Nat) (l : List UInt8) : Prop :=
  ∃ A c, w.heap[g]? = some (.cells #[.slice A l.length c] 53 (0, 0)) ∧ By w B A l ∧ l.length ≤ c ∧ B ≤ g

section
variable {w w' : World} {g B : Nat} {l : List UInt8}
theorem Rd.lt (h : Rd w g B l) : g < w.heap.size := by
  obtain ⟨A, c, h1, _⟩ := h
  exact (Array.getElem?_eq_some_iff.1 h1).1
theorem By.other {A : Option Addr} (h : By w B A l) {h' : Nat} (hg : w.grownBy w' (some h')) (hh : B ≤ h') (hB : B ≤ w.heap.size) : By w' B A l :=
  h.keep fun p hp => World.cell?_of_block (hg.block p.block (by omega) (fun e => by injection e with e; omega))
theorem Rd.other (h : Rd w g B l) {row : Option Nat} (hg : w.grownBy w' row) (hr : ∀ k, row = some k → B ≤ k ∧ k ≠ g) : Rd w' g B l := by
  have hlt := h.lt
  obtain ⟨A, c, h1, h2, h3, h4⟩ := h
  refine ⟨A, c, (hg.block g hlt (fun e => (hr g e.symm).2 rfl)).trans h1, ?_, h3, h4⟩
  exact h2.keep fun p hp => World.cell?_of_block (hg.block p.block (by omega) (fun e => by have := (hr p.block e.symm).1; omega))
theorem Rd.alloc (h : Rd w g B l) (o : Obj) : Rd (w.alloc o) g B l :=
  h.other (grownBy_of_below ((Below.refl _ _).alloc (Nat.le_refl _) o)) (fun k e => by cases e)
end

theorem run_headB (A : Option Addr) (n c : Nat) (hi : Int) (h1 : 0 ≤ hi) (h2 : hi ≤ c) (W : World) :
    (Instr.slice 24 (.slice A n c) none (some (.int .i64 hi)) none).run Try.prog W = .ok (.slice A hi.toNat c) W := by
  obtain ⟨i, hi', hz0, hz1, hz2⟩ := info_parts Try.infoB
  have c1 : 0 ≤ hi ∧ hi ≤ (c : Int) := ⟨h1, h2⟩
  cases A with
  | none => simp [Instr.slice, run_underlying Try.underlying24, Instr.sliceBounds, Instr.sliceBound, asIntOf, if_pos c1, sizeOf, typeInfo, hi']
  | some a => simp [Instr.slice, run_underlying Try.underlying24, Instr.sliceBounds, Instr.sliceBound, asIntOf, if_pos c1, sizeOf, typeInfo, hi', Addr.add]
-- M0
theorem run_tailB (A : Option Addr) (n c : Nat) (lo : Int) (h0 : 0 ≤ lo) (h1 : lo ≤ n) (W : World) :
    (Instr.slice 24 (.slice A n c) (some (.int .i64 lo)) none none).run Try.prog W = .ok (.slice (if c = lo.toNat then A else A.map (·.add lo.toNat)) (n - lo.toNat) (c - lo.toNat)) W := by
  obtain ⟨i, hi', hz0, hz1, hz2⟩ := info_parts Try.infoB
  have c2 : 0 ≤ lo ∧ lo ≤ (n : Int) := ⟨h0, h1⟩
  cases A with
  | none => simp [Instr.slice, run_underlying Try.underlying24, Instr.sliceBounds, Instr.sliceBound, asIntOf, if_pos c2, sizeOf, typeInfo, hi']
  | some a => simp [Instr.slice, run_underlying Try.underlying24, Instr.sliceBounds, Instr.sliceBound, asIntOf, if_pos c2, sizeOf, typeInfo, hi', hz1]
-- M1

set_option maxRecDepth 100000 in
set_option maxHeartbeats 400000 in
theorem take_end (g B : Nat) (l : List UInt8) (n : Nat) (w : World) (h : Rd w g B l) (hl : l.length < n) :
    Calls Try.prog 45 #[.pointer (some ⟨g, 0, none⟩), .int .i64 (n : Int)] w fun e w' => e = .panicked endP ∧ w = w' := by
  obtain ⟨A, c, hh, _, _, _⟩ := h
  have hc := cell_of_row w g 0 _ _ _ hh
  simp at hc
  clear hh
  go_enter Try.func45, Try.ntmps45
  go_wp2
  exact ⟨rfl, rfl, rfl⟩

set_option maxRecDepth 100000 in
set_option maxHeartbeats 400000 in
theorem take_ok (g B : Nat) (l : List UInt8) (n : Nat) (w : World) (h : Rd w g B l) (hl : n ≤ l.length) :
    Calls Try.prog 45 #[.pointer (some ⟨g, 0, none⟩), .int .i64 (n : Int)] w fun e w' => ∃ A c, e = .returned (.slice A n c) ∧ By w' B A (l.take n) ∧ n ≤ c ∧ Rd w' g B (l.drop n) ∧ w.grownBy w' (some g) := by
  obtain ⟨A, c, hh, hby, hcl, hBg⟩ := h
  have hc := cell_of_row w g 0 _ _ _ hh
  have hf := frozen_of_row w g 0 _ _ hh
  simp at hc
  have hs1 := run_headB A l.length c (n : Int) (by omega) (by omega)
  have hs2 := run_tailB A l.length c (n : Int) (by omega) (by omega)
  simp only [Int.toNat_natCast] at hs1 hs2
  obtain ⟨A2, hA2⟩ : ∃ A2, A2 = if c = n then A else A.map (·.add n) := ⟨_, rfl⟩
  rw [← hA2] at hs2
  have HA := Lib.hid hA2
  have HH := Lib.hid hh
  have HBY := Lib.hid hby
  clear hh hby hA2
  go_enter Try.func45, Try.ntmps45
  go_wp2
  go_ret
  have hlt := (Array.getElem?_eq_some_iff.1 HH.out).1
  have hg := grownBy_cell w ⟨g, 0, none⟩ (.slice A2 (l.length - n) (c - n))
  have hnew := heap_setCell_same w g 0 _ _ (.slice A2 (l.length - n) (c - n)) HH.out
  refine ⟨A, c, rfl, (HBY.out.other hg hBg (by omega)).take n, by omega, ⟨A2, c - n, ?_, ?_, by rw [List.length_drop]; omega, hBg⟩, hg⟩
  · rw [List.length_drop]; simpa using hnew
  · have hcut := HBY.out.cut hl hcl
    rw [← HA.out] at hcut
    exact hcut.other hg hBg (by omega)

set_option maxRecDepth 100000 in
set_option maxHeartbeats 400000 in
theorem num_end (g B : Nat) (l : List UInt8) (n : Nat) (w : World) (h : Rd w g B l) (hl : l.length < n) :
    Calls Try.prog 44 #[.pointer (some ⟨g, 0, none⟩), .int .i64 (n : Int)] w fun e w' => e = .panicked endP ∧ w = w' := by
  have HT := Lib.hid (take_end g B l n w h hl)
  clear h hl
  go_enter Try.func44, Try.ntmps44
  go_wp2_with fail
  refine HT.out.mono ?_
  rintro e w' ⟨rfl, rfl⟩
  exact ⟨rfl, rfl, rfl⟩

set_option maxRecDepth 100000 in
set_option maxHeartbeats 400000 in
theorem num_ok (g B : Nat) (l : List UInt8) (n : Nat) (hs : sizedB (n : Int) = true) (w : World) (h : Rd w g B l) (hl : n ≤ l.length) :
    Calls Try.prog 44 #[.pointer (some ⟨g, 0, none⟩), .int .i64 (n : Int)] w fun e w' => e = .returned (.int .i64 ((numL (l.take n) : Nat) : Int)) ∧ Rd w' g B (l.drop n) ∧ w.grownBy w' (some g) := by
  have HT := Lib.hid (take_ok g B l n w h hl)
  have hlt := h.lt
  have hBg : B ≤ g := by obtain ⟨_, _, _, _, _, h4⟩ := h; exact h4
  have hlen : (l.take n).length = n := by rw [List.length_take]; omega
  have HR := Lib.hid (show numR (l.take n) = (((numL (l.take n) : Nat) : Int), 0) by unfold numR; rw [hlen, hs]; rfl)
  have hn4 : n ≤ 4 := by simp [sizedB] at hs; omega
  have HN := Lib.hid (fun A c W (h : By W W.heap.size A (l.take n)) => number_any A c (l.take n) W h (by omega))
  rw [HR.out, hlen] at HN
  clear h hl hs hlen
  go_enter Try.func44, Try.ntmps44
  go_wp2_with fail
  refine HT.out.mono ?_
  rintro e w1 ⟨A, c, rfl, hby, _, hrd, hg⟩
  have hby1 := hby.more (B' := w1.heap.size) (by have := hg.size; omega)
  go_wp2_with fail
  refine (HN.out A c w1 hby1).mono ?_
  rintro e w' ⟨rfl, rfl⟩
  go_wp2
  go_ret
  exact ⟨rfl, hrd, hg⟩
-- M2
end Go.Proofs.Ytmlckjccgdmknaa
