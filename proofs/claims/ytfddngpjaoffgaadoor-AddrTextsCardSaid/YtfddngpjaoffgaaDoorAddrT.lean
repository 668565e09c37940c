/- addr.Text: a walk over the contracts of strconv.Itoa and strings.Join. -/
import Derived.Test.YtfddngpjaoffgaaDoorAddrJ
import Derived.Test.YtfddngpjaoffgaaDoorShelfT
import Derived.Shelf.Strings.OnBuilder
import Derived.Shelf.Strconv.Itoa3
import Derived.Lib.SmallJoins
import Derived.Laws.BitsAllLaws
namespace Go.Proofs.YtfddngpjaoffgaaDoor
open Go.RowKit Go.Lib Go.Shelf Go.Sort

/-- The library's table of powers is as its text lays it. -/
def Tab (w : World) : Prop := Lib.TabIs Tryd.prog w "internal/strconv.uint64pow10" .u64 Lib.pow10Tab

theorem Tab.below {w w' : World} {B : Nat} (h : Tab w) (hb : RowKit.Below B w w') (hB : w.heap.size ≤ B) : Tab w' := Joins.var_stays (g := 3) (by kernel_rfl) h hb hB

/-- A number below 256 as text. -/
def itoaS (n : Nat) : ByteArray := ⟨(Lib.itoa (n : Int)).toArray⟩

theorem below_grow (w : World) (q : Nat) (os : Array Obj) : RowKit.Below w.heap.size w (grow (w.drewN q) os) := by
  refine ⟨rfl, rfl, rfl, ?_, fun j hj => ?_⟩
  · show w.heap.size ≤ (w.heap ++ os).size
    simp
  · show (w.heap ++ os)[j]? = _
    rw [Array.getElem?_append_left hj]

theorem itoa_any (n : Int) (h0 : 0 ≤ n) (hn : n < 256) (w : World) (hT : Tab w) : Calls Tryd.prog 24 #[.int .i64 n] w fun e w' => e = .returned (.string (itoaS n.toNat)) ∧ RowKit.Below w.heap.size w w' :=
  (Any.strconv_Itoa Tryd.laysM171 n (by omega) (by omega) w hT).mono fun _ _ ⟨he, q, os, hw⟩ => ⟨by rw [he]; unfold itoaS; rw [Int.toNat_of_nonneg h0], by rw [hw]; exact below_grow _ _ _⟩

theorem byte_of (a d : Nat) (ha : a < 4294967296) : wrap64 (bits BinOp.and IntKind.u32 ((a / d : Nat) : Int) 255) = ((a / d % 256 : Nat) : Int) := by
  have h1 : a / d ≤ a := Nat.div_le_self a d
  have := u32_and_nat (a / d) 255 (by omega) (by omega)
  rw [show ((255 : Nat) : Int) = 255 from rfl] at this
  rw [this, show (255 : Nat) = 2 ^ 8 - 1 from rfl, Nat.and_two_pow_sub_one_eq_mod, show (2 : Nat) ^ 8 = 256 from rfl]
  exact IntWalk.wrap64_in _ (by omega)

/-- The four parts. -/
def dv : Nat → Nat
  | 0 => 16777216
  | 1 => 65536
  | 2 => 256
  | _ => 1
def partS (a : Nat) (j : Nat) : ByteArray := itoaS (a / dv j % 256)
theorem part0 (a : Nat) : itoaS (((a : Int) / 16777216 % 256).toNat) = partS a 0 := by
  rw [show ((a : Int) / 16777216 % 256).toNat = a / 16777216 % 256 by omega]; simp only [partS, dv]
theorem part1 (a : Nat) : itoaS (((a : Int) / 65536 % 256).toNat) = partS a 1 := by
  rw [show ((a : Int) / 65536 % 256).toNat = a / 65536 % 256 by omega]; simp only [partS, dv]
theorem part2 (a : Nat) : itoaS (((a : Int) / 256 % 256).toNat) = partS a 2 := by
  rw [show ((a : Int) / 256 % 256).toNat = a / 256 % 256 by omega]; simp only [partS, dv]
theorem part3 (a : Nat) : itoaS (((a : Int) % 256).toNat) = partS a 3 := by
  rw [show ((a : Int) % 256).toNat = a % 256 by omega]; simp only [partS, dv, Nat.div_one]
def partV (a k j : Nat) : Value := if j < k then .string (partS a j) else .string ⟨#[]⟩
def partsA (a k : Nat) : Array Value := #[partV a k 0, partV a k 1, partV a k 2, partV a k 3]

/-- An address's text. -/
def textL (a : Nat) : List UInt8 := Lib.join [(partS a 0).data.toList, (partS a 1).data.toList, (partS a 2).data.toList, (partS a 3).data.toList] [46]
def textS (a : Nat) : ByteArray := ⟨(textL a).toArray⟩

theorem frozen_of_obj {w : World} {g : Nat} {cs : Array Value} {t : TypeId} (h : w.heap[g]? = some (.cells cs t (0, 0))) (i : Nat) : w.frozen? ⟨g, i, none⟩ = false := by simp [World.frozen?, h]
theorem cell_obj {w : World} {g : Nat} {cs : Array Value} {t : TypeId} (h : w.heap[g]? = some (.cells cs t (0, 0))) (i : Nat) : w.cell? ⟨g, i, none⟩ = cs[i]? := by simp [World.cell?, h]

theorem parts_next (a k : Nat) (hk : k < 4) : (partsA a k).setIfInBounds k (.string (partS a k)) = partsA a (k + 1) := by
  rcases (show k = 0 ∨ k = 1 ∨ k = 2 ∨ k = 3 by omega) with rfl | rfl | rfl | rfl <;> simp [partsA, partV]

theorem parts_cell (a k : Nat) (hk : k < 4) : (partsA a k)[k]? = some (.string ⟨#[]⟩) := by
  rcases (show k = 0 ∨ k = 1 ∨ k = 2 ∨ k = 3 by omega) with rfl | rfl | rfl | rfl <;> simp [partsA, partV]

/-- One part more. -/
theorem parts_step {w1 : World} {g a k : Nat} {t : TypeId} {s : ByteArray} (hk : k < 4) (h : w1.heap[g]? = some (.cells (partsA a k) t (0, 0))) (hs : s = partS a k) : (w1.setCell ⟨g, k, none⟩ (.string s)).heap[g]? = some (.cells (partsA a (k + 1)) t (0, 0)) := by
  rw [heap_setCell_same w1 g k _ t _ h, hs, parts_next a k hk]

theorem itoa_length (n : Nat) (hn : n < 256) : (itoaS n).data.toList.length ≤ 3 := by
  have h : ∀ m : Fin 256, (itoaS m.val).data.toList.length ≤ 3 := by decide +kernel
  exact h ⟨n, hn⟩

theorem part_length (a j : Nat) : (partS a j).data.toList.length ≤ 3 := itoa_length _ (Nat.mod_lt _ (by decide))

theorem textL_eq (a : Nat) : textL a = (partS a 0).data.toList ++ 46 :: ((partS a 1).data.toList ++ 46 :: ((partS a 2).data.toList ++ 46 :: (partS a 3).data.toList)) := by
  unfold textL
  rw [Lib.join_cons]
  simp [Lib.joinTail]

theorem textL_length (a : Nat) : (textL a).length ≤ 15 := by
  rw [textL_eq]
  have h0 := part_length a 0
  have h1 := part_length a 1
  have h2 := part_length a 2
  have h3 := part_length a 3
  simp only [List.length_append, List.length_cons]
  omega

theorem join_any (a : Nat) (w : World) (g : Nat) (h : w.heap[g]? = some (.cells (partsA a 4) 50 (0, 0))) :
    Calls Tryd.prog 25 #[.slice (some ⟨g, 0, none⟩) 4 4, .string ⟨#[46]⟩] w fun e w' => e = .returned (.string (textS a)) ∧ RowKit.Below w.heap.size w w' := by
  have hcon := Any.strings_Join Tryd.lays156 Tryd.extra156 g 0 4 [partS a 0, partS a 1, partS a 2, partS a 3] ⟨#[46]⟩ w ?_ (Array.getElem?_eq_some_iff.1 h).1 (by simp) (by simp) ?_
  · exact hcon
  · intro j x hx
    rw [cell_obj h]
    match j, hx with
    | 0, hx => simp at hx; subst hx; simp [partsA, partV]
    | 1, hx => simp at hx; subst hx; simp [partsA, partV]
    | 2, hx => simp at hx; subst hx; simp [partsA, partV]
    | 3, hx => simp at hx; subst hx; simp [partsA, partV]
  · have := textL_length a
    unfold textL at this
    simp only [List.map_cons, List.map_nil]
    exact Nat.le_trans this (by decide)

set_option maxRecDepth 100000 in
set_option maxHeartbeats 1000000 in
theorem text_any (a : Nat) (ha : a < 4294967296) (w : World) (hT : Tab w) :
    Calls Tryd.prog 11 #[.int .u32 a] w fun e w' => e = .returned (.string (textS a)) ∧ RowKit.Below w.heap.size w w' := by
  have q0 := byte_of a 16777216 ha
  have q1 := byte_of a 65536 ha
  have q2 := byte_of a 256 ha
  have q3 := byte_of a 1 ha
  simp at q0 q1 q2 q3
  have HT := Lib.hid hT
  clear hT
  go_enter Tryd.func11, Tryd.ntmps11
  go_wp2
  go_loopw [5] (fun i wr => ∃ k : Nat, k ≤ 4 ∧ i = .int .i64 k ∧ wr.heap[w.heap.size]? = some (.cells (partsA a k) 50 (0, 0)) ∧ RowKit.Below w.heap.size w wr) (fun i _ => 4 - (RowKit.intOf i).toNat)
  case atStart => exact ⟨0, by omega, rfl, World.alloc_heap_new w _, (RowKit.Below.refl _ _).alloc (Nat.le_refl _) _⟩
  case round =>
    obtain ⟨k, hk, rfl, hbk, hB⟩ := hrel
    have hTw : Tab wr := HT.out.below hB (Nat.le_refl _)
    have HTw := Lib.hid hTw
    have HB := Lib.hid hbk
    have hlt : w.heap.size < wr.heap.size := (Array.getElem?_eq_some_iff.1 hbk).1
    clear hTw hbk
    rcases (show k = 0 ∨ k = 1 ∨ k = 2 ∨ k = 3 ∨ k = 4 by omega) with rfl | rfl | rfl | rfl | rfl
    · go_wp2_with fail
      refine (itoa_any _ (Int.emod_nonneg _ (by decide)) (Int.emod_lt_of_pos _ (by decide)) wr HTw.out).mono ?_
      rintro e w1 ⟨rfl, hB1⟩
      have hb1 := (hB1.block w.heap.size hlt).trans HB.out
      have hc1 := (cell_obj hb1 0).trans (parts_cell a 0 (by omega))
      have hf1 := frozen_of_obj hb1 0
      have HB1 := Lib.hid hb1
      clear hb1
      obtain ⟨s, hs⟩ : ∃ s, itoaS (((a : Int) / 16777216 % 256).toNat) = s := ⟨_, rfl⟩
      rw [hs]
      have HS := Lib.hid hs
      clear hs
      go_wp2
      go_roundw
      case rel => exact ⟨1, by omega, rfl, parts_step (by omega) HB1.out (by rw [← HS.out]; exact part0 a), (hB.trans (hB1.mono hB.size)).setCell (p := ⟨w.heap.size, 0, none⟩) (Nat.le_refl _) _⟩
      case measure => simp [RowKit.intOf]
    · go_wp2_with fail
      refine (itoa_any _ (Int.emod_nonneg _ (by decide)) (Int.emod_lt_of_pos _ (by decide)) wr HTw.out).mono ?_
      rintro e w1 ⟨rfl, hB1⟩
      have hb1 := (hB1.block w.heap.size hlt).trans HB.out
      have hc1 := (cell_obj hb1 1).trans (parts_cell a 1 (by omega))
      have hf1 := frozen_of_obj hb1 1
      have HB1 := Lib.hid hb1
      clear hb1
      obtain ⟨s, hs⟩ : ∃ s, itoaS (((a : Int) / 65536 % 256).toNat) = s := ⟨_, rfl⟩
      rw [hs]
      have HS := Lib.hid hs
      clear hs
      go_wp2
      go_roundw
      case rel => exact ⟨2, by omega, rfl, parts_step (by omega) HB1.out (by rw [← HS.out]; exact part1 a), (hB.trans (hB1.mono hB.size)).setCell (p := ⟨w.heap.size, 1, none⟩) (Nat.le_refl _) _⟩
      case measure => simp [RowKit.intOf]
    · go_wp2_with fail
      refine (itoa_any _ (Int.emod_nonneg _ (by decide)) (Int.emod_lt_of_pos _ (by decide)) wr HTw.out).mono ?_
      rintro e w1 ⟨rfl, hB1⟩
      have hb1 := (hB1.block w.heap.size hlt).trans HB.out
      have hc1 := (cell_obj hb1 2).trans (parts_cell a 2 (by omega))
      have hf1 := frozen_of_obj hb1 2
      have HB1 := Lib.hid hb1
      clear hb1
      obtain ⟨s, hs⟩ : ∃ s, itoaS (((a : Int) / 256 % 256).toNat) = s := ⟨_, rfl⟩
      rw [hs]
      have HS := Lib.hid hs
      clear hs
      go_wp2
      go_roundw
      case rel => exact ⟨3, by omega, rfl, parts_step (by omega) HB1.out (by rw [← HS.out]; exact part2 a), (hB.trans (hB1.mono hB.size)).setCell (p := ⟨w.heap.size, 2, none⟩) (Nat.le_refl _) _⟩
      case measure => simp [RowKit.intOf]
    · go_wp2_with fail
      refine (itoa_any _ (Int.emod_nonneg _ (by decide)) (Int.emod_lt_of_pos _ (by decide)) wr HTw.out).mono ?_
      rintro e w1 ⟨rfl, hB1⟩
      have hb1 := (hB1.block w.heap.size hlt).trans HB.out
      have hc1 := (cell_obj hb1 3).trans (parts_cell a 3 (by omega))
      have hf1 := frozen_of_obj hb1 3
      have HB1 := Lib.hid hb1
      clear hb1
      obtain ⟨s, hs⟩ : ∃ s, itoaS (((a : Int) % 256).toNat) = s := ⟨_, rfl⟩
      rw [hs]
      have HS := Lib.hid hs
      clear hs
      go_wp2
      go_roundw
      case rel => exact ⟨4, by omega, rfl, parts_step (by omega) HB1.out (by rw [← HS.out]; exact part3 a), (hB.trans (hB1.mono hB.size)).setCell (p := ⟨w.heap.size, 3, none⟩) (Nat.le_refl _) _⟩
      case measure => simp [RowKit.intOf]
    · go_wp2_with fail
      refine (join_any a wr w.heap.size HB.out).mono ?_
      rintro e w1 ⟨rfl, hB1⟩
      go_wp2
      go_ret
      exact ⟨rfl, hB.trans (hB1.mono hB.size)⟩
end Go.Proofs.YtfddngpjaoffgaaDoor
