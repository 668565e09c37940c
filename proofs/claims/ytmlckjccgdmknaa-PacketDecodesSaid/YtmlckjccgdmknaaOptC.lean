/- slices.Clone at bytes, and option.owned. -/
import Derived.Test.YtmlckjccgdmknaaRefE
namespace Go.Proofs.Ytmlckjccgdmknaa
open Go.RowKit

/-- The value v reads as the bytes l, in a row of its own from block lo on. -/
abbrev Own8 (w : World) (lo : Nat) (v : Value) (l : List UInt8) : Prop := w.ownsRow lo 5 1 v l.length (bcells l)

set_option maxRecDepth 100000 in
set_option maxHeartbeats 1000000 in
theorem clone_any (A : Option Addr) (c : Nat) (l : List UInt8) (w : World) (h : By w w.heap.size A l) (hl : l.length ≤ 140737488355328) :
    Calls Try.prog 46 #[.slice A l.length c] w fun e w' => ∃ A' c', e = .returned (.slice A' l.length c') ∧ Own8 w' w.heap.size (.slice A' l.length c') l ∧ Below w.heap.size w w' := by
  cases A with
  | none =>
    obtain rfl := h.none_
    have hq : ∀ W, (binOp .eql 24 (.slice none 0 c) (.slice none 0 0)).run Try.prog W = .ok (.bool true) W := fun W => Lib.run_eql_slice_nil W 24 5 none 0 c 0 0 Try.underlying24
    rw [List.length_nil]
    go_enter Try.func46, Try.ntmps46
    go_wp2
    go_ret
    exact ⟨none, 0, rfl, ⟨rfl, .inl ⟨rfl, rfl⟩⟩, Below.refl _ _⟩
  | some ad =>
    have hq : ∀ W, (binOp .eql 24 (.slice (some ad) l.length c) (.slice none 0 0)).run Try.prog W = .ok (.bool false) W := fun W => Lib.run_eql_slice_nil W 24 5 (some ad) l.length c 0 0 Try.underlying24
    have hownW : (w.alloc (.cells #[] 5)).ownsRow w.heap.size 5 1 (.slice (some ⟨w.heap.size, 0, none⟩) 0 0) 0 (bcells []) := World.ownsRow_made w #[] 0 (Nat.le_refl _) (Nat.zero_le _) rfl
    have hBW : Below w.heap.size w (w.alloc (.cells #[] 5)) := (Below.refl _ _).alloc (Nat.le_refl _) _
    have hby := h.below hBW
    go_enter Try.func46, Try.ntmps46
    go_wp2_with (at_builtin; refine wpList_appB rfl (.tmp 5) (.tmp 6) rfl w.heap.size _ _ _ rfl hownW _ _ l _ rfl hby (by omega) hBW.size ?_; intro v1 w1 hown1 hg1 _)
    go_ret
    rw [Nat.zero_add] at hown1
    obtain ⟨A', c', rfl, _⟩ := own_form hown1
    exact ⟨A', c', rfl, hown1, own_below hBW hBW.size hownW hg1⟩

theorem grownBy_cell (w : World) (p : Addr) (u : Value) : w.grownBy (w.setCell p u) (some p.block) :=
  ⟨rfl, rfl, rfl, by simp [World.setCell], fun k _ hk => heap_setCell_other w p k u (fun e => hk (by rw [e]))⟩
theorem own_ne {w : World} {base : Nat} {e : TypeId} {size n : Nat} {v : Value} {xs : List Value} (h : w.ownsRow base e size v n xs) {g : Nat} (hg : g < base) : v.ownBlock = none ∨ v.ownBlock ≠ some g :=
  .inr fun e => by have := (h.lt g e).1; omega
theorem own_lower {w : World} {base lo : Nat} {e : TypeId} {size n : Nat} {v : Value} {xs : List Value} (h : w.ownsRow base e size v n xs) (hl : lo ≤ base) : w.ownsRow lo e size v n xs := by
  refine ⟨h.1, ?_⟩
  rcases h.2 with h | ⟨g, cap, cur, h1, h2, h3⟩
  · exact .inl h
  · exact .inr ⟨g, cap, cur, h1, Nat.le_trans hl h2, h3⟩

set_option maxRecDepth 100000 in
set_option maxHeartbeats 1000000 in
theorem owned_any (x : OptV) (w : World) (h : By w w.heap.size x.ad x.data) (hl : x.data.length ≤ 140737488355328) :
    Calls Try.prog 56 #[x.v] w fun e w' => ∃ A' c', e = .returned (.agg #[.int .i64 x.code, .slice A' x.data.length c']) ∧ Own8 w' w.heap.size (.slice A' x.data.length c') x.data ∧ Below w.heap.size w w' := by
  obtain ⟨W, hW⟩ : ∃ W, W = (w.alloc (obox x)).alloc (.cells #[.int .i64 0, .slice none 0 0] 47) := ⟨_, rfl⟩
  have hBW : Below w.heap.size w W := by rw [hW]; exact ((Below.refl _ _).alloc (Nat.le_refl _) _).alloc (by simp) _
  have hc0 : W.cell? ⟨w.heap.size, 0, none⟩ = some (.int .i64 x.code) := by rw [hW]; simp
  have hc1 : W.cell? ⟨w.heap.size, 1, none⟩ = some (.slice x.ad x.data.length x.cap) := by rw [hW]; simp
  have hr0 : W.cell? ⟨w.heap.size + 1, 0, none⟩ = some (.int .i64 0) := by rw [hW]; simp
  have hr1 : W.cell? ⟨w.heap.size + 1, 1, none⟩ = some (.slice none 0 0) := by rw [hW]; simp
  have hrf : W.heap[w.heap.size + 1]? = some (.cells #[.int .i64 0, .slice none 0 0] 47 (0, 0)) := by rw [hW]; have := heap_alloc_new (w.alloc (obox x)) (.cells #[.int .i64 0, .slice none 0 0] 47); simpa using this
  have hz : W.heap.size = w.heap.size + 1 + 1 := by rw [hW]; simp
  have HC := Lib.hid (clone_any x.ad x.cap x.data W.drew (h.later hBW).drew hl)
  have HW := Lib.hid hW
  have HZ := Lib.hid hz
  clear hW hz
  go_enter Try.func56, Try.ntmps56
  go_wp2
  rw [← HW.out]
  go_region_held3 (fun w' => w'.cell? ⟨w.heap.size, 0, none⟩ = some (.int .i64 x.code) ∧ w'.cell? ⟨w.heap.size, 1, none⟩ = some (.slice x.ad x.data.length x.cap))
    (first | go_keep | exact ⟨(hB1.cell (p := ⟨w.heap.size, 0, none⟩) (by have := HZ.out; simp; omega)).trans hc0, (hB1.cell (p := ⟨w.heap.size, 1, none⟩) (by have := HZ.out; simp; omega)).trans hc1⟩)
    ((go_at_call 46; refine HC.out.mono ?_; rintro e w1 ⟨A', c', rfl, hown1, hB1⟩; have hk1 := (hB1.block (w.heap.size + 1) (by have := HZ.out; simp; omega)).trans hrf; have d0 := cell_of_row w1 (w.heap.size + 1) 0 _ _ _ hk1; have d1 := cell_of_row w1 (w.heap.size + 1) 1 _ _ _ hk1; have f0 := frozen_of_row w1 (w.heap.size + 1) 0 _ _ hk1; have f1 := frozen_of_row w1 (w.heap.size + 1) 1 _ _ hk1; simp at d0 d1))
  go_wp2
  have hz := HZ.out
  have k1 := heap_setCell_same w1 (w.heap.size + 1) 0 _ _ (.int .i64 x.code) hk1
  have k2 := heap_setCell_same _ (w.heap.size + 1) 1 _ _ (.slice A' x.data.length c') k1
  have g1 := grownBy_cell w1 ⟨w.heap.size + 1, 0, none⟩ (.int .i64 x.code)
  have g2 := grownBy_cell (w1.setCell ⟨w.heap.size + 1, 0, none⟩ (.int .i64 x.code)) ⟨w.heap.size + 1, 1, none⟩ (.slice A' x.data.length c')
  have o1 := hown1.kept g1 (own_ne hown1 (by simp; omega))
  have o2 := own_lower (o1.kept g2 (own_ne o1 (by simp; omega))) (lo := w.heap.size) (by simp; omega)
  have hB1' : Below w.heap.size W.drew w1 := hB1.mono hBW.size
  have hBw : Below w.heap.size w w1 := hBW.drew.trans hB1'
  have b2 := (hBw.setCell (p := ⟨w.heap.size + 1, 0, none⟩) (by simp) (.int .i64 x.code)).setCell (p := ⟨w.heap.size + 1, 1, none⟩) (by simp) (.slice A' x.data.length c')
  have e1 := cell_of_row _ (w.heap.size + 1) 0 _ _ _ k2
  have e2 := cell_of_row _ (w.heap.size + 1) 1 _ _ _ k2
  generalize ((w1.setCell ⟨w.heap.size + 1, 0, none⟩ (.int .i64 x.code)).setCell ⟨w.heap.size + 1, 1, none⟩ (.slice A' x.data.length c')) = Wf at *
  simp at e1 e2
  exact bodyPost_ret (v := .agg #[.int .i64 x.code, .slice A' x.data.length c']) (by simp [results, Try.f56, go_sem, e1, e2]) rfl ⟨A', c', rfl, o2, b2⟩
end Go.Proofs.Ytmlckjccgdmknaa
