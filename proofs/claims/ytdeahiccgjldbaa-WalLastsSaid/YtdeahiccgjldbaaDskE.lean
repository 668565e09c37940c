/- The disk of the code: what a change does with its closure; the three closures. -/
import Derived.Test.YtdeahiccgjldbaaDskD
import Derived.Shelf.Abstract
import Derived.Deep.RegionHeld3
namespace Go.Proofs.Ytdeahiccgjldbaa
open Go.RowKit

/-- A number is answered, of which Q says more. -/
def Num (Q : Int → World → Prop) (e : Ending) (w' : World) : Prop := ∃ n : Int, e = .returned (.int .i64 n) ∧ Q n w'

set_option maxRecDepth 100000 in
theorem change_any {base : Nat} {w : World} {D : Nat} {s : DS} {v : Value} (h : DAt DT base w D s v) (ho : s.Ok) (f : FuncId) (bs : Array Value)
    (hen : ∀ args w, (callFunc f args).run Try.prog w = .ok (.enter f args) w) (Q : Int → World → Prop) (h0 : s.left = 0 → Q 7 w)
    (h1 : s.left ≠ 0 → ∀ w1, DAt DT base w1 D s.count v → Kp (Oth w D v) w w1 → w1.heap.size = w.heap.size → Calls Try.prog f bs w1 (Num Q)) :
    Calls Try.prog 38 #[ptr D, .func (.func f) #[] bs] w (Num Q) := by
  have h3 := h.c3
  have hf := h.free 3
  have b1 := ho.left
  have b2 := ho.top
  obtain ⟨n, hn⟩ : ∃ n, n = s.left := ⟨_, rfl⟩
  rw [← hn] at h3 h0 h1 b1 b2
  have H0 := Lib.hid h0
  have H1 := Lib.hid h1
  have H := Lib.hid h
  have HN := Lib.hid hn
  clear h0 h1 h hn ho
  have B := Lib.hid (And.intro b1 b2)
  rcases (show (n = 0) ∨ (n ≠ 0 ∧ n = -1) ∨ (n ≠ 0 ∧ n ≠ -1) by omega) with rfl | ⟨e0, rfl⟩ | ⟨e0, e1⟩
  · go_enter Try.func38, Try.ntmps38
    go_wp2
    go_ret
    exact ⟨7, rfl, H0.out trivial⟩
  · have HC := Lib.hid (H1.out e0 w (by have : s.count = s := by unfold DS.count; rw [if_pos HN.out.symm]
                                        rw [this]; exact H.out) (Kp.refl _ _) rfl)
    clear b1 b2
    go_enter Try.func38, Try.ntmps38
    go_wp2_with fail
    refine HC.out.mono ?_
    rintro e w' ⟨k, rfl, hk⟩
    go_wp2
    go_ret
    exact ⟨k, rfl, hk⟩
  · have hw : IntKind.i64.wrap (n - 1) = n - 1 := IntWalk.i64_in _ (by omega)
    have d0 : (n == 0) = false := by simpa using e0
    have d1 : (n == -1) = false := by simpa using e1
    have HC := Lib.hid (H1.out e0 (w.setCell ⟨D, 3, none⟩ (.int .i64 (n - 1))) (by
      have : s.count = { s with left := n - 1 } := by unfold DS.count; rw [if_neg (by rw [← HN.out]; exact e1), ← HN.out]
      rw [this]; exact H.out.set3 (n - 1)) (Oth.set _ _ _ (Kp.refl _ _)) (World.size_setCell _ _ _))
    clear e0 e1
    go_enter Try.func38, Try.ntmps38
    go_wp2_with fail
    refine HC.out.mono ?_
    rintro e w' ⟨k, rfl, hk⟩
    go_wp2
    go_ret
    exact ⟨k, rfl, hk⟩

/-- A closure's box: block g holds the value u, and is none of the disk's. -/
structure Bx (w : World) (D : Nat) (v : Value) (g : Nat) (u : Value) (t : TypeId) : Prop where
  box : w.heap[g]? = some (.cells #[u] t (0, 0))
  ne : g ≠ D
  own : v.ownBlock ≠ some g
section
variable {w w' : World} {D g : Nat} {v u : Value} {t : TypeId}
theorem Bx.lt (h : Bx w D v g u t) : g < w.heap.size := (Array.getElem?_eq_some_iff.1 h.box).1
theorem Bx.oth (h : Bx w D v g u t) : Oth w D v g := ⟨h.lt, h.ne, h.own⟩
theorem Bx.cell (h : Bx w D v g u t) : w.cell? ⟨g, 0, none⟩ = some u := cell_of_row w g 0 _ _ _ h.box
theorem Bx.kp (h : Bx w D v g u t) (hk : Kp (Oth w D v) w w') : Bx w' D v g u t := ⟨(hk.block g h.oth).trans h.box, h.ne, h.own⟩
end

set_option maxRecDepth 100000 in
set_option maxHeartbeats 1000000 in
theorem sync1_any {base : Nat} {w : World} {D : Nat} {s : DS} {v : Value} (h : DAt DT base w D s v) {gd : Nat} (hd : Bx w D v gd (ptr D) 25) :
    Calls Try.prog 39 #[ptr gd] w (Num fun n w' => n = 0 ∧ Did DT base w D v w' { s with last := s.bs.length }) := by
  obtain ⟨A, c, rfl, hc, _⟩ := h.form
  have h1 := h.c1
  have h2 := h.c2
  have hf := h.free 2
  have c1 := hd.cell
  have H := Lib.hid h
  have HD := Lib.hid hd
  clear h hd
  obtain ⟨l, hl⟩ : ∃ l, l = s.bs.length := ⟨_, rfl⟩
  rw [← hl] at h1
  have HL := Lib.hid hl
  clear hl hc
  go_enter Try.func39, Try.ntmps39
  go_wp2_with fail
  go_region
  go_wp2
  go_ret
  have hl := HL.out
  subst hl
  exact ⟨0, rfl, rfl, _, (H.out.set2 _).drew, (Oth.set _ _ _ (Kp.refl _ _)).drew, fun _ hk => .inl hk⟩

end Go.Proofs.Ytdeahiccgjldbaa
