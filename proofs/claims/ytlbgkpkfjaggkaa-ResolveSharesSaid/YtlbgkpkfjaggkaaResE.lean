/- resolve: how the functions that answer a lease and a truth end. -/
import Derived.Test.YtlbgkpkfjaggkaaResM
namespace Go.Proofs.Ytlbgkpkfjaggkaa
open Go.RowKit Go.Sort

theorem setCell_drewL (W : World) (a : Addr) (v : Value) : W.drew.setCell a v = (W.setCell a v).drew := rfl
theorem storeL_drew (W : World) (g : Nat) (q : LV) : storeL W.drew g q = (storeL W g q).drew := by
  unfold storeL
  simp only [setCell_drewL]
theorem prom_end {w W : World} {g : Nat} {q : LV} {b : Bool} {r : LV × Bool} {t : Array Value} (hz : LBox W g zeroL) (hB : Below w.heap.size w W) (hg : w.heap.size ≤ g) (hr : r = (q, b)) (h2 : t[6]?.getD undef = .pointer (some ⟨g, 0, none⟩)) (h3 : t[7]?.getD undef = .bool b) :
    bodyPost Try.prog Try.f16 (GivesLB w r) .ret { tmps := t, defers := [] } (storeL W g q) := by
  refine bodyPost_ret (v := .tuple #[q.v, .bool b]) ?_ ?_ ?_
  · obtain ⟨r0, r1, r2, r3, r4, r5, r6, r7⟩ := (storeL_box hz q).all
    simp [results, Try.f16, go_sem, h2, h3, r0, r1, r2, r3, r4, r5, r6, r7]
  · rfl
  · rw [hr]
    exact ⟨rfl, hB.trans (storeL_low W _ g hg q)⟩
theorem ended_end {w W : World} {g : Nat} {q : LV} {b : Bool} {r : LV × Bool} {t : Array Value} (hz : LBox W g zeroL) (hB : Below w.heap.size w W) (hg : w.heap.size ≤ g) (hr : r = (q, b)) (h2 : t[6]?.getD undef = .pointer (some ⟨g, 0, none⟩)) (h3 : t[7]?.getD undef = .bool b) :
    bodyPost Try.prog Try.f17 (GivesLB w r) .ret { tmps := t, defers := [] } (storeL W g q) := by
  refine bodyPost_ret (v := .tuple #[q.v, .bool b]) ?_ ?_ ?_
  · obtain ⟨r0, r1, r2, r3, r4, r5, r6, r7⟩ := (storeL_box hz q).all
    simp [results, Try.f17, go_sem, h2, h3, r0, r1, r2, r3, r4, r5, r6, r7]
  · rfl
  · rw [hr]
    exact ⟨rfl, hB.trans (storeL_low W _ g hg q)⟩
theorem shar_end {w W : World} {g : Nat} {q : LV} {b : Bool} {r : LV × Bool} {t : Array Value} (hz : LBox W g zeroL) (hB : Below w.heap.size w W) (hg : w.heap.size ≤ g) (hr : r = (q, b)) (h2 : t[6]?.getD undef = .pointer (some ⟨g, 0, none⟩)) (h3 : t[7]?.getD undef = .bool b) :
    bodyPost Try.prog Try.f18 (GivesLB w r) .ret { tmps := t, defers := [] } (storeL W g q) := by
  refine bodyPost_ret (v := .tuple #[q.v, .bool b]) ?_ ?_ ?_
  · obtain ⟨r0, r1, r2, r3, r4, r5, r6, r7⟩ := (storeL_box hz q).all
    simp [results, Try.f18, go_sem, h2, h3, r0, r1, r2, r3, r4, r5, r6, r7]
  · rfl
  · rw [hr]
    exact ⟨rfl, hB.trans (storeL_low W _ g hg q)⟩
theorem acti_end {w W : World} {g : Nat} {q : LV} {b : Bool} {r : LV × Bool} {t : Array Value} (hz : LBox W g zeroL) (hB : Below w.heap.size w W) (hg : w.heap.size ≤ g) (hr : r = (q, b)) (h2 : t[6]?.getD undef = .pointer (some ⟨g, 0, none⟩)) (h3 : t[7]?.getD undef = .bool b) :
    bodyPost Try.prog Try.f21 (GivesLB w r) .ret { tmps := t, defers := [] } (storeL W g q) := by
  refine bodyPost_ret (v := .tuple #[q.v, .bool b]) ?_ ?_ ?_
  · obtain ⟨r0, r1, r2, r3, r4, r5, r6, r7⟩ := (storeL_box hz q).all
    simp [results, Try.f21, go_sem, h2, h3, r0, r1, r2, r3, r4, r5, r6, r7]
  · rfl
  · rw [hr]
    exact ⟨rfl, hB.trans (storeL_low W _ g hg q)⟩
theorem take_end {w W : World} {g : Nat} {q : LV} {b : Bool} {r : LV × Bool} {t : Array Value} (hz : LBox W g zeroL) (hB : Below w.heap.size w W) (hg : w.heap.size ≤ g) (hr : r = (q, b)) (h2 : t[10]?.getD undef = .pointer (some ⟨g, 0, none⟩)) (h3 : t[11]?.getD undef = .bool b) :
    bodyPost Try.prog Try.f9 (GivesLB w r) .ret { tmps := t, defers := [] } (storeL W g q) := by
  refine bodyPost_ret (v := .tuple #[q.v, .bool b]) ?_ ?_ ?_
  · obtain ⟨r0, r1, r2, r3, r4, r5, r6, r7⟩ := (storeL_box hz q).all
    simp [results, Try.f9, go_sem, h2, h3, r0, r1, r2, r3, r4, r5, r6, r7]
  · rfl
  · rw [hr]
    exact ⟨rfl, hB.trans (storeL_low W _ g hg q)⟩
theorem rtake_end {w W : World} {g : Nat} {q : LV} {b : Bool} {r : LV × Bool} {t : Array Value} (hz : LBox W g zeroL) (hB : Below w.heap.size w W) (hg : w.heap.size ≤ g) (hr : r = (q, b)) (h2 : t[10]?.getD undef = .pointer (some ⟨g, 0, none⟩)) (h3 : t[11]?.getD undef = .bool b) :
    bodyPost Try.prog Try.f10 (GivesLB w r) .ret { tmps := t, defers := [] } (storeL W g q) := by
  refine bodyPost_ret (v := .tuple #[q.v, .bool b]) ?_ ?_ ?_
  · obtain ⟨r0, r1, r2, r3, r4, r5, r6, r7⟩ := (storeL_box hz q).all
    simp [results, Try.f10, go_sem, h2, h3, r0, r1, r2, r3, r4, r5, r6, r7]
  · rfl
  · rw [hr]
    exact ⟨rfl, hB.trans (storeL_low W _ g hg q)⟩
theorem shar_endD {w W : World} {g : Nat} {q : LV} {b : Bool} {r : LV × Bool} {t : Array Value} (hz : LBox W g zeroL) (hB : Below w.heap.size w W) (hg : w.heap.size ≤ g) (hr : r = (q, b)) (h2 : t[6]?.getD undef = .pointer (some ⟨g, 0, none⟩)) (h3 : t[7]?.getD undef = .bool b) :
    bodyPost Try.prog Try.f18 (GivesLB w r) .ret { tmps := t, defers := [] } (storeL W g q).drew := by
  rw [← storeL_drew]
  exact shar_end hz.drew hB.drew hg hr h2 h3
theorem take_endD {w W : World} {g : Nat} {q : LV} {b : Bool} {r : LV × Bool} {t : Array Value} (hz : LBox W g zeroL) (hB : Below w.heap.size w W) (hg : w.heap.size ≤ g) (hr : r = (q, b)) (h2 : t[10]?.getD undef = .pointer (some ⟨g, 0, none⟩)) (h3 : t[11]?.getD undef = .bool b) :
    bodyPost Try.prog Try.f9 (GivesLB w r) .ret { tmps := t, defers := [] } (storeL W g q).drew := by
  rw [← storeL_drew]
  exact take_end hz.drew hB.drew hg hr h2 h3
theorem rtake_endD {w W : World} {g : Nat} {q : LV} {b : Bool} {r : LV × Bool} {t : Array Value} (hz : LBox W g zeroL) (hB : Below w.heap.size w W) (hg : w.heap.size ≤ g) (hr : r = (q, b)) (h2 : t[10]?.getD undef = .pointer (some ⟨g, 0, none⟩)) (h3 : t[11]?.getD undef = .bool b) :
    bodyPost Try.prog Try.f10 (GivesLB w r) .ret { tmps := t, defers := [] } (storeL W g q).drew := by
  rw [← storeL_drew]
  exact rtake_end hz.drew hB.drew hg hr h2 h3
end Go.Proofs.Ytlbgkpkfjaggkaa
