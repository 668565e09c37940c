/- lessorref03.Same. -/
import Derived.Test.YtmaohnbddlccdaaGreatMrgPktN
namespace Go.Proofs.YtmaohnbddlccdaaGreat.NO
open Go.RowKit

set_option maxRecDepth 100000 in
set_option maxHeartbeats 2000000 in
theorem psame_true (p q : PktV) (hab : p.abs = q.abs) (w : World) (hp : Pk w w.heap.size p) (hq : Pk w w.heap.size q) (hL : p.L.length ≤ 100000) :
    Calls Tryz.prog 24 #[p.v, q.v] w fun e w' => e = .returned (.bool true) ∧ Below w.heap.size w w' := by
  obtain ⟨w0, hw0⟩ : ∃ w0, w0 = (w.alloc (pbox p)).alloc (pbox q) := ⟨_, rfl⟩
  have HB0 : Hid (Below w.heap.size w w0) := Lib.hid (by rw [hw0]; exact ((Below.refl _ _).alloc (Nat.le_refl _) _).alloc (by simp) _)
  have hX : PBox w0 w.heap.size p := by rw [hw0]; exact (PBox.new w p).later ((Below.refl _ _).alloc (Nat.le_refl _) _)
  have hY : PBox w0 (w.heap.size + 1) q := by rw [hw0]; have := PBox.new (w.alloc (pbox p)) q; simp only [World.size_alloc] at this; exact this
  obtain ⟨c0, c1, c2, c3, c4, c5, c6, c7, c8, c9⟩ := hX.all
  obtain ⟨d0, d1, d2, d3, d4, d5, d6, d7, d8, d9⟩ := hY.all
  have HS := Lib.hid (same_any p.opA q.opA p.opC q.opC p.L q.L w0 (hp.later HB0.out).opt (hq.later HB0.out).opt hL)
  have hs1 : ∀ m, (convert 29 9 (.slice p.hwA p.hw.length p.hwC)).run Tryz.prog (w0.drewN m) = .ok (.string ⟨p.hw.toArray⟩) (w0.drewN m) := fun m => str_run p.hwC ((hp.later HB0.out).hw.drewN m)
  have hs2 : ∀ m, (convert 29 9 (.slice q.hwA q.hw.length q.hwC)).run Tryz.prog (w0.drewN m) = .ok (.string ⟨q.hw.toArray⟩) (w0.drewN m) := fun m => str_run q.hwC ((hq.later HB0.out).hw.drewN m)
  have HW := Lib.hid hw0
  clear hw0 hX hY hp hq
  rw [decide_eq_true (show absL p.L = absL q.L from congrArg PktA.opts hab)] at HS
  have h0 : (p.op == q.op) = true := by have h : p.op = q.op := congrArg PktA.op hab; simp [h]
  have h1 : ((p.xid : Int) == (q.xid : Int)) = true := by have h : p.xid = q.xid := congrArg PktA.xid hab; simp [h]
  have h2 : (p.secs == q.secs) = true := by have h : p.secs = q.secs := congrArg PktA.secs hab; simp [h]
  have h3 : (p.flags == q.flags) = true := by have h : p.flags = q.flags := congrArg PktA.flags hab; simp [h]
  have h4 : ((p.ci : Int) == (q.ci : Int)) = true := by have h : p.ci = q.ci := congrArg PktA.ci hab; simp [h]
  have h5 : ((p.yi : Int) == (q.yi : Int)) = true := by have h : p.yi = q.yi := congrArg PktA.yi hab; simp [h]
  have h6 : ((p.si : Int) == (q.si : Int)) = true := by have h : p.si = q.si := congrArg PktA.si hab; simp [h]
  have h7 : ((p.gi : Int) == (q.gi : Int)) = true := by have h : p.gi = q.gi := congrArg PktA.gi hab; simp [h]
  have h8 : (p.hw == q.hw) = true := by have h : p.hw = q.hw := congrArg PktA.hw hab; simp [h]
  clear hab
  go_enter Tryz.func24, Tryz.ntmps24
  go_wp2_with fail
  rw [← HW.out]
  refine HS.out.mono ?_
  rintro e w' ⟨rfl, n, rfl⟩
  go_wp2
  go_ret
  exact ⟨rfl, below_drewN HB0.out n⟩
end Go.Proofs.YtmaohnbddlccdaaGreat.NO
