/- Joined texts: PktE, PktR, PktS. -/
import Derived.Test.YtmaohnbddlccdaaGreatMrgPktN

/- packet.Encode. -/
section
namespace Go.Proofs.YtmaohnbddlccdaaGreat.NO
open Go.RowKit

theorem four_bytes (w : World) (t : TypeId) (c : Int) (n : Nat) (hc0 : 0 ≤ c) (hc : c < 256) (hn : n < 256) : By (w.alloc (.cells #[.int .u8 c, .int .u8 1, .int .u8 (n : Int), .int .u8 0] t)) (w.heap.size + 1) (some ⟨w.heap.size, 0, none⟩) [UInt8.ofNat c.toNat, 1, UInt8.ofNat n, 0] := by
  have h := By.new w [UInt8.ofNat c.toNat, 1, UInt8.ofNat n, 0] t
  have e1 : ((UInt8.ofNat c.toNat).toNat : Int) = c := by
    rw [UInt8.toNat_ofNat', Nat.mod_eq_of_lt (by omega)]; omega
  have e2 : (UInt8.ofNat n).toNat = n := by
    rw [UInt8.toNat_ofNat', Nat.mod_eq_of_lt (by omega)]
  simp only [bcells, List.map_cons, List.map_nil, bV, e1, e2] at h
  exact h
theorem mark_bytes (w : World) (t : TypeId) : By (w.alloc (.cells #[.int .u8 99, .int .u8 130, .int .u8 83, .int .u8 99] t)) (w.heap.size + 1) (some ⟨w.heap.size, 0, none⟩) [99, 130, 83, 99] := By.new w [99, 130, 83, 99] t

end Go.Proofs.YtmaohnbddlccdaaGreat.NO
end

/- lessorref03.Right and lessorref03.Encode. -/
section
namespace Go.Proofs.YtmaohnbddlccdaaGreat.NO
open Go.RowKit

theorem head_eq (p : PktV) : headB p = !((p.op != 1 && p.op != 2) || decide (p.secs < 0) || decide (65535 < p.secs) || decide (p.flags < 0) || decide (65535 < p.flags) || decide ((p.hw.length : Int) < 1) || decide ((16 : Int) < (p.hw.length : Int))) := by
  rw [Bool.eq_iff_iff]
  simp [headB, shortB]
  omega

/-- One reason why a packet may not be, in the order in which they are asked; or none. -/
theorem head_why (p : PktV) : (headB p = false ∧
    ((p.op != 1) = true ∧ (p.op != 2) = true ∨
    ((p.op != 1) = false ∨ (p.op != 1) = true ∧ (p.op != 2) = false) ∧
      (decide (p.secs < 0) = true ∨ decide (p.secs < 0) = false ∧
      (decide (65535 < p.secs) = true ∨ decide (65535 < p.secs) = false ∧
      (decide (p.flags < 0) = true ∨ decide (p.flags < 0) = false ∧
      (decide (65535 < p.flags) = true ∨ decide (65535 < p.flags) = false ∧
      (decide ((p.hw.length : Int) < 1) = true ∨ decide ((p.hw.length : Int) < 1) = false ∧ decide ((16 : Int) < (p.hw.length : Int)) = true))))))) ∨
    (headB p = true ∧ ((p.op != 1) = false ∨ (p.op != 1) = true ∧ (p.op != 2) = false) ∧ decide (p.secs < 0) = false ∧ decide (65535 < p.secs) = false ∧ decide (p.flags < 0) = false ∧ decide (65535 < p.flags) = false ∧ decide ((p.hw.length : Int) < 1) = false ∧ decide ((16 : Int) < (p.hw.length : Int)) = false) := by
  rw [head_eq]
  generalize (p.op != 1) = a
  generalize (p.op != 2) = b
  generalize decide (p.secs < 0) = c
  generalize decide (65535 < p.secs) = d
  generalize decide (p.flags < 0) = e
  generalize decide (65535 < p.flags) = f
  generalize decide ((p.hw.length : Int) < 1) = g
  generalize decide ((16 : Int) < (p.hw.length : Int)) = h
  cases a <;> cases b <;> cases c <;> cases d <;> cases e <;> cases f <;> cases g <;> cases h <;> simp

set_option maxRecDepth 100000 in
set_option maxHeartbeats 1000000 in
theorem rright_any (p : PktV) (w : World) (hp : Pk w w.heap.size p) (hL : p.L.length ≤ 100) (hdm : ∀ x ∈ p.L, x.data.length ≤ 1000) :
    Calls Tryz.prog 39 #[p.v] w fun e w' => e = .returned (.bool (rightB p)) ∧ Below w.heap.size w w' := by
  have hB0 : Below w.heap.size w (w.alloc (pbox p)) := (Below.refl _ _).alloc (Nat.le_refl _) _
  have HE := Lib.hid (rencode_any p.opA p.opC p.L (w.alloc (pbox p)) (hp.boxed (pbox p)).opt hL hdm)
  unfold rightB
  clear hp hdm
  rcases head_why p with ⟨hh, hwhy⟩ | ⟨hh, hop, h3, h4, h5, h6, h7, h8⟩
  · rw [hh]
    clear hh HE
    rcases hwhy with ⟨h1, h2⟩ | ⟨h1 | ⟨h1, h2⟩, h3 | ⟨h3, h4 | ⟨h4, h5 | ⟨h5, h6 | ⟨h6, h7 | ⟨h7, h8⟩⟩⟩⟩⟩⟩
    all_goals
      go_enter Tryz.func39, Tryz.ntmps39
      go_wp2
      go_ret
      exact ⟨by simp, hB0⟩
  · rw [hh]
    clear hh
    rcases hop with h1 | ⟨h1, h2⟩
    all_goals
      go_enter Tryz.func39, Tryz.ntmps39
      go_wp2_with fail
      refine HE.out.mono ?_
      rintro e w1 ⟨A, c, rfl, _, _, hB1⟩
      go_wp2
      go_ret
      exact ⟨by simp, hB0.trans (hB1.mono hB0.size)⟩

end Go.Proofs.YtmaohnbddlccdaaGreat.NO
end

/- lessorref03.Same. -/
section
namespace Go.Proofs.YtmaohnbddlccdaaGreat.NO
open Go.RowKit

set_option maxRecDepth 100000 in
set_option maxHeartbeats 2000000 in
theorem psame_true (p q : PktV) (hab : p.abs = q.abs) (w : World) (hp : Pk w w.heap.size p) (hq : Pk w w.heap.size q) (hL : p.L.length ≤ 100000) :
    Calls Tryz.prog 24 #[p.v, q.v] w fun e w' => e = .returned (.bool true) ∧ Below w.heap.size w w' := by
  obtain ⟨w0, hw0⟩ : ∃ w0, w0 = (w.alloc (pbox p)).alloc (pbox q) := ⟨_, rfl⟩
  have HB0 : Hid (Below w.heap.size w w0) := Lib.hid (by rw [hw0]; exact ((Below.refl _ _).alloc (Nat.le_refl _) _).alloc (by simp) _)
  have hX : PBox w0 w.heap.size p := by rw [hw0]; exact (PBox.new w p).later ((Below.refl _ _).alloc (Nat.le_refl _) _)
  have hY : PBox w0 (w.heap.size + 1) q := by rw [hw0]; have := PBox.new (w.alloc (pbox p)) q; simp only [World.size_alloc] at this; exact this
  obtain ⟨c0, c1, c2, c3, c4, c5, c6, c7, c8, c9⟩ := hX.all
  obtain ⟨d0, d1, d2, d3, d4, d5, d6, d7, d8, d9⟩ := hY.all
  have HS := Lib.hid (same_any p.opA q.opA p.opC q.opC p.L q.L w0 (hp.later HB0.out).opt (hq.later HB0.out).opt hL)
  have hs1 : ∀ m, (convert 29 9 (.slice p.hwA p.hw.length p.hwC)).run Tryz.prog (w0.drewN m) = .ok (.string ⟨p.hw.toArray⟩) (w0.drewN m) := fun m => str_run p.hwC ((hp.later HB0.out).hw.drewN m)
  have hs2 : ∀ m, (convert 29 9 (.slice q.hwA q.hw.length q.hwC)).run Tryz.prog (w0.drewN m) = .ok (.string ⟨q.hw.toArray⟩) (w0.drewN m) := fun m => str_run q.hwC ((hq.later HB0.out).hw.drewN m)
  have HW := Lib.hid hw0
  clear hw0 hX hY hp hq
  rw [decide_eq_true (show absL p.L = absL q.L from congrArg PktA.opts hab)] at HS
  have h0 : (p.op == q.op) = true := by have h : p.op = q.op := congrArg PktA.op hab; simp [h]
  have h1 : ((p.xid : Int) == (q.xid : Int)) = true := by have h : p.xid = q.xid := congrArg PktA.xid hab; simp [h]
  have h2 : (p.secs == q.secs) = true := by have h : p.secs = q.secs := congrArg PktA.secs hab; simp [h]
  have h3 : (p.flags == q.flags) = true := by have h : p.flags = q.flags := congrArg PktA.flags hab; simp [h]
  have h4 : ((p.ci : Int) == (q.ci : Int)) = true := by have h : p.ci = q.ci := congrArg PktA.ci hab; simp [h]
  have h5 : ((p.yi : Int) == (q.yi : Int)) = true := by have h : p.yi = q.yi := congrArg PktA.yi hab; simp [h]
  have h6 : ((p.si : Int) == (q.si : Int)) = true := by have h : p.si = q.si := congrArg PktA.si hab; simp [h]
  have h7 : ((p.gi : Int) == (q.gi : Int)) = true := by have h : p.gi = q.gi := congrArg PktA.gi hab; simp [h]
  have h8 : (p.hw == q.hw) = true := by have h : p.hw = q.hw := congrArg PktA.hw hab; simp [h]
  clear hab
  go_enter Tryz.func24, Tryz.ntmps24
  go_wp2_with fail
  rw [← HW.out]
  refine HS.out.mono ?_
  rintro e w' ⟨rfl, n, rfl⟩
  go_wp2
  go_ret
  exact ⟨rfl, below_drewN HB0.out n⟩
end Go.Proofs.YtmaohnbddlccdaaGreat.NO
end
