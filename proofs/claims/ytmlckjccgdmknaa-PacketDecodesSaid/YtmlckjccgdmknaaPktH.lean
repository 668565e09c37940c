/- packet.short, packet.headed, packet.Right, lessorref03.Right. -/
import Derived.Test.YtmlckjccgdmknaaPktM
namespace Go.Proofs.Ytmlckjccgdmknaa
open Go.RowKit

def shortB (n : Int) : Bool := decide (0 ≤ n) && decide (n ≤ 65535)
theorem short_any (n : Int) (w : World) : Calls Try.prog 42 #[.int .i64 n] w fun e w' => e = .returned (.bool (shortB n)) ∧ w = w' := by
  unfold shortB
  cases h0 : decide (0 ≤ n)
  all_goals
    go_enter Try.func42, Try.ntmps42
    go_wp2
    go_ret
    exact ⟨by simp, rfl⟩

/-- Is what a packet has beside its options as it should be? -/
def headB (p : PktV) : Bool := (p.op == 1 || p.op == 2) && shortB p.secs && shortB p.flags && decide (1 ≤ p.hw.length) && decide (p.hw.length ≤ 16)
theorem head_iff (p : PktV) : headB p = true ↔ (p.op = 1 ∨ p.op = 2) ∧ (0 ≤ p.secs ∧ p.secs ≤ 65535) ∧ (0 ≤ p.flags ∧ p.flags ≤ 65535) ∧ 1 ≤ p.hw.length ∧ p.hw.length ≤ 16 := by
  simp [headB, shortB, and_assoc]

set_option maxRecDepth 100000 in
set_option maxHeartbeats 4000000 in
theorem headed_any (p : PktV) (w : World) (hhm : p.hw.length ≤ 9223372036854775807) :
    Calls Try.prog 27 #[p.v] w fun e w' => e = .returned (.bool (headB p)) ∧ w' = w.alloc (pbox p) := by
  have HS := Lib.hid (fun W => short_any p.secs W)
  have HT := Lib.hid (fun W => short_any p.flags W)
  unfold headB
  cases h1 : (p.op == 1) <;> cases h2 : (p.op == 2)
  · go_enter Try.func27, Try.ntmps27
    go_wp2
    go_ret
    exact ⟨by simp, rfl⟩
  all_goals
    cases h3 : shortB p.secs
    · rw [h3] at HS
      clear h3
      go_enter Try.func27, Try.ntmps27
      go_wp2_with (go_at_call 42; refine (HS.out _).mono ?_; rintro e w' ⟨rfl, rfl⟩)
      go_ret
      exact ⟨by simp, rfl⟩
    · rw [h3] at HS
      clear h3
      cases h4 : shortB p.flags
      all_goals
        rw [h4] at HT
        clear h4
        cases h5 : decide (1 ≤ p.hw.length)
        all_goals
          have h6 : decide ((1 : Int) ≤ (p.hw.length : Int)) = decide (1 ≤ p.hw.length) := by simp; omega
          rw [h5] at h6
          go_enter Try.func27, Try.ntmps27
          go_wp2_with fail
          refine (HS.out _).mono ?_
          rintro e w' ⟨rfl, rfl⟩
          go_wp2_with fail
          refine (HT.out _).mono ?_
          rintro e w' ⟨rfl, rfl⟩
          go_wp2
          go_ret
          exact ⟨by simp <;> omega, rfl⟩

/-- May a packet be? -/
def rightB (p : PktV) : Bool := ((encL (absL p.L)).2 == 0) && headB p

set_option maxRecDepth 100000 in
set_option maxHeartbeats 4000000 in
theorem right_any (p : PktV) (w : World) (hp : Pk w w.heap.size p) (hL : p.L.length ≤ 2000) (hhm : p.hw.length ≤ 9223372036854775807) :
    Calls Try.prog 12 #[p.v] w fun e w' => e = .returned (.bool (rightB p)) ∧ Below w.heap.size w w' := by
  have hB0 : Below w.heap.size w (w.alloc (pbox p)) := (Below.refl _ _).alloc (Nat.le_refl _) _
  have HE := Lib.hid (encode_any p.opA p.opC p.L (w.alloc (pbox p)) (hp.boxed (pbox p)).opt hL)
  have HH := Lib.hid (fun W => headed_any p W hhm)
  unfold rightB
  have hbox := PBox.new w p
  have HX := Lib.hid hbox
  clear hbox
  cases hq : ((encL (absL p.L)).2 == 0)
  · go_enter Try.func12, Try.ntmps12
    go_wp2_with fail
    refine HE.out.mono ?_
    rintro e w1 ⟨A, c, rfl, _, _, hB1⟩
    go_wp2
    go_ret
    exact ⟨by simp, hB0.trans (hB1.mono hB0.size)⟩
  · go_enter Try.func12, Try.ntmps12
    go_wp2_with fail
    refine HE.out.mono ?_
    rintro e w1 ⟨A, c, rfl, _, _, hB1⟩
    obtain ⟨c0, c1, c2, c3, c4, c5, c6, c7, c8, c9⟩ := (HX.out.later hB1).all
    have hB2 : Below w.heap.size w w1 := hB0.trans (hB1.mono hB0.size)
    go_wp2_with fail
    refine (HH.out _).mono ?_
    rintro e w2 ⟨rfl, rfl⟩
    go_wp2
    go_ret
    exact ⟨by simp, hB2.alloc hB2.size _⟩
end Go.Proofs.Ytmlckjccgdmknaa
