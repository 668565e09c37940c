/- lessorlaw02.awake answers true. -/
import Derived.Test.YtgmebonhhbdofaaOptE
namespace Go.Proofs.Ytgmebonhhbdofaa
open Go.RowKit

theorem enc_awake : encL [(53, [1])] = ([53, 1, 1, 255], 0) := by decide

set_option maxRecDepth 100000 in
set_option maxHeartbeats 1000000 in
theorem awake_any (w : World) : Calls Try.prog 9 #[] w fun e w' => e = .returned (.bool true) ∧ Below w.heap.size w w' := by
  obtain ⟨w0, hw0⟩ : ∃ w0, w0 = (w.alloc (.cells #[.int .u8 1] 5)).alloc (.cells #[.int .i64 53, .slice (some ⟨w.heap.size, 0, none⟩) 1 1] 44) := ⟨_, rfl⟩
  have hB0 : Below w.heap.size w w0 := by rw [hw0]; exact ((Below.refl _ _).alloc (Nat.le_refl _) _).alloc (by simp) _
  have hR0 : Op w0 w0.heap.size (some ⟨w.heap.size + 1, 0, none⟩) [⟨53, some ⟨w.heap.size, 0, none⟩, 1, [1]⟩] := by
    rw [hw0]
    refine ⟨fun i x hx => ⟨w.heap.size + 1, 0, rfl, by simp, ?_⟩, fun x hx => ?_⟩
    · match i, hx with
      | 0, hx => simp at hx; subst hx; simp
    · simp at hx
      subst hx
      have h1 := one_byte w 5 1 (by decide)
      exact (h1.below ((Below.refl _ _).alloc (by simp) _)).more (by simp)
  have HE := Lib.hid (encode_any (some ⟨w.heap.size + 1, 0, none⟩) 1 [⟨53, some ⟨w.heap.size, 0, none⟩, 1, [1]⟩] w0 hR0 (by simp))
  rw [show absL [⟨53, some ⟨w.heap.size, 0, none⟩, 1, [1]⟩] = [(53, [1])] from rfl, enc_awake] at HE
  have HW := Lib.hid hw0
  clear hw0 hR0
  go_enter Try.func9, Try.ntmps9
  go_wp2_with fail
  rw [← HW.out]
  refine HE.out.mono ?_
  rintro e w1 ⟨A, c, rfl, hby, _, hB1⟩
  have hstr : (convert 25 9 (.slice A 4 c)).run Try.prog w1 = .ok (.string ⟨#[53, 1, 1, 255]⟩) w1 := str_run c hby
  clear hby
  go_wp2
  go_ret
  exact ⟨rfl, hB0.trans (hB1.mono hB0.size)⟩
end Go.Proofs.Ytgmebonhhbdofaa
