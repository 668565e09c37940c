/- lessorlaw09.awake answers true. -/
import Derived.Test.YtfnniponjbdamaaFrmS
namespace Go.Proofs.Ytfnniponjbdamaa
open Go.RowKit

theorem putR_awake : putR [7] = ([0, 1, 7, 90], 0) := by decide
theorem scan_awake : scanL [0, 1, 7, 90, 0, 2, 8] = [[7]] := by decide
theorem tot_awake : tot [[7]] = 4 := by decide

set_option maxRecDepth 100000 in
set_option maxHeartbeats 1000000 in
theorem awake_any (w : World) : Calls Try.prog 7 #[] w fun e w' => e = .returned (.bool true) ∧ Below w.heap.size w w' := by
  have h7 : By (w.alloc (.cells #[.int .u8 7] 5)) (w.heap.size + 1) (some ⟨w.heap.size, 0, none⟩) [7] := By.new w [7] 5
  have hB0 : Below w.heap.size w (w.alloc (.cells #[.int .u8 7] 5)) := (Below.refl _ _).alloc (Nat.le_refl _) _
  have HE : Hid (Calls Try.prog 8 #[.slice (some ⟨w.heap.size, 0, none⟩) 1 1] (w.alloc (.cells #[.int .u8 7] 5)) _) := put_any (some ⟨w.heap.size, 0, none⟩) 1 [7] _ (by simpa using h7)
  rw [putR_awake] at HE
  clear h7
  go_enter Try.func7, Try.ntmps7
  go_wp2_with fail
  refine HE.out.mono ?_
  rintro e w1 ⟨A, c, rfl, hby, _, hB1⟩
  have HB1 := Lib.hid (hB0.trans (hB1.mono hB0.size))
  clear hB1 hB0
  have h8 : By (w1.alloc (.cells #[.int .u8 0, .int .u8 1, .int .u8 7, .int .u8 90, .int .u8 0, .int .u8 2, .int .u8 8] 5)) (w1.heap.size + 1) (some ⟨w1.heap.size, 0, none⟩) [0, 1, 7, 90, 0, 2, 8] := By.new w1 [0, 1, 7, 90, 0, 2, 8] 5
  have HS : Hid (Calls Try.prog 10 #[.slice (some ⟨w1.heap.size, 0, none⟩) 7 7] (w1.alloc (.cells #[.int .u8 0, .int .u8 1, .int .u8 7, .int .u8 90, .int .u8 0, .int .u8 2, .int .u8 8] 5)) _) := scan_any (some ⟨w1.heap.size, 0, none⟩) 7 [0, 1, 7, 90, 0, 2, 8] (by decide) (by decide) _ (by simpa using h8)
  rw [scan_awake, tot_awake] at HS
  have hB2 := HB1.out.alloc HB1.out.size (.cells #[.int .u8 0, .int .u8 1, .int .u8 7, .int .u8 90, .int .u8 0, .int .u8 2, .int .u8 8] 5)
  have HBY := Lib.hid (hby.later ((Below.refl _ w1).alloc (Nat.le_refl _) (.cells #[.int .u8 0, .int .u8 1, .int .u8 7, .int .u8 90, .int .u8 0, .int .u8 2, .int .u8 8] 5)))
  have HB2 := Lib.hid hB2
  clear h8 hby hB2
  go_wp2_with fail
  refine HS.out.mono ?_
  rintro e w2 ⟨A2, c2, L, rfl, hL, _, _, hB3⟩
  have hl : L.length = 1 := by have := congrArg List.length hL; rw [datas_length] at this; exact this
  have hstr : (convert 22 9 (.slice A 4 c)).run Try.prog w2 = .ok (.string ⟨#[0, 1, 7, 90]⟩) w2 := str_run c (HBY.out.later hB3)
  have HB3 := Lib.hid (HB2.out.trans (hB3.mono HB2.out.size))
  rw [hl]
  clear hL hl hB3
  go_wp2
  go_ret
  exact ⟨rfl, HB3.out⟩
end Go.Proofs.Ytfnniponjbdamaa
