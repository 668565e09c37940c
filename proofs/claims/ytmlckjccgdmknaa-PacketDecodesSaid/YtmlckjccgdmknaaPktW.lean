/- lessorlaw03.awake answers true. -/
import Derived.Test.YtmlckjccgdmknaaPktE
namespace Go.Proofs.Ytmlckjccgdmknaa
open Go.RowKit

/-- The packet of one option. -/
def awakeP (n : Nat) : PktV := ⟨1, 258, 0, 0, 0, 0, 0, 0, some ⟨n, 0, none⟩, 1, [7], some ⟨n + 1 + 1, 0, none⟩, 1, [⟨53, some ⟨n + 1, 0, none⟩, 1, [3]⟩]⟩
def awakeA : PktA := ⟨1, 258, 0, 0, 0, 0, 0, 0, [7], [(53, [3])]⟩
def awakeL : List UInt8 := headL awakeA ++ (encL awakeA.opts).1
theorem enc_awake : encP awakeA = (awakeL, 0) := encP_ok (by decide)
theorem awakeL_at : awakeL.length = 244 ∧ awakeL[6]? = some 1 ∧ awakeL[7]? = some 2 ∧ awakeL[28]? = some 7 ∧ awakeL[236]? = some 99 ∧ awakeL[240]? = some 53 := by decide +kernel

set_option maxRecDepth 100000 in
set_option maxHeartbeats 1000000 in
theorem awake_any (w : World) : Calls Try.prog 8 #[] w fun e w' => e = .returned (.bool true) ∧ Below w.heap.size w w' := by
  obtain ⟨w0, hw0⟩ : ∃ w0, w0 = ((w.alloc (.cells #[.int .u8 7] 5)).alloc (.cells #[.int .u8 3] 5)).alloc (.cells #[.int .i64 53, .slice (some ⟨w.heap.size + 1, 0, none⟩) 1 1] 47) := ⟨_, rfl⟩
  have hB0 : Below w.heap.size w w0 := by rw [hw0]; exact (((Below.refl _ _).alloc (Nat.le_refl _) _).alloc (by simp) _).alloc (by simp; omega) _
  have hP0 : Pk w0 w0.heap.size (awakeP w.heap.size) := by
    rw [hw0]
    refine ⟨?_, ⟨fun i x hx => ⟨w.heap.size + 1 + 1, 0, rfl, by simp, ?_⟩, fun x hx => ?_⟩⟩
    · have h1 := one_byte w 5 7 (by decide)
      exact (h1.below (((Below.refl _ _).alloc (by simp) _).alloc (by simp) _)).more (by simp)
    · match i, hx with
      | 0, hx =>
        simp [awakeP] at hx
        subst hx
        have hnew := heap_alloc_new ((w.alloc (.cells #[.int .u8 7] 5)).alloc (.cells #[.int .u8 3] 5)) (.cells #[.int .i64 53, .slice (some ⟨w.heap.size + 1, 0, none⟩) 1 1] 47)
        simp only [World.size_alloc] at hnew
        exact ⟨cell_of_row _ _ 0 _ _ _ hnew, cell_of_row _ _ 1 _ _ _ hnew⟩
    · simp [awakeP] at hx
      subst hx
      have h1 := one_byte (w.alloc (.cells #[.int .u8 7] 5)) 5 3 (by decide)
      simp only [World.size_alloc] at h1
      exact (h1.below ((Below.refl _ _).alloc (by simp) _)).more (by simp)
  have HE := Lib.hid (pencode_any (awakeP w.heap.size) w0 hP0 ⟨by simp [awakeP], by simp [awakeP], by simp [awakeP], by simp [awakeP], by simp [awakeP]⟩ (by simp [awakeP]) (by simp [awakeP]))
  rw [show (awakeP w.heap.size).abs = awakeA from rfl, enc_awake] at HE
  have HW := Lib.hid hw0
  clear hw0 hP0
  go_enter Try.func8, Try.ntmps8
  go_wp2_with fail
  rw [← HW.out]
  refine HE.out.mono ?_
  rintro e w1 ⟨A, c, rfl, hby, hcc, hB1⟩
  obtain ⟨hlen, h6, h7, h28, h236, h240⟩ := awakeL_at
  obtain ⟨b, o, rfl, hb, d6⟩ := hby.at_ 6 1 h6
  have d7 : w1.cell? ⟨b, o + 7, none⟩ = some (.int .u8 2) := by
    obtain ⟨b', o', e, _, d⟩ := hby.at_ 7 2 h7
    injection e with e; injection e with e1 e2; subst e1 e2; exact d
  have d28 : w1.cell? ⟨b, o + 28, none⟩ = some (.int .u8 7) := by
    obtain ⟨b', o', e, _, d⟩ := hby.at_ 28 7 h28
    injection e with e; injection e with e1 e2; subst e1 e2; exact d
  have d236 : w1.cell? ⟨b, o + 236, none⟩ = some (.int .u8 99) := by
    obtain ⟨b', o', e, _, d⟩ := hby.at_ 236 99 h236
    injection e with e; injection e with e1 e2; subst e1 e2; exact d
  have d240 : w1.cell? ⟨b, o + 240, none⟩ = some (.int .u8 53) := by
    obtain ⟨b', o', e, _, d⟩ := hby.at_ 240 53 h240
    injection e with e; injection e with e1 e2; subst e1 e2; exact d
  have d6' : w1.cell? ⟨b, o + 6, none⟩ = some (.int .u8 1) := d6
  rw [hlen] at hcc ⊢
  clear hby h6 h7 h28 h236 h240 hlen d6
  go_wp2
  go_ret
  exact ⟨rfl, hB0.trans (hB1.mono hB0.size)⟩
end Go.Proofs.Ytmlckjccgdmknaa
