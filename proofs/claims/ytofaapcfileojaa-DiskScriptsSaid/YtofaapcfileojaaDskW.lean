/- awake of layer 8's laws. -/
import Derived.Test.YtofaapcfileojaaDskT
namespace Go.Proofs.Ytofaapcfileojaa
open Go.RowKit

section
variable {ty : TypeId} {base B : Nat} {W W' : World} {D : Nat} {s s' : DS} {v : Value}
theorem Oth.low (h : DAt ty base W D s v) (hB : B ≤ D) : ∀ k, k < B → Oth W D v k := fun k hk =>
  ⟨by have := h.dlt; omega, by omega, fun e => by have := (h.ob k e).1; have := h.lt; omega⟩
theorem Did.low (h : DAt ty base W D s v) (hB : B ≤ D) (hd : Did ty base W D v W' s') : Below B W W' := by
  obtain ⟨_, _, hk, _⟩ := hd
  exact hk.below (Oth.low h hB)
/-- Bytes that are laid now. -/
theorem ByO.lit (h : DAt ty base W D s v) (l : List UInt8) (t : TypeId) : ByO (W.alloc (.cells (bcells l).toArray t)) D v (some ⟨W.heap.size, 0, none⟩) l := fun i x hx => by
  refine ⟨W.heap.size, 0, rfl, ⟨by show _ < (W.heap.push _).size; rw [Array.size_push]; exact Nat.lt_succ_self _, fun e => by have := h.dlt; omega, fun e => by have := (h.ob _ e).2; omega⟩, ?_⟩
  have : (W.alloc (.cells (bcells l).toArray t)).heap[W.heap.size]? = some (.cells (bcells l).toArray t (0, 0)) := heap_alloc_new W _
  rw [cell_of_row _ _ _ _ _ _ this]
  simp [bcells, hx]
end

/-- Reading: the value, and what its conversion is. -/
theorem give_str {w : World} {l : List UInt8} {e : Ending} {w' : World} (h : GiveB w l e w') : ∃ A c, e = .returned (.slice A l.length c) ∧ By w' w'.heap.size A l ∧ Below w.heap.size w w' ∧ ∀ W, Below w'.heap.size w' W → (convert 33 9 (.slice A l.length c)).run Try.prog W = .ok (.string ⟨l.toArray⟩) W := by
  obtain ⟨v, rfl, ho, hb⟩ := h
  obtain ⟨A, c, rfl, _⟩ := own_form ho
  have hby := By.of_own ho
  exact ⟨A, c, rfl, hby, hb, fun W hW => str_run c (hby.later hW)⟩

set_option maxRecDepth 100000 in
set_option maxHeartbeats 1000000 in
theorem awake_any (w : World) : Calls Try.prog 8 #[] w fun e w' => e = .returned (.bool true) ∧ Below w.heap.size w w' := by
  obtain ⟨D, hD⟩ : ∃ D, D = w.heap.size := ⟨_, rfl⟩
  have HN := Lib.hid (new_any w 9)
  rw [← hD]
  have HD := Lib.hid hD
  clear hD
  go_enter Try.func8, Try.ntmps8
  go_wp2_with fail
  refine HN.out.mono ?_
  rintro e w1 (⟨k, hk, _, _, rfl, h1, hb, hz⟩ | ⟨h0, _⟩)
  · obtain rfl : k = 9 := by omega
    rw [← HD.out] at h1 hb ⊢
    have H1 := Lib.hid h1
    have HB1 := Lib.hid hb
    clear h1 hb hz hk
    have HA := Lib.hid (append_any (c := 1) (H1.out.alloc (.cells #[.int .u8 1] 5)) ⟨by decide, by decide, by decide, by decide, by decide, by decide⟩ (ByO.lit H1.out [1] 5))
    have HL1 : Hid (Below D w1 (w1.alloc (.cells #[.int .u8 1] 5))) := Lib.hid ((Below.refl _ _).alloc (Nat.le_of_lt H1.out.dlt) _)
    go_wp2_with fail
    refine HA.out.mono ?_
    rintro e w2 ⟨rfl, hd2⟩
    have HB2 := Lib.hid (HB1.out.trans (HL1.out.trans (Did.low (H1.out.alloc _) (Nat.le_refl _) hd2)))
    obtain ⟨v2, h2, _, _⟩ := hd2
    have h2 : DAt DT (D + 1) w2 D ⟨9, [1], 0, -1⟩ v2 := h2
    have H2 := Lib.hid h2
    have HS := Lib.hid (sync_any h2 ⟨by decide, by decide, by decide, by decide, by decide, by decide⟩)
    clear h2
    go_wp2_with fail
    refine HS.out.mono ?_
    rintro e w3 ⟨rfl, hd3⟩
    have HB3 := Lib.hid (HB2.out.trans (Did.low H2.out (Nat.le_refl _) hd3))
    obtain ⟨v3, h3, _, _⟩ := hd3
    have h3 : DAt DT (D + 1) w3 D ⟨9, [1], 1, -1⟩ v3 := h3
    have H3 := Lib.hid h3
    clear h3
    have HA3 := Lib.hid (append_any (c := 2) (H3.out.alloc (.cells #[.int .u8 2, .int .u8 3] 5)) ⟨by decide, by decide, by decide, by decide, by decide, by decide⟩ (ByO.lit H3.out [2, 3] 5))
    have HL3 : Hid (Below D w3 (w3.alloc (.cells #[.int .u8 2, .int .u8 3] 5))) := Lib.hid ((Below.refl _ _).alloc (Nat.le_of_lt H3.out.dlt) _)
    go_wp2_with fail
    refine HA3.out.mono ?_
    rintro e w4 ⟨rfl, hd4⟩
    have HB4 := Lib.hid (HB3.out.trans (HL3.out.trans (Did.low (H3.out.alloc _) (Nat.le_refl _) hd4)))
    obtain ⟨v4, h4, _, _⟩ := hd4
    have h4 : DAt DT (D + 1) w4 D ⟨9, [1, 2, 3], 1, -1⟩ v4 := h4
    have H4 := Lib.hid h4
    have HC := Lib.hid (crash_any h4 ⟨by decide, by decide, by decide, by decide, by decide, by decide⟩ 1)
    clear h4
    go_wp2_with fail
    refine HC.out.mono ?_
    rintro e w5 ⟨rfl, hd5⟩
    have HB5 := Lib.hid (HB4.out.trans (Did.low H4.out (Nat.le_refl _) hd5))
    obtain ⟨v5, h5, _, _⟩ := hd5
    have h5 : DAt DT (D + 1) w5 D ⟨9, [1, 2], 2, -1⟩ v5 := h5
    have H5 := Lib.hid h5
    have HR := Lib.hid (read_any h5 ⟨by decide, by decide, by decide, by decide, by decide, by decide⟩)
    clear h5
    go_wp2_with fail
    refine HR.out.mono ?_
    intro e w6 hg6
    obtain ⟨A6, c6, rfl, hby6, hb6, hs6⟩ := give_str hg6
    have hs : (convert 33 9 (.slice A6 2 c6)).run Try.prog w6 = .ok (.string ⟨#[1, 2]⟩) w6 := hs6 w6 (Below.refl _ _)
    have HB6 := Lib.hid (HB5.out.trans (hb6.mono (Nat.le_of_lt H5.out.dlt)))
    have HT := Lib.hid (lasts_any (H5.out.below hb6))
    clear hg6 hby6 hb6 hs6
    go_wp2_with fail
    refine HT.out.mono ?_
    rintro e w7 ⟨rfl, rfl⟩
    go_wp2
    go_ret
    exact ⟨rfl, HB6.out⟩
  · exact absurd ⟨by decide, by decide⟩ h0

end Go.Proofs.Ytofaapcfileojaa
