/- message.Encode. -/
import Derived.Test.YtgdkioegadbnmaaMsgR
namespace Go.Proofs.Ytgdkioegadbnmaa
open Go.RowKit Go.Sort

theorem size_small {m : MsgV} (h : RM m) : m.client.size ≤ 32 := by
  have hz : (⟨#[]⟩ : ByteArray).size = 0 := rfl
  rcases h.2.2.2 with h | h | h | h
  · rw [h.2.2.2.2.2.1, hz]; omega
  · rw [h.2.2.2.2.2.1, hz]; omega
  · exact h.2.2.2.2.1
  · rw [h.2.2.2.2.2.1, hz]; omega
theorem bit_pos (b : Bool) : 0 ≤ bitI b := by cases b <;> decide
theorem fits_pos {m : MsgV} (h : RM m) : Fits (fun n => 0 ≤ n) m := by
  obtain ⟨h1, h2, h3, h4⟩ := h
  have hx : 0 ≤ m.xid ∧ 0 ≤ m.state ∧ 0 ≤ m.bind ∧ 0 ≤ m.pot ∧ 0 ≤ m.at_ := by
    unfold KM at h4
    omega
  exact ⟨by omega, by omega, by omega, hx.1, hx.2.1, Int.natCast_nonneg _, hx.2.2.1, hx.2.2.2.1, hx.2.2.2.2, bit_pos _, Int.natCast_nonneg _, fun _ => Int.natCast_nonneg _⟩

theorem enc_start (w : World) : encV (w.heap.size + 1) w.heap.size 290 (fun k => k < w.heap.size) [] (w.alloc (.cells #[.slice none 0 0] 27)) :=
  ⟨by simp, .slice none 0 0, heap_alloc_new w _, World.ownsRow_nil _ _ _ _, by omega, by simp, by omega, fun k hk => by simp; omega, fun k hk => by cases hk⟩

theorem walk_encode (m : MsgV) (h : RM m) (ha : m.addr < 4294967296) (w : World) :
    Calls Try.prog 16 #[m.v, .func (.func 17) #[] #[.pointer (some ⟨w.heap.size, 0, none⟩)]] (w.alloc (.cells #[.slice none 0 0] 27)) fun e w' =>
      (∃ v, e = .returned v) ∧ (∃ A c, w'.cell? ⟨w.heap.size, 0, none⟩ = some (.slice A (encM m).length c) ∧ By w' w'.heap.size A (encM m) ∧ (encM m).length ≤ c) ∧ Below w.heap.size w w' :=
  (walk_any (enc_steps (w.heap.size + 1) w.heap.size) m (fits_pos h) [] (fun _ => ⟨m.client.size, rfl, by have := size_small h; omega⟩) _ _ (enc_start w) (by simp) ha).mono fun e w' ⟨he, hv, hk⟩ => by
    rw [walk_enc] at hv
    obtain ⟨_, v, h1, h2, _⟩ := hv
    obtain ⟨A, c, rfl, hc⟩ := own_form h2
    refine ⟨⟨_, he⟩, ⟨A, c, ?_, By.of_own h2, hc⟩, ((Below.refl _ w).alloc (Nat.le_refl _) _).trans (hk.below fun _ hk => hk)⟩
    have := cell_of_row w' w.heap.size 0 _ _ _ h1
    simpa using this

set_option maxRecDepth 100000 in
set_option maxHeartbeats 2000000 in
theorem encode_any (m : MsgV) (ha : m.addr < 4294967296) (w : World) :
    Calls Try.prog 10 #[m.v] w (GivesB w (encR m).1 (encR m).2) := by
  obtain ⟨w0, hw0⟩ : ∃ w0, w0 = w.alloc (mbox m) := ⟨_, rfl⟩
  have HX : Hid (MBox w0 w.heap.size m) := Lib.hid (by rw [hw0]; exact MBox.new w m)
  have HB0 : Hid (Below w.heap.size w w0) := Lib.hid (by rw [hw0]; exact (Below.refl _ _).alloc (Nat.le_refl _) _)
  have HW0 := Lib.hid hw0
  have HR := Lib.hid (fun W => right_any m ha W)
  have hmf : ∀ (fn : Fn) (first cap : Array Value) (w : World), (Instr.makeFunc fn first cap).run Try.prog w = .ok (.func fn first cap) w := fun _ _ _ _ => rfl
  clear hw0
  cases hr : rightM m
  · have HE := Lib.hid (show encR m = ([], 1) by simp [encR, hr])
    rw [hr] at HR
    clear hr
    obtain ⟨c0, c1, c2, c3, c4, c5, c6, c7, c8, c9, c10⟩ := HX.out.all
    go_enter Try.func10, Try.ntmps10
    go_wp2_with fail
    rw [← HW0.out]
    refine (HR.out _).mono ?_
    rintro e w1 ⟨rfl, hB1⟩
    go_wp2
    go_ret2
    rw [HE.out]
    exact ⟨none, 0, rfl, By.nil, Nat.le_refl _, HB0.out.trans (hB1.mono HB0.out.size)⟩
  · have HE := Lib.hid (show encR m = (encM m, 0) by simp [encR, hr])
    have HRM := Lib.hid ((right_iff m).1 hr)
    rw [hr] at HR
    clear hr
    obtain ⟨c0, c1, c2, c3, c4, c5, c6, c7, c8, c9, c10⟩ := HX.out.all
    go_enter Try.func10, Try.ntmps10
    go_wp2_with fail
    rw [← HW0.out]
    refine (HR.out _).mono ?_
    rintro e w1 ⟨rfl, hB1⟩
    clear c0 c1 c2 c3 c4 c5 c6 c7 c8 c9 c10
    have HB1 := Lib.hid (HB0.out.trans (hB1.mono HB0.out.size))
    obtain ⟨w2, hw2⟩ : ∃ w2, w2 = w1.alloc (.cells #[.slice none 0 0] 27) := ⟨_, rfl⟩
    have HX2 : Hid (MBox w2 w.heap.size m) := Lib.hid (by rw [hw2]; exact (HX.out.later hB1).alloc _)
    have HW2 := Lib.hid hw2
    have HC := Lib.hid (walk_encode m HRM.out ha w1)
    rw [← hw2] at HC
    clear hw2 hB1
    go_upto_region 4 with fail
    rw [← HW2.out]
    obtain ⟨c0, c1, c2, c3, c4, c5, c6, c7, c8, c9, c10⟩ := HX2.out.all
    go_wp2_with fail
    refine HC.out.mono ?_
    rintro e w3 ⟨⟨v, rfl⟩, ⟨A, c, hc, hby, hcl⟩, hB3⟩
    clear c0 c1 c2 c3 c4 c5 c6 c7 c8 c9 c10
    have HB3 := Lib.hid (HB1.out.trans (hB3.mono HB1.out.size))
    have HBY := Lib.hid hby
    have HCL := Lib.hid hcl
    clear hB3 hby hcl
    go_wp2
    go_ret2
    rw [HE.out]
    exact ⟨A, c, rfl, HBY.out, HCL.out, HB3.out⟩

/-- A hello's bytes. -/
theorem awake_any (w : World) : Calls Try.prog 9 #[] w fun e w' => e = .returned (.bool true) ∧ Below w.heap.size w w' := by
  have HE := Lib.hid (encode_any ⟨1, 1, 2, 4, 3, 0, 0, ⟨#[]⟩, 0, 0, false⟩ (by decide) w)
  have hv : encR ⟨1, 1, 2, 4, 3, 0, 0, ⟨#[]⟩, 0, 0, false⟩ = ([1, 0, 0, 0, 1, 0, 0, 0, 2, 0, 0, 0, 4, 3], 0) := by decide +kernel
  obtain ⟨bl, hbl⟩ : ∃ bl : List UInt8, bl = [1, 0, 0, 0, 1, 0, 0, 0, 2, 0, 0, 0, 4, 3] := ⟨_, rfl⟩
  rw [hv, ← hbl] at HE
  have hself : (bl == [1, 0, 0, 0, 1, 0, 0, 0, 2, 0, 0, 0, 4, 3]) = true := by rw [hbl]; decide
  clear hv hbl
  go_enter Try.func9, Try.ntmps9
  go_wp2_with fail
  refine HE.out.mono ?_
  rintro e w1 ⟨A, c, rfl, hby, _, hB⟩
  have hs := str_run c hby
  go_wp2
  go_ret
  exact ⟨by simp, hB⟩
end Go.Proofs.Ytgdkioegadbnmaa
