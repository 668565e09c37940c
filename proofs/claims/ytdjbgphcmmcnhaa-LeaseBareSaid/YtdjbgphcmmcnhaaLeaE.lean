/- lease.Encode. -/
import Derived.Test.YtdjbgphcmmcnhaaLeaR
import Derived.Test.YtdjbgphcmmcnhaaBytR
namespace Go.Proofs.Ytdjbgphcmmcnhaa
open Go.RowKit Go.Sort

theorem put_int (w0 : World) (A : Option Addr) (c : Nat) (l : List UInt8) (x : Int) (hx : 0 ≤ x) (size : Nat) (hs : size ≤ 6) (hl : l.length ≤ 1000) (w : World) (h : Row w0 w (.slice A l.length c) l) :
    Calls Try.prog 18 #[.slice A l.length c, .int .i64 x, .int .i64 (size : Int)] w fun e w' => ∃ A' c' l', e = .returned (.slice A' l'.length c') ∧ Hid (l' = l ++ beL x.toNat size) ∧ Row w0 w' (.slice A' l'.length c') l' ∧ l'.length ≤ c' := by
  obtain ⟨n, rfl⟩ : ∃ n : Nat, x = n := ⟨x.toNat, by omega⟩
  exact put_any w0 A c l n size hs hl w h
/-- The first of the four times and Ver, as bytes. -/
def flatT (m : LV) (j : Nat) : List UInt8 := ((T5 m).take j).flatMap fun t => beL t.toNat 6
theorem flatT_next (m : LV) (j : Nat) (t : Int) (h : (T5 m)[j]? = some t) : flatT m (j + 1) = flatT m j ++ beL t.toNat 6 := by
  unfold flatT
  rw [take_snoc_of _ _ _ h, List.flatMap_append]
  simp
theorem flatT_zero (m : LV) : flatT m 0 = [] := rfl
theorem flatT_length (m : LV) (j : Nat) (hj : j ≤ 5) : (flatT m j).length = 6 * j := by
  induction j with
  | zero => rfl
  | succ j ih =>
    obtain ⟨t, ht, _⟩ := T5_at m j (by omega)
    rw [flatT_next m j t ht, List.length_append, ih (by omega), beL_length]
    omega
theorem be_one (n : Nat) : beL n 1 = [UInt8.ofNat n] := by simp [beL]
theorem enc_flat (m : LV) : encL m = beL m.addr 4 ++ beL m.bind.toNat 1 ++ flatT m 5 ++ beL m.client.length 1 ++ m.client := by
  simp [encL, flatT, T5, be_one]
theorem row_nil (w : World) : Row w w (.slice none 0 0) [] := ⟨World.ownsRow_nil _ _ _ _, Below.refl _ _⟩

set_option maxRecDepth 100000 in
set_option maxHeartbeats 4000000 in
theorem encode_any (m : LV) (ha : m.addr < 4294967296) (w : World) :
    Calls Try.prog 8 #[m.v] w (GivesB w (encR m).1 (encR m).2) := by
  obtain ⟨w0, hw0⟩ : ∃ w0, w0 = w.alloc (lbox m) := ⟨_, rfl⟩
  have HX : Hid (LBox w0 w.heap.size m) := Lib.hid (by rw [hw0]; exact LBox.new w m)
  have HB0 : Hid (Below w.heap.size w w0) := Lib.hid (by rw [hw0]; exact (Below.refl _ _).alloc (Nat.le_refl _) _)
  have HW0 := Lib.hid hw0
  have HR := Lib.hid (fun W => right_any m W)
  clear hw0
  by_cases hr : RightL m
  rotate_left
  · have HE := Lib.hid (show encR m = ([], 1) by simp [encR, hr])
    simp only [decide_eq_false hr] at HR
    clear hr
    obtain ⟨c0, c1, c2, c3, c4, c5, c6, c7⟩ := HX.out.all
    go_enter Try.func8, Try.ntmps8
    go_wp2_with fail
    rw [← HW0.out]
    refine (HR.out _).mono ?_
    rintro e w1 ⟨rfl, hB1⟩
    go_wp2
    go_ret2
    rw [HE.out]
    exact ⟨none, 0, rfl, By.nil, Nat.le_refl _, HB0.out.trans (hB1.mono HB0.out.size)⟩
  · have HE := Lib.hid (show encR m = (encL m, 0) by simp [encR, hr])
    have HRL := Lib.hid hr
    simp only [decide_eq_true hr] at HR
    have hcs := hr.short
    have hbind := hr.b0
    have HT : Hid (∀ t ∈ T5 m, TimeL t) := Lib.hid (right_T5 hr)
    clear hr
    obtain ⟨c0, c1, c2, c3, c4, c5, c6, c7⟩ := HX.out.all
    go_enter Try.func8, Try.ntmps8
    go_wp2_with fail
    rw [← HW0.out]
    refine (HR.out _).mono ?_
    rintro e w1 ⟨rfl, hB1⟩
    clear c0 c1 c2 c3 c4 c5 c6 c7
    have HX1 := Lib.hid (HX.out.later hB1)
    have HB1 := Lib.hid (HB0.out.trans (hB1.mono HB0.out.size))
    have c0 := HX1.out.c0
    clear hB1
    go_wp2_with fail
    refine (put_any w1 none 0 [] m.addr 4 (by omega) (by simp) w1 (row_nil w1)).mono ?_
    rintro e w2 ⟨A2, k2, l2, rfl, HL2, hR2, hk2⟩
    have hn2 : Hid (l2.length = 4) := Lib.hid (by rw [HL2.out]; simp [beL_length])
    have hn2' : l2.length ≤ 1000 := by rw [hn2.out]; omega
    have HR2 := Lib.hid hR2
    have c1 := (HX1.out.later hR2.low).c1
    clear hR2 c0
    go_wp2_with fail
    refine (put_int w1 A2 k2 l2 m.bind hbind 1 (by omega) hn2' w2 HR2.out).mono ?_
    rintro e w3 ⟨A3, k3, l3, rfl, HL3, hR3, hk3⟩
    have hn3 : Hid (l3.length = 5) := Lib.hid (by rw [HL3.out, List.length_append, beL_length, hn2.out])
    have hn3' : l3.length ≤ 1000 := by rw [hn3.out]; omega
    have HR3 := Lib.hid hR3
    clear hR3 c1
    go_wp2_with fail
    refine (times_any _ _).mono ?_
    rintro e w4 ⟨rfl, hB4⟩
    have HR4 := Lib.hid (HR3.out.later hB4)
    clear hB4
    go_wp2
    go_loopw [4, 6, 19] (fun b _ i wr => ∃ (j : Nat) (A' : Option Addr) (c' : Nat) (d : List UInt8), j ≤ 5 ∧ i = .int .i64 j ∧ b = .slice A' d.length c' ∧ Hid (d = l3 ++ flatT m j) ∧ Hid (Row w1 wr (.slice A' d.length c') d) ∧ d.length ≤ 1000) (fun _ _ i _ => 5 - (intOf i).toNat)
    case atStart => exact ⟨0, A3, k3, l3, Nat.zero_le _, rfl, rfl, Lib.hid (by rw [flatT_zero, List.append_nil]), HR4, hn3'⟩
    case round =>
      obtain ⟨j, A', c', d, hj, rfl, rfl, HD, HV, hdl⟩ := hrel
      by_cases hlt : j < 5
      · obtain ⟨t, htj, hcell, hidx⟩ := T5_at m j hlt
        have ct := hcell wr w.heap.size (HX1.out.later HV.out.low)
        have hix := hidx w.heap.size
        have ht0 := (HT.out t (List.mem_of_getElem? htj)).1
        have HN := Lib.hid (flatT_next m j t htj)
        have hdn : Hid (d.length = 5 + 6 * j) := Lib.hid (by rw [HD.out, List.length_append, hn3.out, flatT_length m j (by omega)])
        clear htj hcell hidx
        go_wp2_with fail
        refine (put_int w1 A' c' d t ht0 6 (by omega) hdl wr HV.out).mono ?_
        rintro e w5 ⟨A5, k5, l5, rfl, HL5, hR5, hk5⟩
        have hn5 : l5.length ≤ 1000 := by rw [HL5.out, List.length_append, beL_length, hdn.out]; omega
        have HF5 : Hid (l5 = l3 ++ flatT m (j + 1)) := Lib.hid (by rw [HL5.out, HD.out, HN.out, List.append_assoc])
        clear ct hix
        go_wp2
        go_roundw
        case rel => exact ⟨j + 1, A5, k5, l5, by omega, by go_num, rfl, HF5, Lib.hid hR5, hn5⟩
        case measure => simp [intOf]; omega
      · obtain rfl : j = 5 := by omega
        have c2 := (HX1.out.later HV.out.low).c2
        go_wp2_with fail
        refine (put_any w1 A' c' d m.cb.size 1 (by omega) hdl wr HV.out).mono ?_
        rintro e w5 ⟨A5, k5, l5, rfl, HL5, hR5, hk5⟩
        have hn5 : l5.length ≤ 1001 := by rw [HL5.out, List.length_append, beL_length]; omega
        have HR5 := Lib.hid hR5
        have c2 := (HX1.out.later hR5.low).c2
        have hsz : l5.length + m.cb.size ≤ 140737488355328 := by rw [m.cb_size]; omega
        clear hR5
        go_wp2_with (at_builtin; refine wpList_rowS rfl (.tmp 33) (.tmp 35) rfl rfl HR5.out m.cb rfl hsz ?_; intro A6 k6 w6 l6 HL6 hR6 hk6 hby6)
        have HL : Hid (encL m = l6) := Lib.hid (by rw [HL6.out, HL5.out, HD.out, HL3.out, HL2.out, m.cb_data, m.cb_size, enc_flat]; rfl)
        go_ret2
        rw [HE.out]
        show GivesB _ (encL m) 0 _ _
        rw [HL.out]
        exact ⟨A6, k6, rfl, hby6, hk6, HB1.out.trans (hR6.low.mono HB1.out.size)⟩
end Go.Proofs.Ytdjbgphcmmcnhaa
