/- The law StoreScripts, over any table of the program's. -/
import Derived.Test.YtalmjmhbpmhokaaGreatMrgStoK
import Derived.Deep.RegionWith
namespace Go.Proofs.YtalmjmhbpmhokaaGreat
open Go.RowKit Go.Sort

/-- What a disk of the document's tells of its bytes. -/
theorem Dk.tells {w : World} {Q : Nat → Prop} {R : Nat} {s : DS} (h : Dk RT w Q R s) : ∃ A c, w.cell? ⟨R, 1, none⟩ = some (.slice A s.bs.length c) ∧ By w w.heap.size A s.bs ∧ R < w.heap.size := by
  obtain ⟨v, h, _, rfl⟩ := h
  obtain ⟨A, c, rfl, _, hby⟩ := h.form
  exact ⟨A, c, h.c1, hby, h.dlt⟩
theorem dk_read {w : World} {Q : Nat → Prop} {D : Nat} {s : DS} (h : Dk DT w Q D s) : Calls Tryz.prog 17 #[ptr D] w (GiveB w s.bs) := by
  obtain ⟨v, h, ho, rfl⟩ := h
  exact read_any h ho
theorem give_text {w : World} {l : List UInt8} {e : Ending} {w' : World} (h : GiveB w l e w') : ∃ A c, e = .returned (.slice A l.length c) ∧ By w' w'.heap.size A l ∧ Below w.heap.size w w' := by
  obtain ⟨v, rfl, ho, hb⟩ := h
  obtain ⟨A, c, rfl, _⟩ := own_form ho
  exact ⟨A, c, rfl, By.of_own ho, hb⟩

set_option maxRecDepth 100000 in
set_option maxHeartbeats 4000000 in
theorem law_sscripts {T : TabT} (K : TabK T) (room : Int) (A : Option Addr) (c : Nat) (L : List StS) (w : World) (hL : Ss w w.heap.size A L) (hlen : L.length ≤ 9223372036854775807) :
    Calls Tryz.prog 3 #[.int .i64 room, .slice A L.length c] w fun e w' => e = .returned (.bool true) ∧ Below w.heap.size w w' := by
  have HA := Lib.hid (sawake_any K w)
  have HK := Lib.hid K
  have HL := Lib.hid (fun W (h : Below w.heap.size w W) => hL.below h)
  have HAD := Lib.hid hL.addr
  have HNU := Lib.hid hL.num
  have HLen := Lib.hid hlen
  clear hL K
  go_enter Tryz.func3, Tryz.ntmps3
  go_wp2_with fail
  refine HA.out.mono ?_
  rintro e w1 ⟨rfl, hb1⟩
  have HB1 := Lib.hid hb1
  have HLong := Lib.hid (slong_any (c := c) (HL.out w1 hb1) HLen.out)
  have HN := Lib.hid (new_any w1 room)
  clear hb1
  obtain ⟨lb, hlb⟩ : ∃ lb, lb = longS L := ⟨_, rfl⟩
  rw [← hlb] at HLong
  clear hlb
  go_wp2_with fail
  refine HLong.out.mono ?_
  rintro e w1' ⟨rfl, rfl⟩
  by_cases hroom : 1 ≤ room ∧ room ≤ 1048576
  rotate_left
  · have HNo := Lib.hid hroom
    go_wp2_with fail
    refine HN.out.mono ?_
    rintro e w2 (⟨k, hk, hk0, hk1, _⟩ | ⟨_, rfl, rfl⟩)
    · exact absurd ⟨by omega, by omega⟩ HNo.out
    have HR := Lib.hid (rnew_any w2 room)
    clear hroom
    go_wp2_with fail
    refine HR.out.mono ?_
    rintro e w3 (⟨k', hkk, hk1, hk2, _⟩ | ⟨_, rfl, rfl⟩)
    · exact absurd ⟨by omega, by omega⟩ HNo.out
    cases lb
    · go_wp2
      go_ret
      exact ⟨rfl, HB1.out⟩
    · go_wp2
      go_ret
      exact ⟨rfl, HB1.out⟩
  have HDK := Lib.hid (dk_new w1 room hroom.1 hroom.2)
  have HROOM := Lib.hid hroom
  obtain ⟨D, hD⟩ : ∃ D, D = w1.heap.size := ⟨_, rfl⟩
  obtain ⟨B, hBB⟩ : ∃ B, B = w.heap.size := ⟨_, rfl⟩
  have hBD : B ≤ D := by have := HB1.out.size; omega
  have HBD := Lib.hid hBD
  have HDD := Lib.hid hD
  have HBB := Lib.hid hBB
  obtain ⟨s0, hs0⟩ : ∃ s0 : DS, s0 = ⟨room.toNat, [], 0, -1⟩ := ⟨_, rfl⟩
  have HS0 := Lib.hid hs0
  have HOP0 : Hid (openW s0 = (0, s0)) := Lib.hid (by rw [hs0]; exact (Whl.new _ 0 (-1)).open_)
  have hok0 : s0.Ok := by rw [hs0]; exact ok_new (by omega) (by omega)
  have HOK0 := Lib.hid hok0
  clear hroom hD hBB hBD hs0 HN hok0
  go_wp2_with fail
  refine HDK.out.mono ?_
  rintro e w2 ⟨rfl, hd2, hB2⟩
  rw [← HDD.out, ← HS0.out] at hd2
  rw [← HDD.out]
  have HD2 := Lib.hid hd2
  have HB2 := Lib.hid (HB1.out.trans (hB2.mono HB1.out.size))
  have HDlt : Hid (D < w2.heap.size) := Lib.hid (hd2.lt D rfl)
  have HNR := Lib.hid (rdk_new w2 room HROOM.out.1 HROOM.out.2)
  clear hd2 hB2 HDK
  go_wp2_with fail
  refine HNR.out.mono ?_
  rintro e w3 ⟨rfl, hr3, hB3⟩
  obtain ⟨R, hR⟩ : ∃ R, R = w2.heap.size := ⟨_, rfl⟩
  rw [← hR, ← HS0.out] at hr3
  rw [← hR]
  have HAP3 : Hid (Apt B (· = D) (· = R)) := Lib.hid (Apt.two HBD.out (by have := HDlt.out; omega))
  have HD3 := Lib.hid (HD2.out.later hB3)
  have HR3 := Lib.hid hr3
  have HB3 := Lib.hid (HB2.out.trans (hB3.mono HB2.out.size))
  have HS3 : Hid (B ≤ w3.heap.size) := Lib.hid (by have := HB3.out.size; have := HBB.out; omega)
  have HP := Lib.hid (pool_call w3)
  clear hr3 hB3 hR HNR
  cases lb
  rotate_left
  · go_wp2
    go_ret
    exact ⟨rfl, HB3.out⟩
  go_wp2_with fail
  refine HP.out.mono ?_
  rintro e w4 ⟨rfl, hB4, hR4⟩
  have HB4 := Lib.hid (HB3.out.trans (hB4.mono HB3.out.size))
  have HS4 : Hid (B ≤ w4.heap.size) := Lib.hid (Nat.le_trans HS3.out hB4.size)
  have HD4 := Lib.hid (HD3.out.later hB4)
  have HR4 := Lib.hid (HR3.out.later hB4)
  have HO := open_six HK.out HD4.out hR4
  unfold Opens6 at HO
  rw [HOP0.out] at HO
  have HO := Lib.hid HO
  clear hB4 hR4
  go_wp2_with fail
  refine HO.out.mono ?_
  rintro e w5 (⟨hno, _⟩ | ⟨_, S5, rfl, Q5, s5, hw5⟩)
  · exact absurd rfl hno
  obtain ⟨ap5, kp5, low5⟩ := HAP3.out.first hw5 HS4.out HR4.out.lt
  have HD5 := Lib.hid s5
  have HR5 := Lib.hid (HR4.out.keep kp5)
  have HAP5 := Lib.hid ap5
  have HB5 := Lib.hid (HB4.out.trans (by rw [HBB.out] at low5; exact low5))
  have HS5 : Hid (B ≤ w5.heap.size) := Lib.hid (Nat.le_trans HS4.out hw5.size)
  have HP5 := Lib.hid (pool_call w5)
  clear s5 hw5 ap5 kp5 low5
  go_wp2_with fail
  refine HP5.out.mono ?_
  rintro e w6 ⟨rfl, hB6, hR6⟩
  have HB6 := Lib.hid (HB5.out.trans (hB6.mono HB5.out.size))
  have HS6 : Hid (B ≤ w6.heap.size) := Lib.hid (Nat.le_trans HS5.out hB6.size)
  have HD6 := Lib.hid (HD5.out.later HK.out.fr hB6)
  have HR6 := Lib.hid (HR5.out.later hB6)
  have HO6 := ropen_six HR6.out hR6
  unfold Opens6 at HO6
  rw [HOP0.out] at HO6
  have HO6 := Lib.hid HO6
  clear hB6 hR6
  go_wp2_with fail
  refine HO6.out.mono ?_
  rintro e w7 (⟨hno, _⟩ | ⟨_, M7, rfl, Q7, r7, hw7⟩)
  · exact absurd rfl hno
  obtain ⟨ap7, kp7, low7⟩ := HAP5.out.second hw7 HS6.out (HD6.out.lt HK.out.fr)
  have HT7 : Hid (TwoS T B D R S5 M7 s0 (knK six (scanL s0.bs)) w7) := Lib.hid ⟨Q5, Q7, HD6.out.keep HK.out.fr kp7, r7, ap7⟩
  have HB7 := Lib.hid (HB6.out.trans (by rw [HBB.out] at low7; exact low7))
  have HKN : Hid (KnOk six (knK six (scanL s0.bs))) := Lib.hid (KnOk.all six_up _)
  clear r7 hw7 ap7 kp7 low7
  go_wp2
  go_loopw [11, 13, 15, 16, 17, 18, 19] (fun x y i _ _ _ _ wr => ∃ (j S M : Nat) (s : DS) (k : Kn), j ≤ L.length ∧ x = ptr S ∧ y = ptr M ∧ i = .int .i64 j ∧ Hid (TwoS T B D R S M s k wr) ∧ Hid (s.Ok ∧ KnOk six k) ∧ Hid (Below w.heap.size w wr)) (fun _ _ i _ _ _ _ _ => L.length - (intOf i).toNat)
  case atStart => exact ⟨0, S5, M7, s0, _, Nat.zero_le _, rfl, rfl, rfl, HT7, Lib.hid ⟨HOK0.out, HKN.out⟩, HB7⟩
  case round =>
    obtain ⟨j, S, M, s, k, hj, rfl, rfl, rfl, HT, HOK, HBj⟩ := hrel
    by_cases hlt : j < L.length
    · obtain ⟨x, hx⟩ : ∃ x, L[j]? = some x := ⟨_, List.getElem?_eq_getElem hlt⟩
      obtain ⟨b, o, rfl, _, c0, c1, c2, c3, c4, c5, c6, c7, c8, c9⟩ := (HL.out wr HBj.out).at_ j x hx
      have hmem := List.mem_of_getElem? hx
      have HST := Lib.hid (sstep_any HK.out HT.out x (HAD.out x hmem) (HNU.out x hmem))
      have HOK2 := Lib.hid (step_ok six_up HOK.out.1 HOK.out.2 (HNU.out x hmem))
      have Hlt := Lib.hid hlt
      clear hmem hx
      obtain ⟨r, hr⟩ : ∃ r, r = stepS six s k x := ⟨_, rfl⟩
      rw [← hr] at HST HOK2
      clear hr
      go_wp2_with fail
      refine HST.out.mono ?_
      rintro e w8 ⟨S8, M8, rfl, hT8, hB8⟩
      have HT8 := Lib.hid hT8
      have HB8 := Lib.hid (HBj.out.trans (by rw [HBB.out] at hB8; exact hB8))
      obtain ⟨Q8, R8, hs8, hm8, hap8⟩ := hT8.two
      have HAL := alike_any HK.out hs8 hm8
      rw [alike_self] at HAL
      have HAL := Lib.hid HAL
      clear hT8 hB8 hs8 hm8 hap8 c0 c1 c2 c3 c4 c5 c6 c7 c8 c9
      go_wp2_with fail
      refine HAL.out.mono ?_
      rintro e w9 ⟨rfl, hB9⟩
      have HT9 := Lib.hid (HT8.out.later HK.out.fr hB9)
      have HB9 := Lib.hid (HB8.out.trans (hB9.mono HB8.out.size))
      obtain ⟨Q9, R9, hs9, hm9, hap9⟩ := HT9.out.two
      obtain ⟨Q0, hd9, -⟩ := hs9.dk
      obtain ⟨R0, hr9, -⟩ := hm9.dk
      obtain ⟨Au, cu, u1, hbu, hRlt⟩ := hr9.tells
      obtain ⟨bl, hbl⟩ : ∃ bl, bl = r.2.1.bs := ⟨_, rfl⟩
      rw [← hbl] at u1 hbu
      have HU : Hid (∀ W, Below w9.heap.size w9 W → W.cell? ⟨R, 1, none⟩ = some (.slice Au bl.length cu) ∧ (convert 49 9 (.slice Au bl.length cu)).run Tryz.prog W = .ok (.string ⟨bl.toArray⟩) W) := Lib.hid (fun W hb => ⟨(hb.cell (p := ⟨R, 1, none⟩) hRlt).trans u1, str_run cu (hbu.later hb)⟩)
      have HRd := Lib.hid (fun W (hb : Below w9.heap.size w9 W) => dk_read (hd9.later hb))
      rw [← hbl] at HRd
      obtain ⟨u1, hcu⟩ := HU.out w9 (Below.refl _ _)
      clear hB9 hs9 hm9 hap9 hd9 hr9 hbu hRlt hbl
      go_upto_region 20 with fail
      have u1d := (HU.out w9.drew (Below.refl _ _).drew).1
      have hcud := (HU.out w9.drew (Below.refl _ _).drew).2
      go_region_with (go_at_call 17; refine (HRd.out _ (Below.refl _ _).drew).mono ?_; intro e wc hgc; obtain ⟨Ac, cc, rfl, hbc, hBc0⟩ := give_text hgc; have hBc : Below w9.heap.size w9 wc := wayB hBc0; have hsA := str_run cc hbc; obtain ⟨k1, k2⟩ := HU.out wc hBc; clear hgc hbc hBc0)
      all_goals
        have HB10 : Hid (Below w.heap.size w wc) := Lib.hid (HB9.out.trans (hBc.mono HB9.out.size))
        have HT10 := Lib.hid (HT9.out.later HK.out.fr hBc)
        clear hBc hsA hcu u1 u1d hcud k1 k2
        go_wp2_with fail
        go_roundw
        case rel => exact ⟨j + 1, S8, M8, r.2.1, r.2.2, by have := Hlt.out; omega, rfl, rfl, by go_num, HT10, HOK2, HB10⟩
        case measure => have := Hlt.out; simp [intOf]; omega
    · obtain rfl : j = L.length := by omega
      go_wp2
      go_ret
      exact ⟨rfl, HBj.out⟩
end Go.Proofs.YtalmjmhbpmhokaaGreat
