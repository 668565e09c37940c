/- The law StoreCompacts, over any table of the program's. (Written by wip/tools/genslaw.py.) -/
import Derived.Test.YtalmjmhbpmhokaaGreatMrgStoZ
namespace Go.Proofs.YtalmjmhbpmhokaaGreat
open Go.RowKit Go.Sort

set_option maxRecDepth 100000 in
set_option maxHeartbeats 4000000 in
theorem law_scompacts {T : TabT} (K : TabK T) (A : Option Addr) (c : Nat) (L : List StS) (w : World) (hL : Ss w w.heap.size A L) (hlen : L.length ≤ 9223372036854775807) :
    Calls Tryz.prog 6 #[.slice A L.length c] w fun e w' => e = .returned (.bool true) ∧ Below w.heap.size w w' := by
  have HA := Lib.hid (sawake_any K w)
  have HK := Lib.hid K
  have HL := Lib.hid (fun W (h : Below w.heap.size w W) => hL.below h)
  have HAD := Lib.hid hL.addr
  have HNU := Lib.hid hL.num
  have HLen := Lib.hid hlen
  clear hL K
  go_enter Tryz.func6, Tryz.ntmps6
  go_wp2_with fail
  refine HA.out.mono ?_
  rintro e w1 ⟨rfl, hb1⟩
  have HB1 := Lib.hid hb1
  have HLong := Lib.hid (slong_any (c := c) (HL.out w1 hb1) HLen.out)
  have HN := Lib.hid (dk_new w1 100000 (by decide) (by decide))
  clear hb1
  obtain ⟨lb, hlb⟩ : ∃ lb, lb = longS L := ⟨_, rfl⟩
  rw [← hlb] at HLong
  have HLB := Lib.hid hlb
  clear hlb
  go_wp2_with fail
  refine HLong.out.mono ?_
  rintro e w1' ⟨rfl, rfl⟩
  obtain ⟨D, hD⟩ : ∃ D, D = w1.heap.size := ⟨_, rfl⟩
  obtain ⟨B, hBB⟩ : ∃ B, B = w.heap.size := ⟨_, rfl⟩
  have hBD : B ≤ D := by have := HB1.out.size; omega
  have HBD := Lib.hid hBD
  have HDD := Lib.hid hD
  have HBB := Lib.hid hBB
  obtain ⟨s0, hs0⟩ : ∃ s0 : DS, s0 = ⟨100000, [], 0, -1⟩ := ⟨_, rfl⟩
  have HS0 : Hid (s0 = ⟨(100000 : Int).toNat, [], 0, -1⟩) := Lib.hid hs0
  have HLK0 : Hid (LstK six s0 (knK six []) [] 0) := Lib.hid (by rw [hs0]; exact LstK.new six)
  have HOP0 : Hid (openW s0 = (0, s0)) := Lib.hid HLK0.out.whl.1
  have HKN0 : Hid (knK six (scanL s0.bs) = knK six []) := Lib.hid HLK0.out.whl.2
  clear hD hBB hBD hs0
  go_wp2_with fail
  refine HN.out.mono ?_
  rintro e w2 ⟨rfl, hd2, hB2⟩
  rw [← HDD.out, ← HS0.out] at hd2
  rw [← HDD.out]
  have HD2 := Lib.hid hd2
  have HB2 := Lib.hid (HB1.out.trans (hB2.mono HB1.out.size))
  have HS2 : Hid (B ≤ w2.heap.size) := Lib.hid (by have := hd2.lt D rfl; have := HBD.out; omega)
  have HP := Lib.hid (pool_call w2)
  clear hd2 hB2 HN
  go_wp2_with fail
  refine HP.out.mono ?_
  rintro e w3 ⟨rfl, hB3, hR3⟩
  have HB3 := Lib.hid (HB2.out.trans (hB3.mono HB2.out.size))
  have HS3 : Hid (B ≤ w3.heap.size) := Lib.hid (Nat.le_trans HS2.out hB3.size)
  have HO := open_six HK.out (HD2.out.later hB3) hR3
  unfold Opens6 at HO
  rw [HOP0.out] at HO
  have HO := Lib.hid HO
  clear hB3 hR3
  go_wp2_with fail
  refine HO.out.mono ?_
  rintro e w4 (⟨hno, _⟩ | ⟨_, S, rfl, Q4, s4, hw4⟩)
  · exact absurd rfl hno
  have s4 : Sd T StT LT DT w4 Q4 S D s0 (knK six []) := by have h := s4; rw [HKN0.out] at h; exact h
  have HD4 := Lib.hid s4
  have HQ4 : Hid (∀ b, Q4 b → B ≤ b) := Lib.hid (hw4.low HS3.out (fun b e => by have := HBD.out; omega))
  have HB4 : Hid (Below w.heap.size w w4) := Lib.hid (HB3.out.trans (by have h := hw4.below HS3.out (fun b e => by have := HBD.out; omega); rw [HBB.out] at h; exact h))
  have HS4 : Hid (B ≤ w4.heap.size) := Lib.hid (Nat.le_trans HS3.out hw4.size)
  clear s4 hw4
  cases lb
  rotate_left
  · go_wp2
    go_ret
    exact ⟨rfl, HB4.out⟩
  have HNR := Lib.hid (rdk_new w4 100000 (by decide) (by decide))
  go_wp2_with fail
  refine HNR.out.mono ?_
  rintro e w5 ⟨rfl, hr5, hB5⟩
  obtain ⟨R, hR⟩ : ∃ R, R = w4.heap.size := ⟨_, rfl⟩
  rw [← hR, ← HS0.out] at hr5
  rw [← hR]
  have HAP5 : Hid (Apt B Q4 (· = R)) := Lib.hid ⟨fun b h1 h2 => by have := HD4.out.lt HK.out.fr b h1; omega, HQ4.out, fun b e => by have := HS4.out; omega⟩
  have HD5 := Lib.hid (HD4.out.later HK.out.fr hB5)
  have HR5 := Lib.hid hr5
  have HB5 := Lib.hid (HB4.out.trans (hB5.mono HB4.out.size))
  have HS5 : Hid (B ≤ w5.heap.size) := Lib.hid (Nat.le_trans HS4.out hB5.size)
  have HP5 := Lib.hid (pool_call w5)
  clear hr5 hB5 hR HNR
  go_wp2_with fail
  refine HP5.out.mono ?_
  rintro e w6 ⟨rfl, hB6, hR6⟩
  have HB6 := Lib.hid (HB5.out.trans (hB6.mono HB5.out.size))
  have HS6 : Hid (B ≤ w6.heap.size) := Lib.hid (Nat.le_trans HS5.out hB6.size)
  have HD6 := Lib.hid (HD5.out.later HK.out.fr hB6)
  have HO6 := ropen_six (HR5.out.later hB6) hR6
  unfold Opens6 at HO6
  rw [HOP0.out] at HO6
  have HO6 := Lib.hid HO6
  clear hB6 hR6
  go_wp2_with fail
  refine HO6.out.mono ?_
  rintro e w7 (⟨hno, _⟩ | ⟨_, M, rfl, Q7, r7, hw7⟩)
  · exact absurd rfl hno
  have r7 : Sd TR StR MT RT w7 Q7 M R s0 (knK six []) := by have h := r7; rw [HKN0.out] at h; exact h
  obtain ⟨ap7, kp7, low7⟩ := HAP5.out.second hw7 HS6.out (HD6.out.lt HK.out.fr)
  have HT7 : Hid (TwoS T B D R S M s0 (knK six []) w7) := Lib.hid ⟨Q4, Q7, HD6.out.keep HK.out.fr kp7, r7, ap7⟩
  have HB7 : Hid (Below w.heap.size w w7) := Lib.hid (HB6.out.trans (by rw [HBB.out] at low7; exact low7))
  clear r7 hw7 ap7 kp7 low7
  go_wp2_with fail
  go_loopw [13] (fun i wr => ∃ (j : Nat) (s : DS) (k : Kn) (all : List (List UInt8)) (sure : Nat), j ≤ L.length ∧ i = .int .i64 j ∧ Hid (TwoS T B D R S M s k wr) ∧ Hid (LstK six s k all sure) ∧ Hid (Below w.heap.size w wr)) (fun i _ => L.length - (intOf i).toNat)
  case atStart => exact ⟨0, s0, _, [], 0, Nat.zero_le _, rfl, HT7, HLK0, HB7⟩
  case round =>
    obtain ⟨j, s, k, all, sure, hj, rfl, HT, HLK, HBj⟩ := hrel
    by_cases hlt : j < L.length
    · obtain ⟨x, hx⟩ : ∃ x, L[j]? = some x := ⟨_, List.getElem?_eq_getElem hlt⟩
      obtain ⟨b, o, rfl, _, c0, c1, c2, c3, c4, c5, c6, c7, c8, c9⟩ := (HL.out wr HBj.out).at_ j x hx
      have hmem := List.mem_of_getElem? hx
      have HA0 := Lib.hid (HAD.out x hmem)
      have HN0 := Lib.hid (HNU.out x hmem)
      have Hlt := Lib.hid hlt
      clear hmem hx
      by_cases h0 : 0 ≤ x.do_
      rotate_left
      · have d1 : decide (0 ≤ x.do_) = false := decide_eq_false h0
        clear h0
        go_wp2_with fail
        go_roundw
        case rel => exact ⟨j + 1, s, k, all, sure, Hlt.out, by go_num, HT, HLK, HBj⟩
        case measure => have := Hlt.out; simp [intOf]; omega
      have d1 : decide (0 ≤ x.do_) = true := decide_eq_true h0
      by_cases h5 : x.do_ < 5
      rotate_left
      · have d2 : decide (x.do_ < 5) = false := decide_eq_false h5
        clear h0 h5
        go_wp2_with fail
        go_roundw
        case rel => exact ⟨j + 1, s, k, all, sure, Hlt.out, by go_num, HT, HLK, HBj⟩
        case measure => have := Hlt.out; simp [intOf]; omega
      have d2 : decide (x.do_ < 5) = true := decide_eq_true h5
      have HST := Lib.hid (sstep_same HK.out HT.out x HA0.out HN0.out ⟨h0, by omega⟩)
      obtain ⟨all', sure', hlk, -⟩ := HLK.out.step six_up six_32 (by decide) x h0 (by omega)
      have HLK2 := Lib.hid hlk
      clear h0 h5 hlk
      obtain ⟨r, hr⟩ : ∃ r, r = stepS six s k x := ⟨_, rfl⟩
      rw [← hr] at HST HLK2
      clear hr
      go_wp2_with fail
      refine HST.out.mono ?_
      rintro e w8 ⟨rfl, hT8, hB8⟩
      have HT8 := Lib.hid hT8
      have HB8 : Hid (Below w.heap.size w w8) := Lib.hid (HBj.out.trans (by rw [HBB.out] at hB8; exact hB8))
      clear hT8 hB8 c0 c1 c2 c3 c4 c5 c6 c7 c8 c9 d1 d2
      go_wp2_with fail
      go_roundw
      case rel => exact ⟨j + 1, r.2.1, r.2.2, all', sure', Hlt.out, by go_num, HT8, HLK2, HB8⟩
      case measure => have := Hlt.out; simp [intOf]; omega
    · obtain rfl : j = L.length := by omega
      obtain ⟨Q, Q2, hs, -, hap⟩ := HT.out.two
      have HS := Lib.hid hs
      have HLow : Hid (∀ b, Q b → w.heap.size ≤ b) := Lib.hid (by rw [← HBB.out]; exact hap.l1)
      obtain ⟨hc0, hlk1⟩ := HLK.out.comp six_up six_32 (by decide)
      obtain ⟨hk1, hn8⟩ := HLK.out.comp_again six_up six_32 (by decide) 0
      obtain ⟨s1, hs1⟩ : ∃ s1, s1 = (compW s (recsK k)).2 := ⟨_, rfl⟩
      rw [← hs1] at hk1 hn8 hlk1
      have HCC : Hid (∀ W, Sd T StT LT DT W Q S D s k → Calls Tryz.prog 25 #[ptr S] W fun e w' => e = .returned (.int .i64 0) ∧ Upd T StT LT DT W Q S D w' s1 k) := Lib.hid (fun W hS => (sd_compact HK.out hS).mono fun e w' ⟨he, hu⟩ => ⟨by rw [he]; show Ending.returned (.int .i64 (compW s (recsK k)).1) = _; rw [hc0], by rw [hs1]; exact hu⟩)
      have HK1 := Lib.hid hk1
      have HN8 := Lib.hid hn8
      have HAg := Lib.hid (again_opens hlk1.ok 0).1
      obtain ⟨P, g, hT, hPQ, hTab⟩ := sd_table HK.out.fr hs
      have HTB := Lib.hid (hTab wr (KpT.of_below (Below.refl _ _) (hs.lt HK.out.fr))).2
      have HALL := Lib.hid (HK.out.all hT)
      have hfew : k.L.length ≤ 100000 := Nat.le_trans (HK.out.few hT) (by omega)
      clear hs hap hc0 hlk1 hk1 hn8 hs1 hT hPQ hTab
      go_wp2_with fail
      refine HTB.out.mono ?_
      rintro e w' ⟨rfl, rfl⟩
      go_wp2_with fail
      refine HALL.out.mono ?_
      rintro e wa ⟨A8, c8, l8, rfl, HL8, hR8, hc8⟩
      have HSa := Lib.hid (HS.out.later HK.out.fr hR8.low)
      have HE8 : Hid (∀ W Q', Way Q wa Q' W → El ElemL W W.heap.size A8 l8) := Lib.hid (fun W Q' hw => El.oth hR8 hw.oth (fun k hk hq => by have h1 := (hR8.lt k hk).1; have h2 := HS.out.lt HK.out.fr k hq; omega) rfl)
      have HBa := Lib.hid (HBj.out.trans (hR8.low.mono HBj.out.size))
      have HWA : Hid (∀ W Q', Way Q wa Q' W → Below w.heap.size w W) := Lib.hid (fun W Q' hw => HBa.out.trans (hw.below HBa.out.size HLow.out))
      have HST := Lib.hid (sd_state HSa.out)
      have HLI := Lib.hid (sd_life HSa.out)
      have HC := Lib.hid (HCC.out wa HSa.out)
      clear hR8
      go_wp2_with fail
      refine HST.out.mono ?_
      rintro e w' ⟨rfl, rfl⟩
      go_wp2_with fail
      refine HLI.out.mono ?_
      rintro e w' ⟨rfl, rfl⟩
      go_wp2_with fail
      refine HC.out.mono ?_
      rintro e wb ⟨rfl, Qb, sb, hwb⟩
      have HSb := Lib.hid sb
      have HWb := Lib.hid hwb
      obtain ⟨P, g2, hT, hPQ, hTab⟩ := sd_table HK.out.fr sb
      have HTB2 := Lib.hid (hTab wb (KpT.of_below (Below.refl _ _) (sb.lt HK.out.fr))).2
      have HALL2 := Lib.hid (HK.out.all hT)
      clear sb hwb hT hPQ hTab
      go_wp2_with fail
      refine HTB2.out.mono ?_
      rintro e w' ⟨rfl, rfl⟩
      go_wp2_with fail
      refine HALL2.out.mono ?_
      rintro e wc ⟨A9, c9, l9, rfl, HL9, hR9, hc9⟩
      have HSc := Lib.hid (HSb.out.later HK.out.fr hR9.low)
      have HWc := Lib.hid (HWb.out.trans (Way.of_below hR9.low))
      have HSM := lsame_any _ _ A9 A8 c9 c8 l9 l8 wc (El.of_own hR9.own) (HE8.out wc _ HWc.out) (by rw [HL9.out]; exact hfew)
      rw [decide_eq_true (show l9 = l8 by rw [HL9.out, HL8.out])] at HSM
      have HSM := Lib.hid HSM
      clear hR9
      go_wp2_with fail
      refine HSM.out.mono ?_
      rintro e wd ⟨rfl, n, hn⟩
      have hBd : Below wc.heap.size wc wd := by rw [hn]; exact below_drewN wc n
      have HSd := Lib.hid (HSc.out.later HK.out.fr hBd)
      have HWd := Lib.hid (HWc.out.trans (Way.of_below hBd))
      obtain ⟨Q0, dd, sub⟩ := HSd.out.dk
      have HSub := Lib.hid sub
      have HCR := Lib.hid (dk_crash dd 0)
      clear hn hBd dd sub
      go_wp2_with fail
      refine HCR.out.mono ?_
      rintro e we ⟨rfl, Qe, de, hwe⟩
      have HDe := Lib.hid de
      have HWe := Lib.hid (HWd.out.trans (hwe.sup HSub.out))
      have HPe := Lib.hid (pool_call we)
      clear de hwe
      go_wp2_with fail
      refine HPe.out.mono ?_
      rintro e wf ⟨rfl, hBf, hRf⟩
      have HWf := Lib.hid (HWe.out.trans (Way.of_below hBf))
      have HOf := Lib.hid (open_six HK.out (HDe.out.later hBf) hRf)
      clear hBf hRf
      go_wp2_with fail
      refine HOf.out.mono ?_
      rintro e wg (⟨hno, _⟩ | ⟨_, U, rfl, Qg, sg, hwg⟩)
      · exact absurd HAg.out hno
      have sg : Sd T StT LT DT wg Qg U D (againW s1 0).2 k := by have h := sg; rw [← HK1.out]; exact h
      have HSg := Lib.hid sg
      have HWg := Lib.hid (HWf.out.trans hwg)
      obtain ⟨P, g3, hT, hPQ, hTab⟩ := sd_table HK.out.fr sg
      have HTB3 := Lib.hid (hTab wg (KpT.of_below (Below.refl _ _) (sg.lt HK.out.fr))).2
      have HALL3 := Lib.hid (HK.out.all hT)
      clear sg hwg hT hPQ hTab
      go_wp2_with fail
      refine HTB3.out.mono ?_
      rintro e w' ⟨rfl, rfl⟩
      go_wp2_with fail
      refine HALL3.out.mono ?_
      rintro e wh ⟨Ah, ch, lh, rfl, HLh, hRh, hch⟩
      have HSh := Lib.hid (HSg.out.later HK.out.fr hRh.low)
      have HWh := Lib.hid (HWg.out.trans (Way.of_below hRh.low))
      have HSM2 := lsame_any _ _ Ah A8 ch c8 lh l8 wh (El.of_own hRh.own) (HE8.out wh _ HWh.out) (by rw [HLh.out]; exact hfew)
      rw [decide_eq_true (show lh = l8 by rw [HLh.out, HL8.out])] at HSM2
      have HSM2 := Lib.hid HSM2
      clear hRh
      go_wp2_with fail
      refine HSM2.out.mono ?_
      rintro e wi ⟨rfl, n, hn⟩
      have hBi : Below wh.heap.size wh wi := by rw [hn]; exact below_drewN wh n
      have HSi := Lib.hid (HSh.out.later HK.out.fr hBi)
      have HWi := Lib.hid (HWh.out.trans (Way.of_below hBi))
      have HST2 := Lib.hid (sd_state HSi.out)
      have HLI2 := Lib.hid (sd_life HSi.out)
      have HLE2 := Lib.hid (sd_len HSi.out)
      have e1 : (k.st == k.st) = true := by simp
      have e2 : (k.lf == k.lf) = true := by simp
      clear hn hBi
      go_wp2_with fail
      refine HST2.out.mono ?_
      rintro e w' ⟨rfl, rfl⟩
      go_wp2_with fail
      refine HLI2.out.mono ?_
      rintro e w' ⟨rfl, rfl⟩
      go_wp2_with fail
      refine HLE2.out.mono ?_
      rintro e wj ⟨rfl, hBj⟩
      obtain ⟨n8, hn8⟩ : ∃ n : Nat, n = (scanL (againW s1 0).2.bs).length := ⟨_, rfl⟩
      have h8 : (n8 : Int) ≤ 8 := by have := HN8.out; omega
      have d8 : decide ((n8 : Int) ≤ 8) = true := decide_eq_true h8
      rw [← hn8]
      have HBF := Lib.hid (HWA.out _ _ (HWi.out.trans (Way.of_below hBj)))
      clear hn8 hBj
      go_wp2
      go_ret
      exact ⟨rfl, HBF.out⟩
end Go.Proofs.YtalmjmhbpmhokaaGreat
