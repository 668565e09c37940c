/- The law StoreAgain, over any table of the program's. (Written by wip/tools/genslaw.py.) -/
import Derived.Test.YtalmjmhbpmhokaaGreatMrgStoZ
import Derived.Deep.DeepCutAuto
import Derived.Deep.RegionWith
import Derived.BigQuiet
namespace Go.Proofs.YtalmjmhbpmhokaaGreat
open Go.RowKit Go.Sort
attribute [local go_sem ↓] run_eqlL run_neqL run_guardL

theorem again_new {w1 w3 : World} {q : LV} (h : Below w1.drew.heap.size w1.drew w3) : LBox (w3.alloc (lbox q)) w3.heap.size q ∧ Below w1.heap.size w1 (w3.alloc (lbox q)) :=
  ⟨LBox.new w3 q, (wayB h).alloc (wayB h).size _⟩
theorem again_old {w1 w3 : World} {q : LV} (h : Below (w1.alloc (lbox zeroL)).drew.heap.size (w1.alloc (lbox zeroL)).drew w3) : LBox (storeL w3 w1.heap.size q) w1.heap.size q ∧ Below w1.heap.size w1 (storeL w3 w1.heap.size q) :=
  ⟨storeL_box (((LBox.new w1 zeroL).drew).later h) q, (wayA h).trans (storeL_low w3 w1.heap.size w1.heap.size (Nat.le_refl _) q)⟩

set_option maxRecDepth 100000 in
set_option maxHeartbeats 4000000 in
theorem law_sagain {T : TabT} (K : TabK T) (A A1 : Option Addr) (c c1 : Nat) (L : List StS) (l : List (Nat × Nat)) (w : World) (hL : Ss w w.heap.size A L) (hR : Rg w w.heap.size A1 l) (hlen : L.length ≤ 9223372036854775807) (hl : l.length ≤ 9223372036854775807) :
    Calls Tryz.prog 7 #[.slice A L.length c, .slice A1 l.length c1] w fun e w' => e = .returned (.bool true) ∧ Below w.heap.size w w' := by
  have HA := Lib.hid (sawake_any K w)
  have HK := Lib.hid K
  have HL := Lib.hid (fun W (h : Below w.heap.size w W) => hL.below h)
  have HAD := Lib.hid hL.addr
  have HRG := Lib.hid (fun W (h : Below w.heap.size w W) => (hR.below h).more h.size)
  have HNU := Lib.hid hL.num
  have HLen := Lib.hid hlen
  clear hL K hR
  go_enter Tryz.func7, Tryz.ntmps7
  go_wp2_with fail
  refine HA.out.mono ?_
  rintro e w1 ⟨rfl, hb1⟩
  have HB1 := Lib.hid hb1
  have HLong := Lib.hid (slong_any (c := c) (HL.out w1 hb1) HLen.out)
  have HN := Lib.hid (dk_new w1 100000 (by decide) (by decide))
  clear hb1
  obtain ⟨lb, hlb⟩ : ∃ lb, lb = longS L := ⟨_, rfl⟩
  rw [← hlb] at HLong
  have HLB := Lib.hid hlb
  clear hlb
  go_wp2_with fail
  refine HLong.out.mono ?_
  rintro e w1' ⟨rfl, rfl⟩
  obtain ⟨D, hD⟩ : ∃ D, D = w1.heap.size := ⟨_, rfl⟩
  obtain ⟨B, hBB⟩ : ∃ B, B = w.heap.size := ⟨_, rfl⟩
  have hBD : B ≤ D := by have := HB1.out.size; omega
  have HBD := Lib.hid hBD
  have HDD := Lib.hid hD
  have HBB := Lib.hid hBB
  obtain ⟨s0, hs0⟩ : ∃ s0 : DS, s0 = ⟨100000, [], 0, -1⟩ := ⟨_, rfl⟩
  have HS0 : Hid (s0 = ⟨(100000 : Int).toNat, [], 0, -1⟩) := Lib.hid hs0
  have HLK0 : Hid (LstK six s0 (knK six []) [] 0) := Lib.hid (by rw [hs0]; exact LstK.new six)
  have HOP0 : Hid (openW s0 = (0, s0)) := Lib.hid HLK0.out.whl.1
  have HKN0 : Hid (knK six (scanL s0.bs) = knK six []) := Lib.hid HLK0.out.whl.2
  clear hD hBB hBD hs0
  go_wp2_with fail
  refine HN.out.mono ?_
  rintro e w2 ⟨rfl, hd2, hB2⟩
  rw [← HDD.out, ← HS0.out] at hd2
  rw [← HDD.out]
  have HD2 := Lib.hid hd2
  have HB2 := Lib.hid (HB1.out.trans (hB2.mono HB1.out.size))
  have HS2 : Hid (B ≤ w2.heap.size) := Lib.hid (by have := hd2.lt D rfl; have := HBD.out; omega)
  have HP := Lib.hid (pool_call w2)
  clear hd2 hB2 HN
  go_wp2_with fail
  refine HP.out.mono ?_
  rintro e w3 ⟨rfl, hB3, hR3⟩
  have HB3 := Lib.hid (HB2.out.trans (hB3.mono HB2.out.size))
  have HS3 : Hid (B ≤ w3.heap.size) := Lib.hid (Nat.le_trans HS2.out hB3.size)
  have HO := open_six HK.out (HD2.out.later hB3) hR3
  unfold Opens6 at HO
  rw [HOP0.out] at HO
  have HO := Lib.hid HO
  clear hB3 hR3
  go_wp2_with fail
  refine HO.out.mono ?_
  rintro e w4 (⟨hno, _⟩ | ⟨_, S, rfl, Q4, s4, hw4⟩)
  · exact absurd rfl hno
  have s4 : Sd T StT LT DT w4 Q4 S D s0 (knK six []) := by have h := s4; rw [HKN0.out] at h; exact h
  have HD4 := Lib.hid s4
  have HQ4 : Hid (∀ b, Q4 b → B ≤ b) := Lib.hid (hw4.low HS3.out (fun b e => by have := HBD.out; omega))
  have HB4 : Hid (Below w.heap.size w w4) := Lib.hid (HB3.out.trans (by have h := hw4.below HS3.out (fun b e => by have := HBD.out; omega); rw [HBB.out] at h; exact h))
  have HS4 : Hid (B ≤ w4.heap.size) := Lib.hid (Nat.le_trans HS3.out hw4.size)
  clear s4 hw4
  cases lb
  rotate_left
  · go_wp2
    go_ret
    exact ⟨rfl, HB4.out⟩
  by_cases h50 : 50 < l.length
  · go_wp2
    go_ret
    exact ⟨rfl, HB4.out⟩
  have hl5 : (l.length : Int) ≤ 50 := by omega
  have HNR := Lib.hid (rdk_new w4 100000 (by decide) (by decide))
  go_wp2_with fail
  refine HNR.out.mono ?_
  rintro e w5 ⟨rfl, hr5, hB5⟩
  obtain ⟨R, hR⟩ : ∃ R, R = w4.heap.size := ⟨_, rfl⟩
  rw [← hR, ← HS0.out] at hr5
  rw [← hR]
  have HAP5 : Hid (Apt B Q4 (· = R)) := Lib.hid ⟨fun b h1 h2 => by have := HD4.out.lt HK.out.fr b h1; omega, HQ4.out, fun b e => by have := HS4.out; omega⟩
  have HD5 := Lib.hid (HD4.out.later HK.out.fr hB5)
  have HR5 := Lib.hid hr5
  have HB5 := Lib.hid (HB4.out.trans (hB5.mono HB4.out.size))
  have HS5 : Hid (B ≤ w5.heap.size) := Lib.hid (Nat.le_trans HS4.out hB5.size)
  have HP5 := Lib.hid (pool_call w5)
  clear hr5 hB5 hR HNR
  go_wp2_with fail
  refine HP5.out.mono ?_
  rintro e w6 ⟨rfl, hB6, hR6⟩
  have HB6 := Lib.hid (HB5.out.trans (hB6.mono HB5.out.size))
  have HS6 : Hid (B ≤ w6.heap.size) := Lib.hid (Nat.le_trans HS5.out hB6.size)
  have HD6 := Lib.hid (HD5.out.later HK.out.fr hB6)
  have HO6 := ropen_six (HR5.out.later hB6) hR6
  unfold Opens6 at HO6
  rw [HOP0.out] at HO6
  have HO6 := Lib.hid HO6
  clear hB6 hR6
  go_wp2_with fail
  refine HO6.out.mono ?_
  rintro e w7 (⟨hno, _⟩ | ⟨_, M, rfl, Q7, r7, hw7⟩)
  · exact absurd rfl hno
  have r7 : Sd TR StR MT RT w7 Q7 M R s0 (knK six []) := by have h := r7; rw [HKN0.out] at h; exact h
  obtain ⟨ap7, kp7, low7⟩ := HAP5.out.second hw7 HS6.out (HD6.out.lt HK.out.fr)
  have HT7 : Hid (TwoS T B D R S M s0 (knK six []) w7) := Lib.hid ⟨Q4, Q7, HD6.out.keep HK.out.fr kp7, r7, ap7⟩
  have HB7 : Hid (Below w.heap.size w w7) := Lib.hid (HB6.out.trans (by rw [HBB.out] at low7; exact low7))
  clear r7 hw7 ap7 kp7 low7
  go_wp2_with fail
  go_loopw [15] (fun i wr => ∃ (j : Nat) (s : DS) (k : Kn) (all : List (List UInt8)) (sure : Nat), j ≤ L.length ∧ i = .int .i64 j ∧ Hid (TwoS T B D R S M s k wr) ∧ Hid (LstK six s k all sure) ∧ Hid (Below w.heap.size w wr)) (fun i _ => L.length - (intOf i).toNat)
  case atStart => exact ⟨0, s0, _, [], 0, Nat.zero_le _, rfl, HT7, HLK0, HB7⟩
  case round =>
    obtain ⟨j, s, k, all, sure, hj, rfl, HT, HLK, HBj⟩ := hrel
    by_cases hlt : j < L.length
    · obtain ⟨x, hx⟩ : ∃ x, L[j]? = some x := ⟨_, List.getElem?_eq_getElem hlt⟩
      obtain ⟨b, o, rfl, _, c0, c1, c2, c3, c4, c5, c6, c7, c8, c9⟩ := (HL.out wr HBj.out).at_ j x hx
      have hmem := List.mem_of_getElem? hx
      have HA0 := Lib.hid (HAD.out x hmem)
      have HN0 := Lib.hid (HNU.out x hmem)
      have Hlt := Lib.hid hlt
      clear hmem hx
      by_cases h0 : 0 ≤ x.do_
      rotate_left
      · have d1 : decide (0 ≤ x.do_) = false := decide_eq_false h0
        clear h0
        go_wp2_with fail
        go_roundw
        case rel => exact ⟨j + 1, s, k, all, sure, Hlt.out, by go_num, HT, HLK, HBj⟩
        case measure => have := Hlt.out; simp [intOf]; omega
      have d1 : decide (0 ≤ x.do_) = true := decide_eq_true h0
      by_cases h5 : x.do_ < 5
      rotate_left
      · have d2 : decide (x.do_ < 5) = false := decide_eq_false h5
        clear h0 h5
        go_wp2_with fail
        go_roundw
        case rel => exact ⟨j + 1, s, k, all, sure, Hlt.out, by go_num, HT, HLK, HBj⟩
        case measure => have := Hlt.out; simp [intOf]; omega
      have d2 : decide (x.do_ < 5) = true := decide_eq_true h5
      have HST := Lib.hid (sstep_same HK.out HT.out x HA0.out HN0.out ⟨h0, by omega⟩)
      obtain ⟨all', sure', hlk, -⟩ := HLK.out.step six_up six_32 (by decide) x h0 (by omega)
      have HLK2 := Lib.hid hlk
      clear h0 h5 hlk
      obtain ⟨r, hr⟩ : ∃ r, r = stepS six s k x := ⟨_, rfl⟩
      rw [← hr] at HST HLK2
      clear hr
      go_wp2_with fail
      refine HST.out.mono ?_
      rintro e w8 ⟨rfl, hT8, hB8⟩
      have HT8 := Lib.hid hT8
      have HB8 : Hid (Below w.heap.size w w8) := Lib.hid (HBj.out.trans (by rw [HBB.out] at hB8; exact hB8))
      clear hT8 hB8 c0 c1 c2 c3 c4 c5 c6 c7 c8 c9 d1 d2
      go_wp2_with fail
      go_roundw
      case rel => exact ⟨j + 1, r.2.1, r.2.2, all', sure', Hlt.out, by go_num, HT8, HLK2, HB8⟩
      case measure => have := Hlt.out; simp [intOf]; omega
    · obtain rfl : j = L.length := by omega
      obtain ⟨Q, Q2, hs, hm, hap⟩ := HT.out.two
      obtain ⟨Q0, C, hd, hcore, s0Q, sCQ, hCQ0⟩ := hs.parts
      have HD0 := Lib.hid hd
      have HC0 := Lib.hid hcore
      have HM0 := Lib.hid hm
      have HCQ0 := Lib.hid hCQ0
      have HAPr : Hid (Apt w.heap.size Q0 Q2) := Lib.hid (by rw [← HBB.out]; exact hap.sub s0Q (fun _ h => h))
      have HSzr : Hid (w.heap.size ≤ wr.heap.size) := Lib.hid HBj.out.size
      have HOPs : Hid (openW s = (0, s)) := Lib.hid HLK.out.whl.1
      have HKNs : Hid (knK six (scanL s.bs) = k) := Lib.hid HLK.out.whl.2
      have HP1 := Lib.hid (pool_call wr)
      clear hs hm hap hd hcore s0Q sCQ hCQ0
      go_wp2_with fail
      refine HP1.out.mono ?_
      rintro e wa ⟨rfl, hBa, hRa⟩
      have HDa := Lib.hid (HD0.out.later hBa)
      have HCa := Lib.hid (HC0.out.later HK.out.fr hBa)
      have HMa := Lib.hid (HM0.out.later tr_fr hBa)
      have HBa := Lib.hid (HBj.out.trans (hBa.mono HBj.out.size))
      have HOa := open_six HK.out HDa.out hRa
      unfold Opens6 at HOa
      rw [HOPs.out] at HOa
      have HOa := Lib.hid HOa
      clear hBa hRa
      go_wp2_with fail
      refine HOa.out.mono ?_
      rintro e wb (⟨hno, _⟩ | ⟨_, U, rfl, Qb, sb, hwb⟩)
      · exact absurd rfl hno
      have sb : Sd T StT LT DT wb Qb U D s k := by have h := sb; rw [HKNs.out] at h; exact h
      obtain ⟨apb, kpb, lowb⟩ := HAPr.out.first hwb HBa.out.size (HMa.out.lt tr_fr)
      have hkC := hwb.kp (HCa.out.lt HK.out.fr) HCQ0.out
      have HCb := Lib.hid (HCa.out.keep HK.out.fr hkC)
      have HCQb : Hid (∀ b, C b → ¬ Qb b) := Lib.hid (hwb.apart (HCa.out.lt HK.out.fr) HCQ0.out)
      have HSb := Lib.hid sb
      have HBb := Lib.hid (HBa.out.trans lowb)
      have HQb := Lib.hid apb.l1
      have HAL := alike_any HK.out sb (HMa.out.keep tr_fr kpb)
      rw [alike_self] at HAL
      have HAL := Lib.hid HAL
      clear sb hwb apb kpb lowb hkC
      go_wp2_with fail
      refine HAL.out.mono ?_
      rintro e wc ⟨rfl, hBc⟩
      have HSc := Lib.hid (HSb.out.later HK.out.fr hBc)
      have HCc := Lib.hid (HCb.out.later HK.out.fr hBc)
      have HBc := Lib.hid (HBb.out.trans (hBc.mono HBb.out.size))
      obtain ⟨Qc, dc, subc⟩ := HSc.out.dk
      have HSubc := Lib.hid subc
      have HOc := sopen_any HK.out dc A1 c1 l (HRG.out wc HBc.out) (by omega)
      unfold OpensS at HOc
      rw [HOPs.out] at HOc
      have HOc := Lib.hid HOc
      clear hBc dc subc
      go_wp2_with fail
      refine HOc.out.mono ?_
      rintro e wd ⟨ol, code, hres, (⟨hc, rfl, hBd⟩ | ⟨_, h0, _⟩ | ⟨rfl, _, V, rfl, Qd, sd, hwd⟩)⟩
      · have HBd := Lib.hid (HBc.out.trans (hBd.mono HBc.out.size))
        have h13 : code = 1 ∨ code = 3 := by
          rcases hres with ⟨_, _, h⟩ | ⟨_, _, _, _, ⟨_, _, h⟩ | ⟨_, _, h⟩⟩
          · exact .inl h
          · exact .inr h
          · exact absurd h hc
        clear hres hBd hc
        rcases h13 with rfl | rfl
        · go_wp2
          go_ret
          exact ⟨rfl, HBd.out⟩
        · go_wp2
          go_ret
          exact ⟨rfl, HBd.out⟩
      · exact absurd rfl h0
      obtain ⟨js, hjs⟩ : ∃ js, js = addrsOf ol := ⟨_, rfl⟩
      have hup : js.Pairwise (· < ·) := by rw [hjs]; exact (pool_ok hres).1.sorted
      rw [← hjs] at sd
      obtain ⟨rs, hrs⟩ : ∃ rs, rs = scanL s.bs := ⟨_, rfl⟩
      have HKN : Hid (k = knK six rs) := Lib.hid (by rw [hrs, HKNs.out])
      have sd : Sd T StT LT DT wd Qd V D s (knK js rs) := by rw [hrs]; exact sd
      have hlowc : ∀ b, Qc b → w.heap.size ≤ b := fun b hb => HQb.out b (HSubc.out b hb)
      have HSF := Lib.hid (both_sf six_up hup rs)
      have HBO := Lib.hid (fun x (hx : x ∈ (knK js rs).L) (hc : (getL (knK six rs).L x.addr).2 = 0) => both_same six_up hup rs hx hc)
      have HCd := Lib.hid (HCc.out.keep HK.out.fr (hwd.kp (HCc.out.lt HK.out.fr) (fun b hb hq => HCQb.out b hb (HSubc.out b hq))))
      have HSd := Lib.hid sd
      have HBd := Lib.hid (HBc.out.trans (hwd.below HBc.out.size hlowc))
      obtain ⟨P, g, hT, hPQ, hTab⟩ := sd_table HK.out.fr sd
      have HTB := Lib.hid (hTab wd (KpT.of_below (Below.refl _ _) (sd.lt HK.out.fr))).2
      have HALL := Lib.hid (HK.out.all' hT)
      have HW32 : Hid (∀ x ∈ (knK js rs).L, x.addr < 4294967296) := Lib.hid (HK.out.w32 hT)
      have hfew : (knK js rs).L.length ≤ 256 := HK.out.few hT
      clear hres hjs hup hrs sd hwd hlowc hT hPQ hTab
      go_wp2_with fail
      refine HTB.out.mono ?_
      rintro e w' ⟨rfl, rfl⟩
      go_wp2_with fail
      refine HALL.out.mono ?_
      rintro e we ⟨A9, c9, l9, rfl, HL9, hE9, -, hBe⟩
      have HE9 := Lib.hid (fun W (hb : Below we.heap.size we W) => hE9.later hb)
      have HSe := Lib.hid (HSd.out.later HK.out.fr hBe)
      have HCe := Lib.hid (HCd.out.later HK.out.fr hBe)
      have HBe := Lib.hid (HBd.out.trans (hBe.mono HBd.out.size))
      have hfew9 : l9.length ≤ 256 := by rw [HL9.out]; exact hfew
      obtain ⟨P, L2, g2, hbox, hT2, rfl⟩ := HCe.out
      have HTB2 := Lib.hid (fun W (hb : Below we.heap.size we W) => box_table ((hb.block S (Array.getElem?_eq_some_iff.1 hbox).1).trans hbox))
      have HST2 := Lib.hid (fun W (hb : Below we.heap.size we W) => box_state ((hb.block S (Array.getElem?_eq_some_iff.1 hbox).1).trans hbox))
      have HLF2 := Lib.hid (fun W (hb : Below we.heap.size we W) => box_life ((hb.block S (Array.getElem?_eq_some_iff.1 hbox).1).trans hbox))
      have HGET := Lib.hid (fun a (ha : a < 4294967296) W (hb : Below we.heap.size we W) => HK.out.get a (HK.out.keep hT2 (KpT.of_below hb (HK.out.lt hT2))) ha)
      clear hE9 hBe hbox hT2
      go_wp2_with fail
      go_loopw [21, 22, 23] (fun i _ _ wr => ∃ j : Nat, j ≤ l9.length ∧ i = .int .i64 j ∧ Hid (Below we.heap.size we wr)) (fun i _ _ _ => l9.length - (intOf i).toNat)
      case atStart => exact ⟨0, Nat.zero_le _, rfl, Lib.hid (Below.refl _ _)⟩
      case round =>
        obtain ⟨j, hj, rfl, HBl⟩ := hrel
        by_cases hlt : j < l9.length
        · obtain ⟨x, hx⟩ : ∃ x, l9[j]? = some x := ⟨_, List.getElem?_eq_getElem hlt⟩
          have HX := Lib.hid hx
          have Hlt := Lib.hid hlt
          have hxm : x ∈ (knK js rs).L := by rw [← HL9.out]; exact List.mem_of_getElem? hx
          obtain ⟨q, hq⟩ : ∃ q, q = getL k.L x.addr := ⟨_, rfl⟩
          have HQX : Hid (q.2 = 0 → q.1 = x) := Lib.hid (fun h => by rw [hq, HKN.out] at h ⊢; exact HBO.out x hxm h)
          have HG := fun W (hb : Below wr.heap.size wr W) => HGET.out x.addr (HW32.out x hxm) W (HBl.out.trans (hb.mono HBl.out.size))
          rw [← hq] at HG
          have HG := Lib.hid HG
          have HTBl := Lib.hid (fun W (hb : Below wr.heap.size wr W) => HTB2.out W (HBl.out.trans (hb.mono HBl.out.size)))
          have HEl := Lib.hid (fun W (hb : Below wr.heap.size wr W) => HE9.out W (HBl.out.trans (hb.mono HBl.out.size)))
          obtain ⟨bb, oo, rfl, _, b0, b1, b2, b3, b4, b5, b6, b7⟩ := (HEl.out wr (Below.refl _ _)).at8 j x hx
          obtain ⟨b', o', e8, _, b0a, _⟩ := (HEl.out (wr.alloc (lbox zeroL)) ((Below.refl _ _).alloc (Nat.le_refl _) _)).at8 j x hx
          injection e8 with e8
          injection e8 with e81 e82
          subst e81 e82
          have b0a : (wr.alloc (.cells #[.int .u32 0, .int .i64 0, .string ⟨#[]⟩, .int .i64 0, .int .i64 0, .int .i64 0, .int .i64 0, .int .i64 0] 45)).cell? ⟨bb, oo + j * 8, none⟩ = some (.int .u32 (x.addr : Int)) := b0a
          clear hx hq hxm
          go_upto_region 24 with fail
          go_cut [22, 23] (fun s22 s23 wx => ∃ g3, s22 = ptr g3 ∧ s23 = .int .i64 q.2 ∧ LBox wx g3 q.1 ∧ Below wr.heap.size wr wx)
          case first =>
            go_region_with (first
              | (go_at_call 21; refine (HTBl.out _ (by first | exact (Below.refl _ _).drew | exact ((Below.refl _ _).alloc (Nat.le_refl _) _).drew)).mono ?_; rintro e w3 ⟨rfl, rfl⟩)
              | (go_at_call 28; refine (HG.out _ (Below.refl _ _).drew).mono ?_; rintro e w3 ⟨rfl, hB3⟩)
              | (go_at_call 28; refine (HG.out _ ((Below.refl _ _).alloc (Nat.le_refl _) _).drew).mono ?_; rintro e w3 ⟨rfl, hB3⟩; have hz : LBox w3 wr.heap.size zeroL := ((LBox.new wr zeroL).drew).later hB3; obtain ⟨z0, z1, z2, z3, z4, z5, z6, z7⟩ := hz.all; obtain ⟨f0, f1, f2, f3, f4, f5, f6, f7⟩ := hz.allF))
            all_goals
              go_wp2_with fail
              go_meet
              first
                | (have hn := again_new (q := q.1) hB3; exact ⟨_, rfl, rfl, by with_reducible exact hn.1, by with_reducible exact hn.2⟩)
                | (have hn := again_old (q := q.1) hB3; unfold storeL at hn; exact ⟨_, rfl, rfl, by with_reducible exact hn.1, by with_reducible exact hn.2⟩)
          case rest =>
            obtain ⟨g3, rfl, rfl, hX, hB3⟩ := hcut
            have HX3 := Lib.hid hX
            have HB3 := Lib.hid (HBl.out.trans (hB3.mono HBl.out.size))
            clear b0 b1 b2 b3 b4 b5 b6 b7 b0a
            obtain ⟨b', o', e8, _, b0, b1, b2, b3, b4, b5, b6, b7⟩ := (HEl.out wc hB3).at8 j x HX.out
            injection e8 with e8
            injection e8 with e81 e82
            subst e81 e82
            obtain ⟨z0, z1, z2, z3, z4, z5, z6, z7⟩ := hX.all
            clear hX hB3
            by_cases hq0 : q.2 = 0
            · have hqx := HQX.out hq0
              have d0 : (q.2 == 0) = true := by simpa using hq0
              have HEQ : Hid (eqL (q.1.addr : Int) q.1.bind q.1.cb q.1.unt q.1.acked q.1.told q.1.at_ q.1.ver (x.addr : Int) x.bind x.cb x.unt x.acked x.told x.at_ x.ver = true) := Lib.hid (by rw [eqL_of, hqx]; simp)
              clear hqx hq0
              go_wp2_with fail
              go_quiet (fail)
              rw [HEQ.out]
              have HBn : Hid (Below we.heap.size we (wc.drewN nq)) := Lib.hid (HB3.out.trans ((below_drewN wc nq).mono HB3.out.size))
              go_wp2_with fail
              go_roundw
              case rel => exact ⟨j + 1, Hlt.out, by go_num, HBn⟩
              case measure => have := Hlt.out; simp [intOf]; omega
            · have d0 : (q.2 == 0) = false := by simpa using hq0
              clear hq0
              go_wp2_with fail
              go_quiet (fail)
              have HBn : Hid (Below we.heap.size we (wc.drewN nq)) := Lib.hid (HB3.out.trans ((below_drewN wc nq).mono HB3.out.size))
              go_wp2_with fail
              go_roundw
              case rel => exact ⟨j + 1, Hlt.out, by go_num, HBn⟩
              case measure => have := Hlt.out; simp [intOf]; omega
        · obtain rfl : j = l9.length := by omega
          have HVST := Lib.hid (sd_state (HSe.out.later HK.out.fr HBl.out))
          have HVLF := Lib.hid (sd_life (HSe.out.later HK.out.fr HBl.out))
          have HSST := HST2.out wr HBl.out
          rw [show k.st = (knK js rs).st by rw [HKN.out, HSF.out.1]] at HSST
          have HSST := Lib.hid HSST
          have HSLF := HLF2.out wr HBl.out
          rw [show k.lf = (knK js rs).lf by rw [HKN.out, HSF.out.2]] at HSLF
          have HSLF := Lib.hid HSLF
          obtain ⟨n1, hn1⟩ : ∃ n, n = (knK js rs).st := ⟨_, rfl⟩
          obtain ⟨n2, hn2⟩ : ∃ n, n = (knK js rs).lf := ⟨_, rfl⟩
          rw [← hn1] at HVST HSST
          rw [← hn2] at HVLF HSLF
          have e1 : (n1 == n1) = true := by simp
          have e2 : (n2 == n2) = true := by simp
          clear hn1 hn2
          go_wp2_with fail
          refine HVST.out.mono ?_
          rintro e w' ⟨rfl, rfl⟩
          go_wp2_with fail
          refine HSST.out.mono ?_
          rintro e w' ⟨rfl, rfl⟩
          go_wp2_with fail
          refine HVLF.out.mono ?_
          rintro e w' ⟨rfl, rfl⟩
          go_wp2_with fail
          refine HSLF.out.mono ?_
          rintro e w' ⟨rfl, rfl⟩
          go_wp2
          go_ret
          exact ⟨rfl, HBe.out.trans (HBl.out.mono HBe.out.size)⟩
end Go.Proofs.YtalmjmhbpmhokaaGreat
