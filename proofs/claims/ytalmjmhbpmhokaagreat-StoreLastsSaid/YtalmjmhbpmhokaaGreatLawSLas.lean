/- The law StoreLasts, over any table of the program's. (Written by wip/tools/genslaw.py.) -/
import Derived.Test.YtalmjmhbpmhokaaGreatMrgStoN
namespace Go.Proofs.YtalmjmhbpmhokaaGreat
open Go.RowKit Go.Sort

theorem longS_few {L : List StS} (h : false = longS L) : L.length ≤ 80 := by
  unfold longS at h
  have h2 := (Bool.or_eq_false_iff.1 h.symm).2
  have := of_decide_eq_false h2
  omega
theorem KpT.sub {P Q : Nat → Prop} {w w' : World} (hk : KpT P w w') (h : ∀ b, Q b → P b) : KpT Q w w' := ⟨hk.os, hk.tape, hk.output, hk.size, fun b hb => hk.block b (h b hb)⟩
/-- Behind the appending of a row of bytes that was made anew. -/
theorem may_more {w8 w3 w5 : World} {v v5 : Value} {K : List SlV} {x : SlV} {QQ : Nat → Prop} {B : Nat} (hq : ∀ b, QQ b → b < w8.heap.size) (hF : ∀ b, mayF v K b → B ≤ b ∧ ¬ QQ b) (hB : B ≤ w8.heap.size)
    (hrow : Row w8 w3 (.slice x.ad x.data.length x.cap) x.data) (hk : KpT (fun b => b < w3.heap.size ∧ v.ownBlock ≠ some b) w3 w5) (hat : ∀ b, v5.ownBlock = some b → v.ownBlock = some b ∨ w3.heap.size ≤ b) :
    KpT QQ w8 w5 ∧ Below B w8 w5 ∧ ∀ b, mayF v5 (K ++ [x]) b → B ≤ b ∧ ¬ QQ b := by
  have hz := hrow.low.size
  have hlo := hrow.low
  refine ⟨⟨hk.os.trans hlo.os, hk.tape.trans hlo.tape, hk.output.trans hlo.output, Nat.le_trans hz hk.size, fun b hb => ?_⟩, ⟨hk.os.trans hlo.os, hk.tape.trans hlo.tape, hk.output.trans hlo.output, Nat.le_trans hz hk.size, fun b hb => ?_⟩, ?_⟩
  · have h1 := hq b hb
    exact (hk.block b ⟨by omega, fun e => (hF b (.inl e)).2 hb⟩).trans (hlo.block b h1)
  · exact (hk.block b ⟨by omega, fun e => by have := (hF b (.inl e)).1; omega⟩).trans (hlo.block b (by omega))
  · rintro b (hb | ⟨y, hy, hb⟩)
    · rcases hat b hb with h1 | h1
      · exact hF b (.inl h1)
      · exact ⟨by omega, fun h2 => by have := hq b h2; omega⟩
    · rcases List.mem_append.1 hy with hy | hy
      · exact hF b (.inr ⟨y, hy, hb⟩)
      · obtain rfl := List.mem_singleton.1 hy
        have h1 := (hrow.own.lt b hb).1
        exact ⟨by omega, fun h2 => by have := hq b h2; omega⟩
/-- What a disk of the document's tells of its bytes. -/
theorem rdk_tells {w : World} {Q : Nat → Prop} {R : Nat} {s : DS} (h : Dk RT w Q R s) : ∃ A c, R < w.heap.size ∧ ∀ W, Below w.heap.size w W → W.cell? ⟨R, 1, none⟩ = some (.slice A s.bs.length c) ∧ By W W.heap.size A s.bs := by
  obtain ⟨v, h, _, rfl⟩ := h
  obtain ⟨A, c, rfl, _, hby⟩ := h.form
  exact ⟨A, c, h.dlt, fun W hb => ⟨(hb.cell (p := ⟨R, 1, none⟩) h.dlt).trans h.c1, (hby.below hb).more hb.size⟩⟩
theorem row_empty (w : World) : Row w (w.alloc (.cells #[] 5)) (.slice (some ⟨w.heap.size, 0, none⟩) 0 0) [] := rowN w [] (by simp) #[] rfl
/-- Behind a step: one more of what may be found. -/
theorem may_step {all all' : List (List UInt8)} {sure sure' : Nat} {x : StS} {M : List (List UInt8)} (hM : MayK M all sure) {s' : DS} {k' : Kn} (h : LstK six s' k' all' sure')
    (hc : (x.do_ < 3 ∧ sure' = sure ∧ (all' = all ∨ ∃ b, all' = all ++ [b])) ∨ (3 ≤ x.do_ ∧ sure' = all'.length)) : (x.do_ < 3 → MayK (M ++ [s'.bs]) all' sure') ∧ (3 ≤ x.do_ → MayK ([] ++ [s'.bs]) all' sure') := by
  rcases hc with ⟨h3, rfl, hc⟩ | ⟨h3, rfl⟩
  · exact ⟨fun _ => hM.more h hc, fun h4 => by omega⟩
  · exact ⟨fun h4 => by omega, fun _ => MayK.anew h⟩

set_option maxRecDepth 100000 in
set_option maxHeartbeats 4000000 in
theorem law_slasts {T : TabT} (K : TabK T) (A : Option Addr) (c : Nat) (L : List StS) (keep : Int) (w : World) (hL : Ss w w.heap.size A L) (hlen : L.length ≤ 9223372036854775807) :
    Calls Tryz.prog 5 #[.slice A L.length c, .int .i64 keep] w fun e w' => e = .returned (.bool true) ∧ Below w.heap.size w w' := by
  have HA := Lib.hid (sawake_any K w)
  have HK := Lib.hid K
  have HL := Lib.hid (fun W (h : Below w.heap.size w W) => hL.below h)
  have HAD := Lib.hid hL.addr
  have HNU := Lib.hid hL.num
  have HLen := Lib.hid hlen
  clear hL K
  go_enter Tryz.func5, Tryz.ntmps5
  go_wp2_with fail
  refine HA.out.mono ?_
  rintro e w1 ⟨rfl, hb1⟩
  have HB1 := Lib.hid hb1
  have HLong := Lib.hid (slong_any (c := c) (HL.out w1 hb1) HLen.out)
  have HN := Lib.hid (dk_new w1 100000 (by decide) (by decide))
  clear hb1
  obtain ⟨lb, hlb⟩ : ∃ lb, lb = longS L := ⟨_, rfl⟩
  rw [← hlb] at HLong
  have HLB := Lib.hid hlb
  clear hlb
  go_wp2_with fail
  refine HLong.out.mono ?_
  rintro e w1' ⟨rfl, rfl⟩
  obtain ⟨D, hD⟩ : ∃ D, D = w1.heap.size := ⟨_, rfl⟩
  obtain ⟨B, hBB⟩ : ∃ B, B = w.heap.size := ⟨_, rfl⟩
  have hBD : B ≤ D := by have := HB1.out.size; omega
  have HBD := Lib.hid hBD
  have HDD := Lib.hid hD
  have HBB := Lib.hid hBB
  obtain ⟨s0, hs0⟩ : ∃ s0 : DS, s0 = ⟨100000, [], 0, -1⟩ := ⟨_, rfl⟩
  have HS0 : Hid (s0 = ⟨(100000 : Int).toNat, [], 0, -1⟩) := Lib.hid hs0
  have HLK0 : Hid (LstK six s0 (knK six []) [] 0) := Lib.hid (by rw [hs0]; exact LstK.new six)
  have HOP0 : Hid (openW s0 = (0, s0)) := Lib.hid HLK0.out.whl.1
  have HKN0 : Hid (knK six (scanL s0.bs) = knK six []) := Lib.hid HLK0.out.whl.2
  clear hD hBB hBD hs0
  go_wp2_with fail
  refine HN.out.mono ?_
  rintro e w2 ⟨rfl, hd2, hB2⟩
  rw [← HDD.out, ← HS0.out] at hd2
  rw [← HDD.out]
  have HD2 := Lib.hid hd2
  have HB2 := Lib.hid (HB1.out.trans (hB2.mono HB1.out.size))
  have HS2 : Hid (B ≤ w2.heap.size) := Lib.hid (by have := hd2.lt D rfl; have := HBD.out; omega)
  have HP := Lib.hid (pool_call w2)
  clear hd2 hB2 HN
  go_wp2_with fail
  refine HP.out.mono ?_
  rintro e w3 ⟨rfl, hB3, hR3⟩
  have HB3 := Lib.hid (HB2.out.trans (hB3.mono HB2.out.size))
  have HS3 : Hid (B ≤ w3.heap.size) := Lib.hid (Nat.le_trans HS2.out hB3.size)
  have HO := open_six HK.out (HD2.out.later hB3) hR3
  unfold Opens6 at HO
  rw [HOP0.out] at HO
  have HO := Lib.hid HO
  clear hB3 hR3
  go_wp2_with fail
  refine HO.out.mono ?_
  rintro e w4 (⟨hno, _⟩ | ⟨_, S, rfl, Q4, s4, hw4⟩)
  · exact absurd rfl hno
  have s4 : Sd T StT LT DT w4 Q4 S D s0 (knK six []) := by have h := s4; rw [HKN0.out] at h; exact h
  have HD4 := Lib.hid s4
  have HQ4 : Hid (∀ b, Q4 b → B ≤ b) := Lib.hid (hw4.low HS3.out (fun b e => by have := HBD.out; omega))
  have HB4 : Hid (Below w.heap.size w w4) := Lib.hid (HB3.out.trans (by have h := hw4.below HS3.out (fun b e => by have := HBD.out; omega); rw [HBB.out] at h; exact h))
  have HS4 : Hid (B ≤ w4.heap.size) := Lib.hid (Nat.le_trans HS3.out hw4.size)
  clear s4 hw4
  cases lb
  rotate_left
  · go_wp2
    go_ret
    exact ⟨rfl, HB4.out⟩
  have HNR := Lib.hid (rdk_new w4 100000 (by decide) (by decide))
  go_wp2_with fail
  refine HNR.out.mono ?_
  rintro e w5 ⟨rfl, hr5, hB5⟩
  obtain ⟨R, hR⟩ : ∃ R, R = w4.heap.size := ⟨_, rfl⟩
  rw [← hR, ← HS0.out] at hr5
  rw [← hR]
  have HAP5 : Hid (Apt B Q4 (· = R)) := Lib.hid ⟨fun b h1 h2 => by have := HD4.out.lt HK.out.fr b h1; omega, HQ4.out, fun b e => by have := HS4.out; omega⟩
  have HD5 := Lib.hid (HD4.out.later HK.out.fr hB5)
  have HR5 := Lib.hid hr5
  have HB5 := Lib.hid (HB4.out.trans (hB5.mono HB4.out.size))
  have HS5 : Hid (B ≤ w5.heap.size) := Lib.hid (Nat.le_trans HS4.out hB5.size)
  have HP5 := Lib.hid (pool_call w5)
  clear hr5 hB5 hR HNR
  go_wp2_with fail
  refine HP5.out.mono ?_
  rintro e w6 ⟨rfl, hB6, hR6⟩
  have HB6 := Lib.hid (HB5.out.trans (hB6.mono HB5.out.size))
  have HS6 : Hid (B ≤ w6.heap.size) := Lib.hid (Nat.le_trans HS5.out hB6.size)
  have HD6 := Lib.hid (HD5.out.later HK.out.fr hB6)
  have HO6 := ropen_six (HR5.out.later hB6) hR6
  unfold Opens6 at HO6
  rw [HOP0.out] at HO6
  have HO6 := Lib.hid HO6
  clear hB6 hR6
  go_wp2_with fail
  refine HO6.out.mono ?_
  rintro e w7 (⟨hno, _⟩ | ⟨_, M, rfl, Q7, r7, hw7⟩)
  · exact absurd rfl hno
  have r7 : Sd TR StR MT RT w7 Q7 M R s0 (knK six []) := by have h := r7; rw [HKN0.out] at h; exact h
  obtain ⟨ap7, kp7, low7⟩ := HAP5.out.second hw7 HS6.out (HD6.out.lt HK.out.fr)
  have HT7 : Hid (TwoS T B D R S M s0 (knK six []) w7) := Lib.hid ⟨Q4, Q7, HD6.out.keep HK.out.fr kp7, r7, ap7⟩
  have HB7 : Hid (Below w.heap.size w w7) := Lib.hid (HB6.out.trans (by rw [HBB.out] at low7; exact low7))
  clear r7 hw7 ap7 kp7 low7
  have hl80 : L.length ≤ 80 := longS_few HLB.out
  obtain ⟨Q, Q2, hs, hm, hap⟩ := HT7.out.two
  have HS7 := Lib.hid hs
  have HM7 := Lib.hid hm
  have HAP7 := Lib.hid hap
  obtain ⟨R0, hr0, -⟩ := hm.dk
  obtain ⟨Au, cu, hRlt, htell⟩ := rdk_tells hr0
  obtain ⟨bl, hbl⟩ : ∃ bl, bl = s0.bs := ⟨_, rfl⟩
  have hbl0 : bl = [] := by rw [hbl, HLK0.out.lst.bs]; rfl
  rw [← hbl] at htell
  have HTE := Lib.hid htell
  have HRE := Lib.hid (row_empty w7)
  obtain ⟨u1, hby1⟩ := HTE.out (w7.alloc (.cells #[] 5)) ((Below.refl _ _).alloc (Nat.le_refl _) _)
  have HBY1 := Lib.hid hby1
  have HBL0 := Lib.hid hbl0
  have hblen : bl.length ≤ 100 := by rw [hbl0]; decide
  clear hs hm hap hr0 hRlt htell hbl hbl0 hby1
  go_wp2_with (at_builtin; refine wpList_row rfl (.tmp 64) (.tmp 68) rfl rfl HRE.out bl rfl rfl HBY1.out (by simp; omega) ?_; intro v3 w3 hr3 hg3; have hr3 : Row w7 w3 v3 bl := hr3; obtain ⟨A3, c3, rfl, hc3, _⟩ := hr3.form; have hr3 := Lib.hid hr3; clear hg3 u1)
  have HMA := May.one (x := ⟨A3, c3, bl⟩) hr3.out
  have hB31 : Below w7.heap.size w7 (w3.alloc (.cells #[.slice A3 bl.length c3] 49)) := hr3.out.low.alloc hr3.out.low.size _
  have HSa := Lib.hid (HS7.out.later HK.out.fr hB31)
  have HMa := Lib.hid (HM7.out.later tr_fr hB31)
  have HBa := Lib.hid (HB7.out.trans (hB31.mono HB7.out.size))
  have HMAY := Lib.hid HMA.1
  have HF : Hid (∀ b, mayF (.slice (some ⟨w3.heap.size, 0, none⟩) 1 1) [⟨A3, c3, bl⟩] b → w.heap.size ≤ b ∧ ¬ (Q b ∨ Q2 b)) := Lib.hid (fun b hb => by
    have h1 := HMA.2 b hb
    refine ⟨Nat.le_trans HB7.out.size h1, ?_⟩
    rintro (h2 | h2)
    · have := HS7.out.lt HK.out.fr b h2; omega
    · have := HM7.out.lt tr_fr b h2; omega)
  have HMK : Hid (MayK (datas [(⟨A3, c3, bl⟩ : SlV)]) [] 0) := Lib.hid (by
    show MayK [bl] [] 0
    rw [HBL0.out]
    exact MayK.new)
  have HAPa : Hid (Apt w.heap.size Q Q2) := Lib.hid (by rw [← HBB.out]; exact HAP7.out)
  clear HMA hB31
  go_loopw [15, 16] (fun u i wr => ∃ (j : Nat) (s : DS) (k : Kn) (all : List (List UInt8)) (sure : Nat) (Qa Qb : Nat → Prop) (Kl : List SlV), j ≤ L.length ∧ i = .int .i64 j ∧ Hid (Sd T StT LT DT wr Qa S D s k) ∧ Hid (Sd TR StR MT RT wr Qb M R s k) ∧ Hid (Apt w.heap.size Qa Qb) ∧ Hid (LstK six s k all sure) ∧ Hid (May wr u Kl) ∧ Hid (∀ b, mayF u Kl b → w.heap.size ≤ b ∧ ¬ (Qa b ∨ Qb b)) ∧ Hid (MayK (datas Kl) all sure) ∧ Hid (Below w.heap.size w wr) ∧ Kl.length ≤ j + 1) (fun _ i _ => L.length - (intOf i).toNat)
  case atStart => exact ⟨0, s0, _, [], 0, Q, Q2, [⟨A3, c3, bl⟩], Nat.zero_le _, rfl, HSa, HMa, HAPa, HLK0, HMAY, HF, HMK, HBa, by simp⟩
  case round =>
    obtain ⟨j, s, k, all, sure, Qa, Qb, Kl, hj, rfl, HS, HM, HAP, HLK, HMY, HFF, HMKK, HBj, hkl⟩ := hrel
    by_cases hlt : j < L.length
    · obtain ⟨x, hx⟩ : ∃ x, L[j]? = some x := ⟨_, List.getElem?_eq_getElem hlt⟩
      obtain ⟨b, o, rfl, hbw, c0, c1, c2, c3', c4, c5, c6, c7, c8, c9⟩ := (HL.out wr HBj.out).at_ j x hx
      have hmem := List.mem_of_getElem? hx
      have HA0 := Lib.hid (HAD.out x hmem)
      have HN0 := Lib.hid (HNU.out x hmem)
      have Hlt := Lib.hid hlt
      have HX := Lib.hid hx
      clear hmem hx hbw
      by_cases h0 : x.do_ < 0
      · have d1 : decide (x.do_ < 0) = true := decide_eq_true h0
        clear h0
        go_wp2_with fail
        go_roundw
        case rel => exact ⟨j + 1, s, k, all, sure, Qa, Qb, Kl, Hlt.out, by go_num, HS, HM, HAP, HLK, HMY, HFF, HMKK, HBj, by omega⟩
        case measure => have := Hlt.out; simp [intOf]; omega
      have d1 : decide (x.do_ < 0) = false := decide_eq_false h0
      by_cases h5 : 4 < x.do_
      · have d2 : decide (4 < x.do_) = true := decide_eq_true h5
        clear h0 h5
        go_wp2_with fail
        go_roundw
        case rel => exact ⟨j + 1, s, k, all, sure, Qa, Qb, Kl, Hlt.out, by go_num, HS, HM, HAP, HLK, HMY, HFF, HMKK, HBj, by omega⟩
        case measure => have := Hlt.out; simp [intOf]; omega
      have d2 : decide (4 < x.do_) = false := decide_eq_false h5
      have HST := Lib.hid (sstep_way HK.out HS.out HM.out HAP.out HBj.out.size x HA0.out HN0.out ⟨by omega, by omega⟩)
      obtain ⟨all', sure', hlk, hcs⟩ := HLK.out.step six_up six_32 (by decide) x (by omega) (by omega)
      have HLK2 := Lib.hid hlk
      have HMS := Lib.hid (may_step HMKK.out hlk hcs)
      clear h0 h5 hlk hcs
      obtain ⟨r, hr⟩ : ∃ r, r = stepS six s k x := ⟨_, rfl⟩
      rw [← hr] at HST HLK2 HMS
      clear hr
      go_wp2_with fail
      refine HST.out.mono ?_
      rintro e w8 ⟨rfl, Qc, Qd, hs8, hm8, hap8, hw8⟩
      have HS8 := Lib.hid hs8
      have HM8 := Lib.hid hm8
      have HAP8 := Lib.hid hap8
      have HMY8 := Lib.hid (HMY.out.keep (hw8.kp HMY.out.lt (fun b hb => (HFF.out b hb).2)))
      have HF8 : Hid (∀ b, mayF u15 Kl b → w.heap.size ≤ b ∧ ¬ (Qc b ∨ Qd b)) := Lib.hid (fun b hb => ⟨(HFF.out b hb).1, hw8.apart HMY.out.lt (fun b hb => (HFF.out b hb).2) b hb⟩)
      have HB8 := Lib.hid (HBj.out.trans (hw8.below HBj.out.size (fun b hb => by
        rcases hb with hb | hb
        · exact HAP.out.l1 b hb
        · exact HAP.out.l2 b hb)))
      have HQlt : Hid (∀ b, (Qc b ∨ Qd b) → b < w8.heap.size) := Lib.hid (fun b hb => by
        rcases hb with hb | hb
        · exact hs8.lt HK.out.fr b hb
        · exact hm8.lt tr_fr b hb)
      obtain ⟨R0, hr0, -⟩ := hm8.dk
      obtain ⟨Au, cu, hRlt, htell⟩ := rdk_tells hr0
      obtain ⟨bl, hbl⟩ : ∃ bl, bl = r.2.1.bs := ⟨_, rfl⟩
      rw [← hbl] at htell HMS
      have hblen : bl.length ≤ 1048576 := by
        rw [hbl]
        have := HLK2.out.ok.len
        have := HLK2.out.ok.r1
        omega
      have HTE := Lib.hid htell
      have HRE := Lib.hid (row_empty w8)
      obtain ⟨u1, hby1⟩ := HTE.out (w8.alloc (.cells #[] 5)) ((Below.refl _ _).alloc (Nat.le_refl _) _)
      have HBY1 := Lib.hid hby1
      clear hs8 hm8 hap8 hw8 hr0 hRlt htell hbl hby1 c0 c1 c2 c3' c4 c5 c6 c7 c8 c9 d1 d2
      obtain ⟨b', o', e8, _, c0, _⟩ := (HL.out w8 HB8.out).at_ j x HX.out
      injection e8 with e8
      injection e8 with e81 e82
      subst e81 e82
      by_cases h3 : x.do_ < 3
      · have d3 : decide (3 ≤ x.do_) = false := decide_eq_false (by omega)
        have HMK2 := Lib.hid (HMS.out.1 h3)
        clear h3
        go_wp2_with (first
          | (at_builtin; refine wpList_row rfl (.tmp 107) (.tmp 111) rfl rfl HRE.out bl rfl rfl HBY1.out (by simp; omega) ?_; intro v3 w3 hr3 hg3; have hr3 : Row w8 w3 v3 bl := hr3; obtain ⟨A3, c3, rfl, hc3, _⟩ := hr3.form; have hr3 := Lib.hid hr3; have HMY3 := Lib.hid (HMY8.out.later hr3.out.low); have HO3 : Hid (Own8 w3 0 (SlV.v ⟨A3, c3, bl⟩) bl) := Lib.hid (own_lower hr3.out.own (Nat.zero_le _)); clear hg3 u1 hc3)
          | (at_builtin; refine wpList_may rfl (.tmp 106) (.tmp 113) rfl rfl HMY3.out ⟨A3, c3, bl⟩ HO3.out rfl (by omega) ?_; intro v5 w5 hm5 hk5 hat5; have HM5 := Lib.hid hm5; have HT5 := Lib.hid (may_more (x := ⟨A3, c3, bl⟩) HQlt.out HF8.out HB8.out.size hr3.out hk5 hat5); clear hm5 hk5 hat5))
        obtain ⟨hkq, hbq, hfq⟩ := HT5.out
        have HS5 := Lib.hid (HS8.out.keep HK.out.fr (hkq.sub fun b hb => .inl hb))
        have HMM5 := Lib.hid (HM8.out.keep tr_fr (hkq.sub fun b hb => .inr hb))
        have HB5 := Lib.hid (HB8.out.trans hbq)
        have HF5 := Lib.hid hfq
        have HMK5 : Hid (MayK (datas (Kl ++ [(⟨A3, c3, bl⟩ : SlV)])) all' sure') := Lib.hid (by rw [datas_snoc]; exact HMK2.out)
        clear hkq hbq hfq c0 d3
        go_roundw
        case rel => exact ⟨j + 1, r.2.1, r.2.2, all', sure', Qc, Qd, Kl ++ [⟨A3, c3, bl⟩], Hlt.out, by go_num, HS5, HMM5, HAP8, HLK2, HM5, HF5, HMK5, HB5, by rw [List.length_append, List.length_singleton]; omega⟩
        case measure => have := Hlt.out; simp [intOf]; omega
      · have d3 : decide (3 ≤ x.do_) = true := decide_eq_true (by omega)
        have HMK2 := Lib.hid (HMS.out.2 (by omega))
        clear h3
        go_wp2_with (first
          | (at_builtin; refine wpList_row rfl (.tmp 107) (.tmp 111) rfl rfl HRE.out bl rfl rfl HBY1.out (by simp; omega) ?_; intro v3 w3 hr3 hg3; have hr3 : Row w8 w3 v3 bl := hr3; obtain ⟨A3, c3, rfl, hc3, _⟩ := hr3.form; have hr3 := Lib.hid hr3; have HMY3 := Lib.hid (May.nil w3); have HO3 : Hid (Own8 w3 0 (SlV.v ⟨A3, c3, bl⟩) bl) := Lib.hid (own_lower hr3.out.own (Nat.zero_le _)); clear hg3 u1 hc3)
          | (at_builtin; refine wpList_may rfl (.tmp 106) (.tmp 113) rfl rfl HMY3.out ⟨A3, c3, bl⟩ HO3.out rfl (by simp) ?_; intro v5 w5 hm5 hk5 hat5; have HM5 := Lib.hid hm5; have HT5 := Lib.hid (may_more (x := ⟨A3, c3, bl⟩) (B := w.heap.size) HQlt.out (fun b hb => absurd hb (mayF_nil b)) HB8.out.size hr3.out hk5 hat5); clear hm5 hk5 hat5))
        obtain ⟨hkq, hbq, hfq⟩ := HT5.out
        have HS5 := Lib.hid (HS8.out.keep HK.out.fr (hkq.sub fun b hb => .inl hb))
        have HMM5 := Lib.hid (HM8.out.keep tr_fr (hkq.sub fun b hb => .inr hb))
        have HB5 := Lib.hid (HB8.out.trans hbq)
        have HF5 := Lib.hid hfq
        have HMK5 : Hid (MayK (datas ([] ++ [(⟨A3, c3, bl⟩ : SlV)])) all' sure') := Lib.hid HMK2.out
        clear hkq hbq hfq c0 d3
        go_roundw
        case rel => exact ⟨j + 1, r.2.1, r.2.2, all', sure', Qc, Qd, [] ++ [⟨A3, c3, bl⟩], Hlt.out, by go_num, HS5, HMM5, HAP8, HLK2, HM5, HF5, HMK5, HB5, by simp⟩
        case measure => have := Hlt.out; simp [intOf]; omega
    · obtain rfl : j = L.length := by omega
      obtain ⟨Q0, hd0, hsub0⟩ := HS.out.dk
      have HSUB := Lib.hid hsub0
      have HCR := Lib.hid (dk_crash hd0 keep)
      have HAg := Lib.hid (again_opens HLK.out.ok keep).1
      obtain ⟨Am, cm, rfl, -⟩ := HMY.out.form
      have HL0 : Hid (∀ b, Q0 b → w.heap.size ≤ b) := Lib.hid (fun b hb => HAP.out.l1 b (hsub0 b hb))
      have HFND := Lib.hid (HLK.out.found HMKK.out keep)
      clear hd0 hsub0
      obtain ⟨sc, hsc⟩ : ∃ sc, sc = crashD s keep := ⟨_, rfl⟩
      rw [← hsc] at HCR
      have HAg : Hid ((openW sc).1 = 0) := Lib.hid (by rw [hsc]; exact HAg.out)
      have HFND : Hid (∃ (i : Nat) (b : List UInt8), (datas Kl)[i]? = some b ∧ scanL b = scanL (openW sc).2.bs) := Lib.hid (by rw [hsc]; exact HFND.out)
      clear hsc
      go_wp2_with fail
      refine HCR.out.mono ?_
      rintro e wa ⟨rfl, Qc, dc, hwc⟩
      have HDc := Lib.hid dc
      have HMYa := Lib.hid (HMY.out.keep (hwc.kp HMY.out.lt (fun b hb hq => (HFF.out b hb).2 (.inl (HSUB.out b hq)))))
      have HFa : Hid (∀ b, mayF (.slice Am Kl.length cm) Kl b → ¬ Qc b) := Lib.hid (hwc.apart HMY.out.lt (fun b hb hq => (HFF.out b hb).2 (.inl (HSUB.out b hq))))
      have HLc := Lib.hid (hwc.low HBj.out.size HL0.out)
      have HBa := Lib.hid (HBj.out.trans (hwc.below HBj.out.size HL0.out))
      have HPa := Lib.hid (pool_call wa)
      clear dc hwc
      go_wp2_with fail
      refine HPa.out.mono ?_
      rintro e wb ⟨rfl, hBb, hRb⟩
      have HOb := Lib.hid (open_six HK.out (HDc.out.later hBb) hRb)
      have HMYb := Lib.hid (HMYa.out.later hBb)
      have HBb := Lib.hid (HBa.out.trans (hBb.mono HBa.out.size))
      clear hBb hRb
      go_wp2_with fail
      refine HOb.out.mono ?_
      rintro e wc (⟨hno, _⟩ | ⟨_, U, rfl, Qz, sz, hwz⟩)
      · exact absurd HAg.out hno
      obtain ⟨sy, hsy⟩ : ∃ sy, sy = (openW sc).2 := ⟨_, rfl⟩
      rw [← hsy] at sz HFND
      have HSZ := Lib.hid sz
      have HMYc := Lib.hid (HMYb.out.keep (hwz.kp HMYb.out.lt HFa.out))
      have HBc := Lib.hid (HBb.out.trans (hwz.below HBb.out.size HLc.out))
      clear sz hwz hsy
      go_wp2_with fail
      go_loopw [17] (fun i wr => ∃ j : Nat, j ≤ Kl.length ∧ i = .int .i64 j ∧ Hid (Below wc.heap.size wc wr) ∧ Hid (∀ (i : Nat) (b : List UInt8), i < j → (datas Kl)[i]? = some b → scanL b ≠ scanL sy.bs)) (fun i _ => Kl.length - (intOf i).toNat)
      case atStart => exact ⟨0, Nat.zero_le _, rfl, Lib.hid (Below.refl _ _), Lib.hid (fun i b hi => by omega)⟩
      case round =>
        obtain ⟨j, hj, rfl, HBl, HNO⟩ := hrel
        by_cases hlt : j < Kl.length
        · obtain ⟨x, hx⟩ : ∃ x, Kl[j]? = some x := ⟨_, List.getElem?_eq_getElem hlt⟩
          have Hlt := Lib.hid hlt
          have HX := Lib.hid hx
          have hxd : (datas Kl)[j]? = some x.data := datas_at hx
          have HXD := Lib.hid hxd
          obtain ⟨hx5, hxw⟩ := HMKK.out.each x.data (List.mem_of_getElem? hxd)
          have HXW := Lib.hid hxw
          have HNR := Lib.hid (rdk_new wr 100000 (by decide) (by decide))
          clear hx hxd hxw
          go_wp2_with fail
          refine HNR.out.mono ?_
          rintro e w1 ⟨rfl, hr1, hB1⟩
          obtain ⟨R1, hR1⟩ : ∃ R1, R1 = wr.heap.size := ⟨_, rfl⟩
          rw [← hR1] at hr1 ⊢
          have HR1 := Lib.hid hR1
          have HB1 := Lib.hid (HBl.out.trans (hB1.mono HBl.out.size))
          have HB1r := Lib.hid hB1
          obtain ⟨A', c', e9, hls⟩ := (HMYc.out.later HB1.out).form
          injection e9 with e9 _ e10
          subst e9 e10
          obtain ⟨bb, oo, rfl, hbb, hcx⟩ := hls.at_ j x HX.out
          have hbd : By w1 wr.heap.size x.ad x.data := by
            obtain ⟨A', c', e9, hls2⟩ := (HMYc.out.later HBl.out).form
            injection e9 with e9 _ e10
            subst e9 e10
            exact (hls2.data x (List.mem_of_getElem? HX.out)).below hB1
          have HC := rdk_append (c := x.cap) hr1 hbd hB1.size (fun b e => by omega) (by omega)
          rw [show (⟨(100000 : Int).toNat, [], 0, -1⟩ : DS) = ⟨100000, [], 0, -1⟩ from rfl, laid hx5] at HC
          have HC := Lib.hid HC
          clear hr1 hB1 hls hbb hbd hR1
          go_wp2_with fail
          refine HC.out.mono ?_
          rintro e w2 ⟨rfl, R2, r2, hw2⟩
          have HD2 := Lib.hid r2
          have HL2 : Hid (∀ b, R2 b → wr.heap.size ≤ b) := Lib.hid (hw2.low HB1r.out.size (fun b e => by have := HR1.out; omega))
          have HB2 := Lib.hid (HB1r.out.trans (hw2.below HB1r.out.size (fun b e => by have := HR1.out; omega)))
          have HP2 := Lib.hid (pool_call w2)
          clear r2 hw2 hcx
          go_wp2_with fail
          refine HP2.out.mono ?_
          rintro e w3 ⟨rfl, hB3, hR3⟩
          have HO3 := ropen_six (HD2.out.later hB3) hR3
          unfold Opens6 at HO3
          rw [HXW.out.open_] at HO3
          have HO3 := Lib.hid HO3
          have HB3 := Lib.hid (HB2.out.trans (hB3.mono HB2.out.size))
          clear hB3 hR3
          go_wp2_with fail
          refine HO3.out.mono ?_
          rintro e w4 (⟨hno, _⟩ | ⟨_, V, rfl, R4, s4, hw4⟩)
          · exact absurd rfl hno
          have HB4 := Lib.hid (HB3.out.trans (hw4.below HB3.out.size HL2.out))
          have HB4c := Lib.hid (HBl.out.trans (HB4.out.mono HBl.out.size))
          have HAL := Lib.hid (alike_any HK.out (HSZ.out.later HK.out.fr HB4c.out) s4)
          obtain ⟨kz, hkz⟩ : ∃ kz, kz = knK six (scanL sy.bs) := ⟨_, rfl⟩
          rw [← hkz] at HAL
          have HKZ := Lib.hid hkz
          obtain ⟨sx, hsx⟩ : ∃ sx : DS, sx = ⟨100000, x.data, 0, -1⟩ := ⟨_, rfl⟩
          obtain ⟨kx, hkx⟩ : ∃ kx, kx = knK six (scanL x.data) := ⟨_, rfl⟩
          have HSX := Lib.hid hsx
          have HKX := Lib.hid hkx
          have HAL : Hid (Calls Tryz.prog 16 #[ptr U, ptr V] w4 fun e w' => e = .returned (.bool (decide (AlikeK sy sx kz kx))) ∧ Below w4.heap.size w4 w') := Lib.hid (by rw [hsx, hkx]; exact HAL.out)
          clear s4 hw4 hkz hsx hkx
          by_cases hal : AlikeK sy sx kz kx
          · rw [decide_eq_true hal] at HAL
            clear hal
            go_wp2_with fail
            refine HAL.out.mono ?_
            rintro e w5 ⟨rfl, hB5⟩
            have HB5 := Lib.hid (HBc.out.trans ((HB4c.out.trans (hB5.mono HB4c.out.size)).mono HBc.out.size))
            clear hB5
            go_wp2
            go_ret
            exact ⟨rfl, HB5.out⟩
          · rw [decide_eq_false hal] at HAL
            have HNE : Hid (scanL x.data ≠ scanL sy.bs) := Lib.hid (fun he => hal (by
              rw [HKZ.out, HKX.out, HSX.out, he]
              exact ⟨rfl, rfl, rfl, by show (scanL sy.bs).length = (scanL x.data).length; rw [he]⟩))
            clear hal
            go_wp2_with fail
            refine HAL.out.mono ?_
            rintro e w5 ⟨rfl, hB5⟩
            have HB5 := Lib.hid (HB4c.out.trans (hB5.mono HB4c.out.size))
            clear hB5
            go_wp2_with fail
            go_roundw
            case rel =>
              refine ⟨j + 1, Hlt.out, by go_num, HB5, Lib.hid (fun i b hi hb => ?_)⟩
              rcases Nat.lt_or_ge i j with h | h
              · exact HNO.out i b h hb
              · obtain rfl : i = j := by omega
                rw [HXD.out] at hb
                injection hb with hb
                rw [← hb]
                exact HNE.out
            case measure => have := Hlt.out; simp [intOf]; omega
        · obtain rfl : j = Kl.length := by omega
          obtain ⟨i, b, h1, h2⟩ := HFND.out
          have h3 := (List.getElem?_eq_some_iff.1 h1).1
          rw [datas_length] at h3
          exact absurd h2 (HNO.out i b h3 h1)
end Go.Proofs.YtalmjmhbpmhokaaGreat
