/- step: a step at both logs. -/
import Derived.Test.YtdeahiccgjldbaaWalV
namespace Go.Proofs.Ytdeahiccgjldbaa
open Go.RowKit

/-- The step's box. -/
abbrev sbox (x : StV) : Obj := .cells #[.int .i64 x.do_, .int .i64 x.n, .slice x.ad x.data.length x.cap, .slice x.lad x.rows.length x.lcap] 43

/-- What a step answers. -/
def Steps (base B D R : Nat) (s : DS) (w : World) (x : StV) (e : Ending) (w' : World) : Prop :=
  ∃ L M, e = .returned (.tuple #[ptr L, ptr M, .bool true]) ∧ TwoL base D R L M (stepW s x) w' ∧ Below B w w'

set_option maxRecDepth 100000 in
set_option maxHeartbeats 4000000 in
theorem step_any {base B D R L M : Nat} {s : DS} {w : World} (hT : TwoL base D R L M s w) (ho : s.Ok) (hBD : B ≤ D) (hBR : B ≤ R) (x : StV) (hx : By w B x.ad x.data) (hxl : Ls w B x.lad x.rows) (hl : x.data.length ≤ 1100 ∧ x.rows.length ≤ 20) :
    Calls Try.prog 14 #[ptr D, ptr R, ptr L, ptr M, x.v] w (Steps base B D R s w x) := by
  obtain ⟨⟨v, u, hd, hr, ne, ha⟩, hL, hM⟩ := hT
  have hBw : B ≤ w.heap.size := by have := hd.dlt; omega
  obtain ⟨W, hW⟩ : ∃ W, W = w.alloc (sbox x) := ⟨_, rfl⟩
  have hdW : DAt DT base W D s v := by rw [hW]; exact hd.alloc _
  have hrW : DAt RT base W R s u := by rw [hW]; exact hr.alloc _
  have hbW : Below B w W := by rw [hW]; exact (Below.refl _ _).alloc hBw _
  have hLW : LAt LT W L D := by rw [hW]; exact hL.below ((Below.refl _ _).alloc (Nat.le_refl _) _)
  have hMW : LAt MT W M R := by rw [hW]; exact hM.below ((Below.refl _ _).alloc (Nat.le_refl _) _)
  have hxW : By W B x.ad x.data := hx.below hbW
  have hxlW : Ls W B x.lad x.rows := hxl.below hbW
  have hBW2 : B ≤ W.heap.size := by have := hdW.dlt; omega
  have hg : W.heap[w.heap.size]? = some (sbox x) := by rw [hW]; exact heap_alloc_new w _
  have hOg : Oth W D v w.heap.size := ⟨(Array.getElem?_eq_some_iff.1 hg).1, fun e => by have := hd.dlt; omega, fun e => by have := (hd.ob _ e).2; omega⟩
  obtain ⟨g, hgg⟩ : ∃ g, g = w.heap.size := ⟨_, rfl⟩
  rw [← hgg] at hg hOg
  have b0 : W.cell? ⟨g, 0, none⟩ = some (.int .i64 x.do_) := cell_of_row W g 0 _ _ _ hg
  have b1 : W.cell? ⟨g, 1, none⟩ = some (.int .i64 x.n) := cell_of_row W g 1 _ _ _ hg
  have b2 : W.cell? ⟨g, 2, none⟩ = some (.slice x.ad x.data.length x.cap) := cell_of_row W g 2 _ _ _ hg
  have b3 : W.cell? ⟨g, 3, none⟩ = some (.slice x.lad x.rows.length x.lcap) := cell_of_row W g 3 _ _ _ hg
  have hkeep : ∀ w1, Kp (Oth W D v) W w1 → w1.cell? ⟨g, 1, none⟩ = some (.int .i64 x.n) ∧ w1.cell? ⟨g, 2, none⟩ = some (.slice x.ad x.data.length x.cap) ∧ w1.cell? ⟨g, 3, none⟩ = some (.slice x.lad x.rows.length x.lcap) := fun w1 hk =>
    ⟨cell_of_row w1 g 1 _ _ _ ((hk.block g hOg).trans hg), cell_of_row w1 g 2 _ _ _ ((hk.block g hOg).trans hg), cell_of_row w1 g 3 _ _ _ ((hk.block g hOg).trans hg)⟩
  have HKeep := Lib.hid hkeep
  have HD := Lib.hid hdW
  have HR := Lib.hid hrW
  have HBW := Lib.hid hbW
  have HBW2 := Lib.hid hBW2
  have HLW := Lib.hid hLW
  have HMW := Lib.hid hMW
  have HXW := Lib.hid hxW
  have HXL := Lib.hid hxlW
  have HW := Lib.hid hW
  have HG := Lib.hid hgg
  have HNe := Lib.hid ne
  have HAp := Lib.hid ha
  have HO := Lib.hid ho
  have HBD := Lib.hid hBD
  have HBR := Lib.hid hBR
  have HLen := Lib.hid hl
  clear hkeep hdW hrW hbW hBW2 hxW hxlW hLW hMW hL hM hW hgg ne ha ho hBD hBR hl hd hr hx hxl hBw hg hOg
  obtain ⟨q, hq⟩ : ∃ q, q = x.do_ := ⟨_, rfl⟩
  rw [← hq] at b0
  rcases (show q = 0 ∨ q = 1 ∨ q = 2 ∨ q = 3 ∨ (q ≠ 0 ∧ q ≠ 1 ∧ q ≠ 2 ∧ q ≠ 3) by omega) with rfl | rfl | rfl | rfl | hne
  · have hst : stepW s x = (appW s x.data).2 := by unfold stepW; rw [if_pos hq.symm]
    have HQ := Lib.hid hq
    have HSt := Lib.hid hst
    clear hq hst
    have HC := Lib.hid (lappend_any (c := x.cap) HD.out HO.out HLW.out (HXW.out.more HBW2.out))
    have c0 := HLW.out.cell
    go_enter Try.func14, Try.ntmps14
    go_upto_region 1 with fail
    change Code.wp _ _ _ _ (w.alloc (sbox x))
    rw [← HW.out, ← HG.out]
    go_wp2_with fail
    refine HC.out.mono ?_
    rintro e w1 ⟨rfl, hd1⟩
    obtain ⟨e1, e2, e3⟩ := HKeep.out w1 (by obtain ⟨_, _, hk, _⟩ := hd1; exact hk)
    have HK1 := Lib.hid (Did.low HD.out HBD.out hd1)
    obtain ⟨v1, h1, r1, a1, l1, m1, fin⟩ := TwoL.both HD.out HR.out HNe.out HAp.out HLW.out HMW.out hd1
    have R1 := Lib.hid r1
    have M1 := Lib.hid m1
    have FIN := Lib.hid fin
    have m0 := m1.cell
    have HC2 := Lib.hid (rlappend_any (c := x.cap) R1.out HO.out M1.out ((HXW.out.below HK1.out).more (Nat.le_trans HBW2.out HK1.out.size)))
    clear hd1 h1 r1 a1 l1 m1 fin c0
    go_wp2_with fail
    refine HC2.out.mono ?_
    rintro e w2 ⟨rfl, hd2⟩
    have HK2 := Lib.hid (HBW.out.trans (HK1.out.trans (Did.low R1.out HBR.out hd2)))
    have HF := Lib.hid (FIN.out w2 hd2)
    clear hd2
    go_wp2
    go_ret3
    refine ⟨L, M, rfl, ?_, HK2.out⟩
    rw [HSt.out]
    exact HF.out
  · have hst : stepW s x = (syncD s).2 := by unfold stepW; rw [if_neg (by omega), if_pos hq.symm]
    have HQ := Lib.hid hq
    have HSt := Lib.hid hst
    clear hq hst
    have HC := Lib.hid (sync_any HD.out HO.out)
    have c0 := HLW.out.cell
    go_enter Try.func14, Try.ntmps14
    go_upto_region 1 with fail
    change Code.wp _ _ _ _ (w.alloc (sbox x))
    rw [← HW.out, ← HG.out]
    go_wp2_with fail
    refine HC.out.mono ?_
    rintro e w1 ⟨rfl, hd1⟩
    obtain ⟨e1, e2, e3⟩ := HKeep.out w1 (by obtain ⟨_, _, hk, _⟩ := hd1; exact hk)
    have HK1 := Lib.hid (Did.low HD.out HBD.out hd1)
    obtain ⟨v1, h1, r1, a1, l1, m1, fin⟩ := TwoL.both HD.out HR.out HNe.out HAp.out HLW.out HMW.out hd1
    have R1 := Lib.hid r1
    have M1 := Lib.hid m1
    have FIN := Lib.hid fin
    have m0 := m1.cell
    have HC2 := Lib.hid (rsync_any R1.out HO.out)
    clear hd1 h1 r1 a1 l1 m1 fin c0
    go_wp2_with fail
    refine HC2.out.mono ?_
    rintro e w2 ⟨rfl, hd2⟩
    have HK2 := Lib.hid (HBW.out.trans (HK1.out.trans (Did.low R1.out HBR.out hd2)))
    have HF := Lib.hid (FIN.out w2 hd2)
    clear hd2
    go_wp2
    go_ret3
    refine ⟨L, M, rfl, ?_, HK2.out⟩
    rw [HSt.out]
    exact HF.out
  · have hst : stepW s x = (compW s (datas x.rows)).2 := by unfold stepW; rw [if_neg (by omega), if_neg (by omega), if_pos hq.symm]
    have HQ := Lib.hid hq
    have HSt := Lib.hid hst
    clear hq hst
    have HC := Lib.hid (compact_any (c := x.lcap) HD.out HO.out HLW.out (HXL.out.more HBW2.out) (by have := HLen.out; omega))
    have c0 := HLW.out.cell
    go_enter Try.func14, Try.ntmps14
    go_upto_region 1 with fail
    change Code.wp _ _ _ _ (w.alloc (sbox x))
    rw [← HW.out, ← HG.out]
    go_wp2_with fail
    refine HC.out.mono ?_
    rintro e w1 ⟨rfl, hd1⟩
    obtain ⟨e1, e2, e3⟩ := HKeep.out w1 (by obtain ⟨_, _, hk, _⟩ := hd1; exact hk)
    have HK1 := Lib.hid (Did.low HD.out HBD.out hd1)
    obtain ⟨v1, h1, r1, a1, l1, m1, fin⟩ := TwoL.both HD.out HR.out HNe.out HAp.out HLW.out HMW.out hd1
    have R1 := Lib.hid r1
    have M1 := Lib.hid m1
    have FIN := Lib.hid fin
    have m0 := m1.cell
    have HC2 := Lib.hid (rcompact_any (c := x.lcap) R1.out HO.out M1.out ((HXL.out.below HK1.out).more (Nat.le_trans HBW2.out HK1.out.size)) (by have := HLen.out; omega))
    clear hd1 h1 r1 a1 l1 m1 fin c0
    go_wp2_with fail
    refine HC2.out.mono ?_
    rintro e w2 ⟨rfl, hd2⟩
    have HK2 := Lib.hid (HBW.out.trans (HK1.out.trans (Did.low R1.out HBR.out hd2)))
    have HF := Lib.hid (FIN.out w2 hd2)
    clear hd2
    go_wp2
    go_ret3
    refine ⟨L, M, rfl, ?_, HK2.out⟩
    rw [HSt.out]
    exact HF.out
  · have hst : stepW s x = failD s x.n := by unfold stepW; rw [if_neg (by omega), if_neg (by omega), if_neg (by omega), if_pos hq.symm]
    have HQ := Lib.hid hq
    have HSt := Lib.hid hst
    clear hq hst
    have HC := Lib.hid (fail_any HD.out x.n)
    have c0 := HLW.out.cell
    go_enter Try.func14, Try.ntmps14
    go_upto_region 1 with fail
    change Code.wp _ _ _ _ (w.alloc (sbox x))
    rw [← HW.out, ← HG.out]
    go_wp2_with fail
    refine HC.out.mono ?_
    rintro e w1 ⟨rfl, hd1⟩
    obtain ⟨e1, e2, e3⟩ := HKeep.out w1 (by obtain ⟨_, _, hk, _⟩ := hd1; exact hk)
    have HK1 := Lib.hid (Did.low HD.out HBD.out hd1)
    obtain ⟨v1, h1, r1, a1, l1, m1, fin⟩ := TwoL.both HD.out HR.out HNe.out HAp.out HLW.out HMW.out hd1
    have R1 := Lib.hid r1
    have M1 := Lib.hid m1
    have FIN := Lib.hid fin
    have m0 := m1.cell
    have HC2 := Lib.hid (rfail_any R1.out x.n)
    clear hd1 h1 r1 a1 l1 m1 fin c0
    go_wp2_with fail
    refine HC2.out.mono ?_
    rintro e w2 ⟨rfl, hd2⟩
    have HK2 := Lib.hid (HBW.out.trans (HK1.out.trans (Did.low R1.out HBR.out hd2)))
    have HF := Lib.hid (FIN.out w2 hd2)
    clear hd2
    go_wp2
    go_ret3
    refine ⟨L, M, rfl, ?_, HK2.out⟩
    rw [HSt.out]
    exact HF.out
  · obtain ⟨n0, n1, n2, n3⟩ := hne
    have hst : stepW s x = (againW s x.n).2 := by unfold stepW; rw [if_neg (by omega), if_neg (by omega), if_neg (by omega), if_neg (by omega)]
    have HQ := Lib.hid hq
    have HSt := Lib.hid hst
    have d0 : (q == 0) = false := by simpa using n0
    have d1 : (q == 1) = false := by simpa using n1
    have d2 : (q == 2) = false := by simpa using n2
    have d3 : (q == 3) = false := by simpa using n3
    have HAg := Lib.hid (again_opens HO.out x.n)
    have HOc := Lib.hid (crash_ok HO.out x.n)
    clear hq hst n0 n1 n2 n3
    have HC := Lib.hid (crash_any HD.out HO.out x.n)
    go_enter Try.func14, Try.ntmps14
    go_upto_region 1 with fail
    change Code.wp _ _ _ _ (w.alloc (sbox x))
    rw [← HW.out, ← HG.out]
    go_wp2_with fail
    refine HC.out.mono ?_
    rintro e w1 ⟨rfl, hd1⟩
    obtain ⟨e1, e2, e3⟩ := HKeep.out w1 (by obtain ⟨_, _, hk, _⟩ := hd1; exact hk)
    have HK1 := Lib.hid (Did.low HD.out HBD.out hd1)
    obtain ⟨v1, h1, r1, a1⟩ := other HD.out HR.out HNe.out HAp.out hd1
    have H1 := Lib.hid h1
    have R1 := Lib.hid r1
    have A1 := Lib.hid a1
    have HC2 := Lib.hid (rcrash_any R1.out HO.out x.n)
    clear hd1 h1 r1 a1
    go_wp2_with fail
    refine HC2.out.mono ?_
    rintro e w2 ⟨rfl, hd2⟩
    have HK2 := Lib.hid (HBW.out.trans (HK1.out.trans (Did.low R1.out HBR.out hd2)))
    obtain ⟨u2, r2, h2, a2⟩ := other R1.out H1.out (fun e => HNe.out e.symm) A1.out.symm hd2
    have H2 := Lib.hid h2
    have R2 := Lib.hid r2
    have A2 := Lib.hid a2
    have HC3 := Lib.hid (open_any H2.out HOc.out)
    clear hd2 r2 h2 a2 e1 e2 e3
    go_wp2_with fail
    refine HC3.out.mono ?_
    rintro e w3 ⟨hd3, (⟨_, L3, rfl, hL3⟩ | ⟨hx3, _⟩)⟩
    · have HK3 := Lib.hid (HK2.out.trans (Did.low H2.out HBD.out hd3))
      obtain ⟨v3, h3, r3, a3⟩ := other H2.out R2.out HNe.out A2.out.symm hd3
      have H3 := Lib.hid h3
      have R3 := Lib.hid r3
      have A3 := Lib.hid a3
      have L3' := Lib.hid hL3
      have HC4 := Lib.hid (ropen_any R3.out HOc.out)
      clear hd3 h3 r3 a3 hL3
      go_wp2_with fail
      refine HC4.out.mono ?_
      rintro e w4 ⟨hd4, (⟨_, M4, rfl, hM4⟩ | ⟨hx4, _⟩)⟩
      · have HK4 := Lib.hid (HK3.out.trans (Did.low R3.out HBR.out hd4))
        obtain ⟨u4, r4, h4, a4⟩ := other R3.out H3.out (fun e => HNe.out e.symm) A3.out.symm hd4
        have HF : Hid (TwoL base D R L3 M4 (openW (crashD s x.n)).2 w4) := Lib.hid ⟨⟨v3, u4, h4, r4, HNe.out, a4.symm⟩, L3'.out.did R3.out (by decide) (by decide) hd4, hM4⟩
        clear hd4 r4 h4 a4 hM4
        go_wp2
        go_ret3
        refine ⟨L3, M4, rfl, ?_, HK4.out⟩
        rw [HSt.out]
        exact HF.out
      · exact absurd HAg.out.1 hx4
    · exact absurd HAg.out.1 hx3

end Go.Proofs.Ytdeahiccgjldbaa
