/- Both disks beside each other; step: a step at both. -/
import Derived.Test.YtofaapcfileojaaDskV
namespace Go.Proofs.Ytofaapcfileojaa
open Go.RowKit

def Apart (v u : Value) : Prop := ∀ k, v.ownBlock = some k → u.ownBlock ≠ some k
theorem Apart.symm {v u : Value} (h : Apart v u) : Apart u v := fun k hk e => h k e hk

/-- A call upon one disk leaves the other one alone. -/
theorem other {ty ty' : TypeId} {base : Nat} {w w' : World} {D R : Nat} {s s' s2 : DS} {v u : Value} (h : DAt ty base w D s v) (hr : DAt ty' base w R s2 u) (ne : D ≠ R) (ha : Apart v u) (hd : Did ty base w D v w' s') :
    ∃ v', DAt ty base w' D s' v' ∧ DAt ty' base w' R s2 u ∧ Apart v' u := by
  obtain ⟨v', h1, hk, hob⟩ := hd
  refine ⟨v', h1, hr.kp hk ⟨hr.dlt, fun e => ne e.symm, fun e => ?_⟩ fun k hk' => ⟨(hr.ob k hk').2, ?_, fun e => ha k e hk'⟩, fun k hk1 hk2 => ?_⟩
  · have := (h.ob R e).1
    have := hr.lt
    omega
  · have := (hr.ob k hk').1
    have := h.lt
    omega
  · rcases hob k hk1 with e | e
    · exact ha k e hk2
    · have := (hr.ob k hk2).2
      omega

/-- Both disks hold s. -/
def Two (base D R : Nat) (s : DS) (w : World) : Prop :=
  ∃ v u, DAt DT base w D s v ∧ DAt RT base w R s u ∧ D ≠ R ∧ Apart v u

def stepD (s : DS) (x : StV) : DS :=
  if x.do_ = 0 then (appD s x.data).2 else if x.do_ = 1 then (syncD s).2 else if x.do_ = 2 then (swapD s x.data).2 else if x.do_ = 3 then failD s x.n else if x.do_ = 4 then crashD s x.n else s
theorem step_ok {s : DS} (h : s.Ok) (x : StV) (hn : x.n ≤ 9223372036854775807) : (stepD s x).Ok := by
  unfold stepD
  split
  · exact app_ok h _
  · split
    · exact sync_ok h
    · split
      · exact swap_ok h _
      · split
        · exact fail_ok h _ hn
        · split
          · exact crash_ok h _
          · exact h

/-- The step's box. -/
abbrev sbox (x : StV) : Obj := .cells #[.int .i64 x.do_, .int .i64 x.n, .slice x.ad x.data.length x.cap] 35

set_option maxRecDepth 100000 in
set_option maxHeartbeats 2000000 in
theorem step_any {base B D R : Nat} {s : DS} {w : World} (hT : Two base D R s w) (ho : s.Ok) (hBD : B ≤ D) (hBR : B ≤ R) (x : StV) (hx : By w B x.ad x.data) (hl : x.data.length ≤ 200) :
    Calls Try.prog 12 #[ptr D, ptr R, x.v] w fun e w' => e = .returned (.bool true) ∧ Two base D R (stepD s x) w' ∧ Below B w w' := by
  obtain ⟨v, u, hd, hr, ne, ha⟩ := hT
  have hBw : B ≤ w.heap.size := by have := hd.dlt; omega
  obtain ⟨W, hW⟩ : ∃ W, W = w.alloc (sbox x) := ⟨_, rfl⟩
  have hdW : DAt DT base W D s v := by rw [hW]; exact hd.alloc _
  have hrW : DAt RT base W R s u := by rw [hW]; exact hr.alloc _
  have hbW : Below B w W := by rw [hW]; exact (Below.refl _ _).alloc hBw _
  have hxW : By W B x.ad x.data := hx.below hbW
  have hg : W.heap[w.heap.size]? = some (.cells #[.int .i64 x.do_, .int .i64 x.n, .slice x.ad x.data.length x.cap] 35 (0, 0)) := by rw [hW]; exact heap_alloc_new w _
  have hOg : Oth W D v w.heap.size := ⟨(Array.getElem?_eq_some_iff.1 hg).1, fun e => by have := hd.dlt; omega, fun e => by have := (hd.ob _ e).2; omega⟩
  obtain ⟨g, hgg⟩ : ∃ g, g = w.heap.size := ⟨_, rfl⟩
  rw [← hgg] at hg hOg
  have b0 : W.cell? ⟨g, 0, none⟩ = some (.int .i64 x.do_) := cell_of_row W g 0 _ _ _ hg
  have b1 : W.cell? ⟨g, 1, none⟩ = some (.int .i64 x.n) := cell_of_row W g 1 _ _ _ hg
  have b2 : W.cell? ⟨g, 2, none⟩ = some (.slice x.ad x.data.length x.cap) := cell_of_row W g 2 _ _ _ hg
  have hkeep : ∀ w1, Kp (Oth W D v) W w1 → w1.cell? ⟨g, 1, none⟩ = some (.int .i64 x.n) ∧ w1.cell? ⟨g, 2, none⟩ = some (.slice x.ad x.data.length x.cap) := fun w1 hk =>
    ⟨cell_of_row w1 g 1 _ _ _ ((hk.block g hOg).trans hg), cell_of_row w1 g 2 _ _ _ ((hk.block g hOg).trans hg)⟩
  have HKeep := Lib.hid hkeep
  have HD := Lib.hid hdW
  have HR := Lib.hid hrW
  have HBW := Lib.hid hbW
  have HXW := Lib.hid hxW
  have HW := Lib.hid hW
  have HG := Lib.hid hgg
  have HNe := Lib.hid ne
  have HAp := Lib.hid ha
  have HO := Lib.hid ho
  have HBD := Lib.hid hBD
  have HBR := Lib.hid hBR
  have HLen := Lib.hid hl
  clear hkeep hdW hrW hbW hxW hW hgg ne ha ho hBD hBR hl hd hr hx hBw hg hOg
  obtain ⟨q, hq⟩ : ∃ q, q = x.do_ := ⟨_, rfl⟩
  rw [← hq] at b0
  rcases (show q = 0 ∨ q = 1 ∨ q = 2 ∨ q = 3 ∨ q = 4 ∨ (q ≠ 0 ∧ q ≠ 1 ∧ q ≠ 2 ∧ q ≠ 3 ∧ q ≠ 4) by omega) with rfl | rfl | rfl | rfl | rfl | hne
  · have hst : stepD s x = (appD s x.data).2 := by unfold stepD; rw [if_pos hq.symm]
    have HQ := Lib.hid hq
    clear hq
    rw [hst]
    clear hst
    have HC := Lib.hid (append_any (c := x.cap) HD.out HO.out (ByO.of HXW.out (Oth.low HD.out HBD.out)))
    go_enter Try.func12, Try.ntmps12
    go_upto_region 1 with fail
    change Code.wp _ _ _ _ (w.alloc (sbox x))
    rw [← HW.out, ← HG.out]
    go_wp2_with fail
    refine HC.out.mono ?_
    rintro e w1 ⟨rfl, hd1⟩
    obtain ⟨e1, e2⟩ := HKeep.out w1 (by obtain ⟨_, _, hk, _⟩ := hd1; exact hk)
    have HK1 := Lib.hid (Did.low HD.out HBD.out hd1)
    obtain ⟨v1, h1, r1, a1⟩ := other HD.out HR.out HNe.out HAp.out hd1
    have H1 := Lib.hid h1
    have R1 := Lib.hid r1
    have A1 := Lib.hid a1
    have HC2 := Lib.hid (rappend_any (c := x.cap) R1.out HO.out (ByO.of (HXW.out.below HK1.out) (Oth.low R1.out HBR.out)) (by have := HLen.out; omega))
    clear hd1 h1 r1 a1
    go_wp2_with fail
    refine HC2.out.mono ?_
    rintro e w2 ⟨rfl, hd2⟩
    have HK2 := Lib.hid (HBW.out.trans (HK1.out.trans (Did.low R1.out HBR.out hd2)))
    obtain ⟨u2, r2, h2, a2⟩ := other R1.out H1.out (fun e => HNe.out e.symm) A1.out.symm hd2
    have HF := Lib.hid (show Two base D R _ w2 from ⟨v1, u2, h2, r2, HNe.out, a2.symm⟩)
    clear hd2 r2 h2 a2
    go_wp2
    go_ret
    exact ⟨rfl, HF.out, HK2.out⟩
  · have hst : stepD s x = (syncD s).2 := by unfold stepD; rw [if_neg (by omega), if_pos hq.symm]
    have HQ := Lib.hid hq
    clear hq
    rw [hst]
    clear hst
    have HC := Lib.hid (sync_any HD.out HO.out)
    go_enter Try.func12, Try.ntmps12
    go_upto_region 1 with fail
    change Code.wp _ _ _ _ (w.alloc (sbox x))
    rw [← HW.out, ← HG.out]
    go_wp2_with fail
    refine HC.out.mono ?_
    rintro e w1 ⟨rfl, hd1⟩
    obtain ⟨e1, e2⟩ := HKeep.out w1 (by obtain ⟨_, _, hk, _⟩ := hd1; exact hk)
    have HK1 := Lib.hid (Did.low HD.out HBD.out hd1)
    obtain ⟨v1, h1, r1, a1⟩ := other HD.out HR.out HNe.out HAp.out hd1
    have H1 := Lib.hid h1
    have R1 := Lib.hid r1
    have A1 := Lib.hid a1
    have HC2 := Lib.hid (rsync_any R1.out HO.out)
    clear hd1 h1 r1 a1
    go_wp2_with fail
    refine HC2.out.mono ?_
    rintro e w2 ⟨rfl, hd2⟩
    have HK2 := Lib.hid (HBW.out.trans (HK1.out.trans (Did.low R1.out HBR.out hd2)))
    obtain ⟨u2, r2, h2, a2⟩ := other R1.out H1.out (fun e => HNe.out e.symm) A1.out.symm hd2
    have HF := Lib.hid (show Two base D R _ w2 from ⟨v1, u2, h2, r2, HNe.out, a2.symm⟩)
    clear hd2 r2 h2 a2
    go_wp2
    go_ret
    exact ⟨rfl, HF.out, HK2.out⟩
  · have hst : stepD s x = (swapD s x.data).2 := by unfold stepD; rw [if_neg (by omega), if_neg (by omega), if_pos hq.symm]
    have HQ := Lib.hid hq
    clear hq
    rw [hst]
    clear hst
    have HC := Lib.hid (swap_any (c := x.cap) HD.out HO.out (ByO.of HXW.out (Oth.low HD.out HBD.out)))
    go_enter Try.func12, Try.ntmps12
    go_upto_region 1 with fail
    change Code.wp _ _ _ _ (w.alloc (sbox x))
    rw [← HW.out, ← HG.out]
    go_wp2_with fail
    refine HC.out.mono ?_
    rintro e w1 ⟨rfl, hd1⟩
    obtain ⟨e1, e2⟩ := HKeep.out w1 (by obtain ⟨_, _, hk, _⟩ := hd1; exact hk)
    have HK1 := Lib.hid (Did.low HD.out HBD.out hd1)
    obtain ⟨v1, h1, r1, a1⟩ := other HD.out HR.out HNe.out HAp.out hd1
    have H1 := Lib.hid h1
    have R1 := Lib.hid r1
    have A1 := Lib.hid a1
    have HC2 := Lib.hid (rswap_any (c := x.cap) R1.out HO.out (ByO.of (HXW.out.below HK1.out) (Oth.low R1.out HBR.out)) (by have := HLen.out; omega))
    clear hd1 h1 r1 a1
    go_wp2_with fail
    refine HC2.out.mono ?_
    rintro e w2 ⟨rfl, hd2⟩
    have HK2 := Lib.hid (HBW.out.trans (HK1.out.trans (Did.low R1.out HBR.out hd2)))
    obtain ⟨u2, r2, h2, a2⟩ := other R1.out H1.out (fun e => HNe.out e.symm) A1.out.symm hd2
    have HF := Lib.hid (show Two base D R _ w2 from ⟨v1, u2, h2, r2, HNe.out, a2.symm⟩)
    clear hd2 r2 h2 a2
    go_wp2
    go_ret
    exact ⟨rfl, HF.out, HK2.out⟩
  · have hst : stepD s x = failD s x.n := by unfold stepD; rw [if_neg (by omega), if_neg (by omega), if_neg (by omega), if_pos hq.symm]
    have HQ := Lib.hid hq
    clear hq
    rw [hst]
    clear hst
    have HC := Lib.hid (fail_any HD.out x.n)
    go_enter Try.func12, Try.ntmps12
    go_upto_region 1 with fail
    change Code.wp _ _ _ _ (w.alloc (sbox x))
    rw [← HW.out, ← HG.out]
    go_wp2_with fail
    refine HC.out.mono ?_
    rintro e w1 ⟨rfl, hd1⟩
    obtain ⟨e1, e2⟩ := HKeep.out w1 (by obtain ⟨_, _, hk, _⟩ := hd1; exact hk)
    have HK1 := Lib.hid (Did.low HD.out HBD.out hd1)
    obtain ⟨v1, h1, r1, a1⟩ := other HD.out HR.out HNe.out HAp.out hd1
    have H1 := Lib.hid h1
    have R1 := Lib.hid r1
    have A1 := Lib.hid a1
    have HC2 := Lib.hid (rfail_any R1.out x.n)
    clear hd1 h1 r1 a1
    go_wp2_with fail
    refine HC2.out.mono ?_
    rintro e w2 ⟨rfl, hd2⟩
    have HK2 := Lib.hid (HBW.out.trans (HK1.out.trans (Did.low R1.out HBR.out hd2)))
    obtain ⟨u2, r2, h2, a2⟩ := other R1.out H1.out (fun e => HNe.out e.symm) A1.out.symm hd2
    have HF := Lib.hid (show Two base D R _ w2 from ⟨v1, u2, h2, r2, HNe.out, a2.symm⟩)
    clear hd2 r2 h2 a2
    go_wp2
    go_ret
    exact ⟨rfl, HF.out, HK2.out⟩
  · have hst : stepD s x = crashD s x.n := by unfold stepD; rw [if_neg (by omega), if_neg (by omega), if_neg (by omega), if_neg (by omega), if_pos hq.symm]
    have HQ := Lib.hid hq
    clear hq
    rw [hst]
    clear hst
    have HC := Lib.hid (crash_any HD.out HO.out x.n)
    go_enter Try.func12, Try.ntmps12
    go_upto_region 1 with fail
    change Code.wp _ _ _ _ (w.alloc (sbox x))
    rw [← HW.out, ← HG.out]
    go_wp2_with fail
    refine HC.out.mono ?_
    rintro e w1 ⟨rfl, hd1⟩
    obtain ⟨e1, e2⟩ := HKeep.out w1 (by obtain ⟨_, _, hk, _⟩ := hd1; exact hk)
    have HK1 := Lib.hid (Did.low HD.out HBD.out hd1)
    obtain ⟨v1, h1, r1, a1⟩ := other HD.out HR.out HNe.out HAp.out hd1
    have H1 := Lib.hid h1
    have R1 := Lib.hid r1
    have A1 := Lib.hid a1
    have HC2 := Lib.hid (rcrash_any R1.out HO.out x.n)
    clear hd1 h1 r1 a1
    go_wp2_with fail
    refine HC2.out.mono ?_
    rintro e w2 ⟨rfl, hd2⟩
    have HK2 := Lib.hid (HBW.out.trans (HK1.out.trans (Did.low R1.out HBR.out hd2)))
    obtain ⟨u2, r2, h2, a2⟩ := other R1.out H1.out (fun e => HNe.out e.symm) A1.out.symm hd2
    have HF := Lib.hid (show Two base D R _ w2 from ⟨v1, u2, h2, r2, HNe.out, a2.symm⟩)
    clear hd2 r2 h2 a2
    go_wp2
    go_ret
    exact ⟨rfl, HF.out, HK2.out⟩
  · obtain ⟨n0, n1, n2, n3, n4⟩ := hne
    have hst : stepD s x = s := by unfold stepD; rw [if_neg (by omega), if_neg (by omega), if_neg (by omega), if_neg (by omega), if_neg (by omega)]
    have HQ := Lib.hid hq
    have d0 : (q == 0) = false := by simpa using n0
    have d1 : (q == 1) = false := by simpa using n1
    have d2 : (q == 2) = false := by simpa using n2
    have d3 : (q == 3) = false := by simpa using n3
    have d4 : (q == 4) = false := by simpa using n4
    rw [hst]
    clear hst hq n0 n1 n2 n3 n4
    go_enter Try.func12, Try.ntmps12
    go_upto_region 1 with fail
    change Code.wp _ _ _ _ (w.alloc (sbox x))
    rw [← HW.out, ← HG.out]
    go_wp2
    go_ret
    exact ⟨rfl, ⟨v, u, HD.out, HR.out, HNe.out, HAp.out⟩, HBW.out⟩

end Go.Proofs.Ytofaapcfileojaa
