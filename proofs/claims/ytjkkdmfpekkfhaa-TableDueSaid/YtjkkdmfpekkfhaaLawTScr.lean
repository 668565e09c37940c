/- The law TableScripts, over any table of the program's. -/
import Derived.Test.YtjkkdmfpekkfhaaLawTCli
import Derived.Deep.RegionHeld3
import Derived.Deep.DeepCutAuto
namespace Go.Proofs.Ytjkkdmfpekkfhaa
open Go.RowKit Go.Sort
attribute [local go_sem ↓] run_eqlL run_neqL run_guardL

theorem fst_form (o : Option Nat) : ∃ (a : Int) (b : Bool), fstV o = .tuple #[.int .u32 a, .bool b] := by
  cases o with
  | none => exact ⟨0, false, rfl⟩
  | some a => exact ⟨(a : Int), true, rfl⟩
theorem below_of_drew {w w' : World} (h : Below w.drew.heap.size w.drew w') : Below w.heap.size w w' := ⟨h.os, h.tape, h.output, h.size, h.block⟩
/-- An array of three numbers in a box. -/
theorem box3 {w w' : World} {x0 x1 x2 : Int} (t : TypeId) (hb : Below (w.heap.size + 1) (w.alloc (.cells #[.int .i64 x0, .int .i64 x1, .int .i64 x2] t)) w') : w'.cell? ⟨w.heap.size, 0, none⟩ = some (.int .i64 x0) ∧ w'.cell? ⟨w.heap.size, 1, none⟩ = some (.int .i64 x1) ∧ w'.cell? ⟨w.heap.size, 2, none⟩ = some (.int .i64 x2) := by
  have h := (hb.block w.heap.size (by omega)).trans (heap_alloc_new w _)
  exact ⟨cell_of_row _ _ 0 _ _ _ h, cell_of_row _ _ 1 _ _ _ h, cell_of_row _ _ 2 _ _ _ h⟩

set_option maxRecDepth 100000 in
set_option maxHeartbeats 8000000 in
theorem law_tscripts {T : World → (Nat → Prop) → Nat → List LV → Prop} (K : TabK T) (A A2 : Option Addr) (c c2 : Nat) (l : List (Nat × Nat)) (ls : List LV) (x0 x1 x2 : Int) (w : World) (hR : Rg w w.heap.size A l) (hE : El ElemL w w.heap.size A2 ls) (hl : l.length ≤ 9223372036854775807) (hls : ls.length ≤ 9223372036854775807) (ha : ∀ x ∈ ls, x.addr < 4294967296) :
    Calls Try.prog 3 #[.slice A l.length c, .slice A2 ls.length c2, .agg #[.int .i64 x0, .int .i64 x1, .int .i64 x2]] w fun e w' => e = .returned (.bool true) ∧ Below w.heap.size w w' := by
  obtain ⟨w0, hw0⟩ : ∃ w0, w0 = w.alloc (.cells #[.int .i64 x0, .int .i64 x1, .int .i64 x2] 24) := ⟨_, rfl⟩
  have hB0 : Below w.heap.size w w0 := by rw [hw0]; exact (Below.refl _ _).alloc (Nat.le_refl _) _
  have HX : Hid (∀ w', Below w0.heap.size w0 w' → w'.cell? ⟨w.heap.size, 0, none⟩ = some (.int .i64 x0) ∧ w'.cell? ⟨w.heap.size, 1, none⟩ = some (.int .i64 x1) ∧ w'.cell? ⟨w.heap.size, 2, none⟩ = some (.int .i64 x2)) := Lib.hid (fun w' hb => by
    rw [hw0] at hb
    exact box3 _ (hb.mono (by simp)))
  have HK := Lib.hid K
  have HR := Lib.hid ((hR.below hB0).more hB0.size)
  have HE := Lib.hid (hE.later hB0)
  have HA := Lib.hid ha
  have HAW := Lib.hid (tawake_any K w0)
  have HB0 := Lib.hid hB0
  have HW0 := Lib.hid hw0
  clear K hR hE ha hB0 hw0
  go_enter Try.func3, Try.ntmps3
  go_wp2_with fail
  rw [← HW0.out]
  refine HAW.out.mono ?_
  rintro e w1 ⟨rfl, hB1⟩
  have HB1 := Lib.hid hB1
  have HR1 := Lib.hid ((HR.out.below hB1).more hB1.size)
  have HE1 := Lib.hid (HE.out.later hB1)
  have HLO := Lib.hid (long_any A A2 c c2 l ls w1 w1.heap.size HE1.out hl hls)
  clear hB1
  go_wp2_with fail
  refine HLO.out.mono ?_
  rintro e w1' ⟨rfl, rfl⟩
  cases hlong : longB l ls
  rotate_left
  · clear hlong
    go_wp2
    go_ret
    exact ⟨rfl, HB0.out.trans (HB1.out.mono HB0.out.size)⟩
  obtain ⟨h50, h200⟩ := long_not hlong
  have HM := Lib.hid (made_any HK.out A A2 c c2 l ls w1 HR1.out (by omega) HE1.out h200 HA.out)
  clear hlong
  go_wp2_with fail
  refine HM.out.mono ?_
  rintro e w2 (⟨ol, code, -, -, rfl, hB2⟩ | ⟨ol, P, g, gr, v, L, -, rfl, -, hT⟩)
  · go_wp2
    go_ret
    exact ⟨rfl, HB0.out.trans ((HB1.out.trans (hB2.mono HB1.out.size)).mono HB0.out.size)⟩
  obtain ⟨a, hwa⟩ : ∃ a : Nat, IntKind.u32.wrap x0 = (a : Int) := ⟨(x0 % 4294967296).toNat, by simp [IntKind.wrap, IntKind.bits, IntKind.signed]; omega⟩
  have hal : a < 4294967296 := by
    have : IntKind.u32.wrap x0 < 4294967296 := by simp [IntKind.wrap, IntKind.bits, IntKind.signed]; omega
    omega
  have HT := Lib.hid hT
  have HB2 : Hid (Below w0.heap.size w0 w2) := Lib.hid (HB1.out.trans (hT.low.mono HB1.out.size))
  have hfew : L.length ≤ 100000 := Nat.le_trans (HK.out.few hT.t) (by omega)
  have hfew2 : L.length ≤ 256 := HK.out.few hT.t
  obtain ⟨q, hq⟩ : ∃ q, q = getL L a := ⟨_, rfl⟩
  have HG := HK.out.get a hT.t hal
  rw [← hq] at HG
  have HG := Lib.hid HG
  have HQ := Lib.hid hq
  obtain ⟨y0, y1, y2⟩ := HX.out w2 HB2.out
  clear hT hq
  go_wp2_with fail
  refine HG.out.mono ?_
  rintro e w3 ⟨rfl, hB3⟩
  obtain ⟨w4, hw4⟩ : ∃ w4, w4 = w3.alloc (lbox q.1) := ⟨_, rfl⟩
  have hB4 : Below w3.heap.size w3 w4 := by rw [hw4]; exact (Below.refl _ _).alloc (Nat.le_refl _) _
  have HL4 : Hid (LBox w4 w3.heap.size q.1) := Lib.hid (by rw [hw4]; exact LBox.new w3 q.1)
  have HT4 := Lib.hid ((HT.out.later HK.out hB3).later HK.out hB4)
  have HB4 := Lib.hid ((HB2.out.trans (hB3.mono HB2.out.size)).trans (hB4.mono (HB2.out.trans (hB3.mono HB2.out.size)).size))
  have HW4 := Lib.hid hw4
  clear hB3 hB4 hw4 y0 y1 y2
  go_upto_region 9 with fail
  rw [← HW4.out]
  obtain ⟨y0, y1, y2⟩ := HX.out w4 HB4.out
  have HRG := rget_any a HT4.out.r hfew
  rw [← HQ.out] at HRG
  have HRG := Lib.hid HRG
  go_wp2_with fail
  refine HRG.out.mono ?_
  rintro e w5 ⟨rfl, hB5⟩
  obtain ⟨w6, hw6⟩ : ∃ w6, w6 = w5.alloc (lbox q.1) := ⟨_, rfl⟩
  have hB6 : Below w5.heap.size w5 w6 := by rw [hw6]; exact (Below.refl _ _).alloc (Nat.le_refl _) _
  have HM6 : Hid (LBox w6 w5.heap.size q.1) := Lib.hid (by rw [hw6]; exact LBox.new w5 q.1)
  have HL6 := Lib.hid ((HL4.out.later hB5).later hB6)
  have HT6 := Lib.hid ((HT4.out.later HK.out hB5).later HK.out hB6)
  have HB6 := Lib.hid ((HB4.out.trans (hB5.mono HB4.out.size)).trans (hB6.mono (HB4.out.trans (hB5.mono HB4.out.size)).size))
  have HW6 := Lib.hid hw6
  clear hB5 hB6 hw6 y0 y1 y2
  obtain ⟨fa, fb, hf⟩ := fst_form (fstL L x1)
  go_upto_region 10 with fail
  rw [← HW6.out]
  obtain ⟨y0, y1, y2⟩ := HX.out w6 HB6.out
  have HF := HK.out.fst x1 HT6.out.t
  rw [hf] at HF
  have HF := Lib.hid HF
  go_wp2_with fail
  refine HF.out.mono ?_
  rintro e w7 ⟨rfl, hB7⟩
  have HL7 := Lib.hid (HL6.out.later hB7)
  have HM7 := Lib.hid (HM6.out.later hB7)
  have HT7 := Lib.hid (HT6.out.later HK.out hB7)
  have HB7 := Lib.hid (HB6.out.trans (hB7.mono HB6.out.size))
  clear hB7 y0 y1 y2
  obtain ⟨y0, y1, y2⟩ := HX.out w7 HB7.out
  have HRF := rfst_any x1 HT7.out.r hfew
  rw [hf] at HRF
  have HRF := Lib.hid HRF
  go_wp2_with fail
  refine HRF.out.mono ?_
  rintro e w7' ⟨rfl, rfl⟩
  clear hf
  go_upto_region 12 with fail
  obtain ⟨A5, c5, hv5, r5, hc5, hE5⟩ := HT7.out.r.read
  have HE5 := Lib.hid hE5
  have HALL := Lib.hid (fun W (hb : Below w7.heap.size w7 W) => HK.out.all' (HK.out.later HT7.out.t hb))
  have HSB : Hid (∀ W, Below w7.heap.size w7 W → W.cell? ⟨gr, 0, none⟩ = some (.slice A5 L.length c5)) := Lib.hid (fun W hb => (hb.cell (p := ⟨gr, 0, none⟩) HT7.out.r.lt).trans r5)
  clear hE5 hv5
  go_cut [20] (fun s20 wx => s20 = .bool true ∧ Below w7.heap.size w7 wx)
  case first =>
    go_region_held3 (fun w' => w'.cell? ⟨gr, 0, none⟩ = some (.slice A5 L.length c5))
      (first | assumption | exact HSB.out _ (Below.refl _ _).drew | exact HSB.out _ hBa | exact HSB.out _ (hBa.trans hBs))
      (first
        | (go_at_call 16; refine (HALL.out _ (Below.refl _ _).drew).mono ?_; rintro e w8 ⟨A8, c8, l8, rfl, HL8, hE8, -, hB8⟩; have hBa : Below w7.heap.size w7 w8 := below_of_drew hB8; have HE8 := Lib.hid hE8; have HS8 := Lib.hid (lsame_any w8.heap.size w7.heap.size A8 A5 c8 c5 l8 L w8 HE8.out (HE5.out.below hBa) (by rw [HL8.out]; exact hfew)); have HEQ := Lib.hid (show decide (l8 = L) = true from decide_eq_true HL8.out); clear hE8 hB8)
        | (go_at_call 15; (with_reducible refine HS8.out.mono ?_); rintro e w9 ⟨rfl, n9, rfl⟩; have hBs : Below w7.heap.size w8 (w8.drewN n9) := ⟨rfl, rfl, rfl, Nat.le_refl _, fun _ _ => rfl⟩))
    all_goals
      go_wp2_with fail
      go_meet
      rw [HEQ.out]
      exact ⟨rfl, hBa.trans hBs⟩
  case rest =>
    obtain ⟨rfl, hB8⟩ := hcut
    have HB8 := Lib.hid hB8
    have HDUE := Lib.hid (fun W (hb : Below w7.heap.size w7 W) => HK.out.due' x2 (HK.out.later HT7.out.t hb))
    have HRDUE := Lib.hid (fun W (hb : Below w7.heap.size w7 W) => rdue_any x2 (HT7.out.r.later hb) hfew)
    have HSX : Hid (∀ W, Below w7.heap.size w7 W → W.cell? ⟨w.heap.size, 2, none⟩ = some (.int .i64 x2)) := Lib.hid (fun W hb => (HX.out W (HB7.out.trans (hb.mono HB7.out.size))).2.2)
    have hdl : (dueL L x2).length ≤ 100000 := Nat.le_trans (due_len_le L x2) hfew
    clear hB8 y0 y1 y2 r5
    have hxs := HSX.out _ HB8.out
    go_upto_region 13 with fail
    go_cut [21] (fun s21 wx => s21 = .bool true ∧ Below w7.heap.size w7 wx)
    case first =>
      go_region_held3 (fun w' => w'.cell? ⟨w.heap.size, 2, none⟩ = some (.int .i64 x2))
        (first | assumption | exact HSX.out _ HB8.out.drew | exact HSX.out _ hBa | exact HSX.out _ hBb | exact HSX.out _ (hBb.trans hBs))
        (first
          | (go_at_call 17; refine (HDUE.out _ HB8.out.drew).mono ?_; rintro e w9 ⟨A9, c9, l9, rfl, HL9, hE9, -, hB9⟩; have hBa : Below w7.heap.size w7 w9 := HB8.out.trans ((below_of_drew hB9).mono HB8.out.size); have HE9 := Lib.hid hE9; clear hE9 hB9)
          | (go_at_call 18; refine (HRDUE.out _ hBa).mono ?_; rintro e w10 ⟨A10, c10, l10, rfl, HL10, hR10, -⟩; have hBb : Below w7.heap.size w7 w10 := hBa.trans (hR10.low.mono hBa.size); have HE10 := Lib.hid (El.of_own hR10.own); have HS10 := Lib.hid (lsame_any w10.heap.size w10.heap.size A9 A10 c9 c10 l9 l10 w10 (HE9.out.later hR10.low) HE10.out (by rw [HL9.out]; exact hdl)); have HEQ := Lib.hid (show decide (l9 = l10) = true from decide_eq_true (by rw [HL9.out, HL10.out])); clear hR10)
          | (go_at_call 15; (with_reducible refine HS10.out.mono ?_); rintro e w11 ⟨rfl, n11, rfl⟩; have hBs : Below w7.heap.size w10 (w10.drewN n11) := ⟨rfl, rfl, rfl, Nat.le_refl _, fun _ _ => rfl⟩))
      all_goals
        go_wp2_with fail
        go_meet
        rw [HEQ.out]
        exact ⟨rfl, hBb.trans hBs⟩
    case rest =>
      obtain ⟨rfl, hB9⟩ := hcut
      have HB9 := Lib.hid hB9
      have HL9 := Lib.hid (HL7.out.later hB9)
      have HM9 := Lib.hid (HM7.out.later hB9)
      have HT9 := Lib.hid (HT7.out.later HK.out hB9)
      obtain ⟨n, hn⟩ : ∃ n : Int, n = ((cntL L x1 : Nat) : Int) := ⟨_, rfl⟩
      have CC := Lib.hid (fun d os => Calls.regrown_of (HK.out.cnt x1 (HK.out.later HT9.out.t (below_regrown _ d os))))
      have CR := Lib.hid (fun d os => Calls.regrown_of ((rcnt_any x1 (HT9.out.r.later (below_regrown _ d os)) hfew).mono fun e w' ⟨he, hw⟩ => ⟨he, (by rw [hw]; exact Below.refl _ _)⟩))
      simp only [← hn] at CC CR
      have y1 := (HX.out _ (HB7.out.trans (hB9.mono HB7.out.size))).2.1
      have yr := fun (d : Nat) (os : Array Obj) => cell_regrown (d := d) (os := os) y1
      obtain ⟨p0, p1, p2, p3, p4, p5, p6, p7⟩ := HL9.out.allR
      obtain ⟨q0, q1, q2, q3, q4, q5, q6, q7⟩ := HM9.out.allR
      have hself : eqL (q.1.addr : Int) q.1.bind q.1.cb q.1.unt q.1.acked q.1.told q.1.at_ q.1.ver (q.1.addr : Int) q.1.bind q.1.cb q.1.unt q.1.acked q.1.told q.1.at_ q.1.ver = true := by rw [eqL_of]; simp
      have hs1 : (q.2 == q.2) = true := by simp
      have hs2 : (fa == fa) = true := by simp
      have hs3 : (fb == fb) = true := by simp
      have hs4 : (n == n) = true := by simp
      clear hB9 hn HDUE HRDUE
      go_wp2_with fail
      refine wp_region_quiet_below (by kernel_rfl) (by kernel_rfl) ?_
      repeat (quiet_step (first | (go_at_call 19; exact CC.out _ _) | (go_at_call 20; exact CR.out _ _)))
      refine wpQuiet_nil ?_
      intro _ hw'
      obtain ⟨⟨dq, osq⟩, hw''⟩ := hw'
      subst hw''
      go_wp2
      go_ret
      refine ⟨by simp, ?_⟩
      have h1 := HB9.out.trans ((below_regrown _ dq osq).mono HB9.out.size)
      exact HB0.out.trans ((HB7.out.trans (h1.mono HB7.out.size)).mono HB0.out.size)
end Go.Proofs.Ytjkkdmfpekkfhaa
