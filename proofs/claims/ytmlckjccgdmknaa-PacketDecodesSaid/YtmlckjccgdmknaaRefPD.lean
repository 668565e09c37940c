/- lessorref03.Decode. -/
import Derived.Test.YtmlckjccgdmknaaRefPD0
import Derived.Test.YtmlckjccgdmknaaRefD
import Derived.Deep.RegionHeld3
import Derived.Deep.DeepCutAuto
namespace Go.Proofs.Ytmlckjccgdmknaa
open Go.RowKit Go.Sort

theorem rdec_results {W : World} {gp : Nat} {q : PktV} {k : Int} (hp : PBox W gp q) (t : Array Value) (h2 : t[2]?.getD undef = .pointer (some ⟨gp, 0, none⟩)) (h3 : t[3]?.getD undef = .int .i64 k) :
    (results Try.f15 t).run Try.prog W = .ok (.tuple #[q.v, .int .i64 k]) W := by
  obtain ⟨r0, r1, r2, r3, r4, r5, r6, r7, r8, r9⟩ := hp.all
  simp [results, Try.f15, go_sem, h2, h3, r0, r1, r2, r3, r4, r5, r6, r7, r8, r9]

/-- What the bytes ahead of the options make of an early end. -/
def EarlyD (b : List UInt8) : Prop := decide ((b.length : Int) < 240) = true ∨ (decide ((b.length : Int) < 240) = false ∧ ∃ x, b[2]? = some x ∧ (decide ((x.toNat : Int) < 1) = true ∨ (decide ((x.toNat : Int) < 1) = false ∧ decide ((16 : Int) < (x.toNat : Int)) = true)))

set_option maxRecDepth 100000 in
set_option maxHeartbeats 1000000 in
theorem rpd_early (A : Option Addr) (c : Nat) (b : List UInt8) (w : World) (hb : By w w.heap.size A b) (h : EarlyD b) :
    Calls Try.prog 15 #[.slice A b.length c] w (GivesK w (zeroP.abs, 2)) := by
  have HB0 : Hid (Below w.heap.size w (w.alloc (pbox zeroP))) := Lib.hid ((Below.refl _ _).alloc (Nat.le_refl _) _)
  have HP0 := Lib.hid (PBox.new w zeroP)
  rcases h with hd | ⟨hd, x, hx, h1 | ⟨h1, h2⟩⟩
  rotate_left
  all_goals
    try
      (obtain ⟨g, o, rfl, hlt, hc⟩ := hb.at_ 2 x hx
       clear hx hb
       have hc2 : w.cell? ⟨g, o + 2, none⟩ = some (.int .u8 (x.toNat : Int)) := hc
       have hi0 : (2 : Int) < (b.length : Int) := by simp at hd; omega
       clear hc)
    go_enter Try.func15, Try.ntmps15
    go_wp2
    refine bodyPost_ret (v := .tuple #[zeroP.v, .int .i64 2]) ?_ ?_ ?_
    · exact rdec_results HP0.out _ rfl rfl
    · rfl
    · exact ⟨zeroP, rfl, zero_gives HB0.out⟩

theorem By.setAt {w : World} {B : Nat} {A : Option Addr} {l : List UInt8} (h : By w B A l) (i : Nat) (v : Value) : By (w.setCell ⟨B, i, none⟩ v) B A l :=
  h.keep fun _ hp => (Below.refl B w).setCell (p := ⟨B, i, none⟩) (Nat.le_refl _) v |>.cell hp

theorem rpd_bad {w W : World} {g : Nat} {t : Array Value} (hp : PBox W g zeroP) (hB : Below w.heap.size w W) (hg : w.heap.size ≤ g) (h2 : t[2]?.getD undef = .pointer (some ⟨g, 0, none⟩)) (h3 : t[3]?.getD undef = .int .i64 2) :
    bodyPost Try.prog Try.f15 (GivesK w (zeroP.abs, 2)) .ret { tmps := t, defers := [] } (storeP W g zeroP) := by
  have hgs := storeP_grown W g zeroP
  refine bodyPost_ret (v := .tuple #[zeroP.v, .int .i64 2]) ?_ ?_ ?_
  · exact rdec_results (storeP_box hp zeroP) _ h2 h3
  · rfl
  · exact ⟨zeroP, rfl, zero_gives (hB.trans (below_of_grown hgs hB.size (fun g' e => by injection e with e; omega)))⟩

set_option maxRecDepth 100000 in
set_option maxHeartbeats 6000000 in
theorem rpd_late (A : Option Addr) (c : Nat) (b : List UInt8) (w : World) (hb : By w w.heap.size A b) (hbc : b.length ≤ c) (hbl : b.length ≤ 3000) (hlen : 240 ≤ b.length) (x : UInt8) (hx : b[2]? = some x) (hx1 : 1 ≤ x.toNat) (hx16 : x.toNat ≤ 16) :
    Calls Try.prog 15 #[.slice A b.length c] w (GivesK w (decP b)) := by
  have hd : decide ((b.length : Int) < 240) = false := by simp; omega
  have h1 : decide ((x.toNat : Int) < 1) = false := by simp; omega
  have h2 : decide ((16 : Int) < (x.toNat : Int)) = false := by simp; omega
  obtain ⟨w0, hw0⟩ : ∃ w0, w0 = w.alloc (pbox zeroP) := ⟨_, rfl⟩
  have HB0 : Hid (Below w.heap.size w w0) := Lib.hid (by rw [hw0]; exact (Below.refl _ _).alloc (Nat.le_refl _) _)
  have HP0 : Hid (PBox w0 w.heap.size zeroP) := Lib.hid (by rw [hw0]; exact PBox.new w zeroP)
  obtain ⟨g, o, rfl, hlt, hc⟩ := hb.at_ 2 x hx
  have hc2 : w0.cell? ⟨g, o + 2, none⟩ = some (.int .u8 (x.toNat : Int)) := (HB0.out.cell (p := ⟨g, o + 2, none⟩) hlt).trans hc
  obtain ⟨y, hy⟩ : ∃ y, b[0]? = some y := ⟨_, List.getElem?_eq_getElem (by omega)⟩
  have hc0 : w0.cell? ⟨g, o, none⟩ = some (.int .u8 (y.toNat : Int)) := by
    obtain ⟨g', o', e, hlt', hc'⟩ := hb.at_ 0 y hy
    injection e with e; injection e with e1 e2; subst e1 e2
    exact (HB0.out.cell (p := ⟨g, o + 0, none⟩) hlt).trans hc'
  have hby := hb.later HB0.out
  have hx255 := x.toNat_lt
  have hy255 := y.toNat_lt
  have hcw : w.cell? ⟨g, o + 2, none⟩ = some (.int .u8 (x.toNat : Int)) := hc
  have hi2 : (2 : Int) < (b.length : Int) := by omega
  have hi0 : 0 < b.length := by omega
  have cuts : ∀ lo n : Nat, lo + n ≤ b.length → n ≤ 4 → ∃ A' m, (∀ W, (Instr.slice 24 (.slice (some ⟨g, o, none⟩) b.length c) (some (.int .i64 (lo : Int))) (some (.int .i64 ((lo + n : Nat) : Int))) none).run Try.prog W = .ok (.slice A' n (c - lo)) W) ∧
      m = numL ((b.drop lo).take n) ∧ m < 4294967296 ∧ By w0 w0.heap.size A' ((b.drop lo).take n) ∧ (∀ W, By W w0.heap.size A' ((b.drop lo).take n) → Calls Try.prog 35 #[.slice A' n (c - lo)] W fun e w' => e = .returned (.int .i64 (m : Int)) ∧ W = w') := by
    intro lo n hln hn4
    obtain ⟨A', hr, hby'⟩ := cut_by hby b.length c lo (lo + n) (lo : Int) ((lo + n : Nat) : Int) rfl rfl (by omega) hln hbc
    rw [Nat.add_sub_cancel_left] at hr hby'
    have hl : ((b.drop lo).take n).length = n := by rw [List.length_take, List.length_drop]; omega
    refine ⟨A', numL ((b.drop lo).take n), hr, rfl, ?_, hby', fun W h => ?_⟩
    · have h1 := numL_lt ((b.drop lo).take n)
      rw [hl] at h1
      have h2 : (256 : Nat) ^ n ≤ 256 ^ 4 := Nat.pow_le_pow_right (by decide) hn4
      have h3 : (256 : Nat) ^ 4 = 4294967296 := by decide
      omega
    · have := of_any w0.heap.size A' (c - lo) _ W h (by omega)
      rwa [hl] at this
  obtain ⟨A4, m4, r4, e4, q4, b4, k4⟩ := cuts 4 4 (by omega) (by omega)
  obtain ⟨A8, m8, r8, e8, q8, b8, k8⟩ := cuts 8 2 (by omega) (by omega)
  obtain ⟨A10, m10, r10, e10, q10, b10, k10⟩ := cuts 10 2 (by omega) (by omega)
  have hb0 : numL (b.take 1) = y.toNat := by
    have e : b.take 1 = [y] := by
      obtain ⟨h1, h2⟩ := List.getElem?_eq_some_iff.1 hy
      have := List.drop_eq_getElem_cons h1
      rw [List.drop_zero] at this
      rw [this, h2]; rfl
    rw [e]; simp [numL]
  have CUTS := Lib.hid cuts
  have HX := Lib.hid (num_at hx)
  have HY := Lib.hid hb0
  have HBY := Lib.hid hby
  have HC2 := Lib.hid hc2
  have HLT : Hid (g < w0.heap.size) := Lib.hid (Nat.lt_of_lt_of_le hlt HB0.out.size)
  have HW := Lib.hid hw0
  have E4 := Lib.hid e4
  have E8 := Lib.hid e8
  have E10 := Lib.hid e10
  have K4 := Lib.hid k4
  have K8 := Lib.hid k8
  have K10 := Lib.hid k10
  have hyw : IntKind.i64.wrap (y.toNat : Int) = y.toNat := IntWalk.i64_in _ (by omega)
  clear hx hy hc hw0 hb hby cuts e4 e8 e10 k4 k8 k10 hb0 hc2
  simp only [Nat.reduceAdd, Int.cast_ofNat_Int] at r4 r8 r10
  have u4 : IntKind.u32.wrap (m4 : Int) = m4 := wrap32 _ q4
  go_enter Try.func15, Try.ntmps15
  go_upto_region 3 with fail
  change Code.wp _ _ _ _ (w.alloc (pbox zeroP))
  rw [← HW.out]
  go_cut [4] (fun s4 wx => s4 = .pointer (some ⟨w0.heap.size, 0, none⟩) ∧ PBox wx w0.heap.size ⟨y.toNat, m4, m8, m10, 0, 0, 0, 0, none, 0, [], none, 0, []⟩ ∧ Below w0.heap.size w0 wx)
  case first =>
    go_region_held3 (fun w' => w'.cell? ⟨g, o, none⟩ = some (.int .u8 (y.toNat : Int))) (go_keep)
      (first
        | (go_at_call 35; (with_reducible refine (K4.out _ ?_).mono ?_); (first | exact b4.drew | exact (b4.below ((Below.refl _ _).alloc (Nat.le_refl _) _)).drew); rintro e w' ⟨rfl, rfl⟩)
        | (go_at_call 35; (with_reducible refine (K8.out _ ?_).mono ?_); (first | exact b8.drew | exact (b8.below ((Below.refl _ _).alloc (Nat.le_refl _) _)).drew); rintro e w' ⟨rfl, rfl⟩)
        | (go_at_call 35; (with_reducible refine (K10.out _ ?_).mono ?_); (first | exact b10.drew | exact (b10.below ((Below.refl _ _).alloc (Nat.le_refl _) _)).drew); rintro e w' ⟨rfl, rfl⟩))
    all_goals
      go_wp2_with fail
      go_meet
      exact ⟨rfl, PBox.new w0 ⟨y.toNat, m4, m8, m10, 0, 0, 0, 0, none, 0, [], none, 0, []⟩, ((Below.refl _ _).alloc (Nat.le_refl _) _).drew⟩
  case rest =>
    obtain ⟨rfl, hbx, hB1⟩ := hcut
    have cuts := CUTS.out
    obtain ⟨A12, m12, r12, e12, q12, b12, k12⟩ := cuts 12 4 (by omega) (by omega)
    obtain ⟨A16, m16, r16, e16, q16, b16, k16⟩ := cuts 16 4 (by omega) (by omega)
    obtain ⟨A20, m20, r20, e20, q20, b20, k20⟩ := cuts 20 4 (by omega) (by omega)
    obtain ⟨A24, m24, r24, e24, q24, b24, k24⟩ := cuts 24 4 (by omega) (by omega)
    simp only [Nat.reduceAdd, Int.cast_ofNat_Int] at r12 r16 r20 r24
    have E12 := Lib.hid e12
    have E16 := Lib.hid e16
    have E20 := Lib.hid e20
    have E24 := Lib.hid e24
    have K12 := Lib.hid k12
    have K16 := Lib.hid k16
    have K20 := Lib.hid k20
    have K24 := Lib.hid k24
    have C12 := Lib.hid (b12.below hB1)
    have C16 := Lib.hid (b16.below hB1)
    have C20 := Lib.hid (b20.below hB1)
    have C24 := Lib.hid (b24.below hB1)
    have HBX := Lib.hid hbx
    have HB1 := Lib.hid hB1
    have u12 : IntKind.u32.wrap (m12 : Int) = m12 := wrap32 _ q12
    have u16 : IntKind.u32.wrap (m16 : Int) = m16 := wrap32 _ q16
    have u20 : IntKind.u32.wrap (m20 : Int) = m20 := wrap32 _ q20
    have u24 : IntKind.u32.wrap (m24 : Int) = m24 := wrap32 _ q24
    have d4 := hbx.c4
    have d5 := hbx.c5
    have d6 := hbx.c6
    have d7 := hbx.c7
    have f4 := frozen_of_row wc w0.heap.size 4 _ _ hbx
    have f5 := frozen_of_row wc w0.heap.size 5 _ _ hbx
    have f6 := frozen_of_row wc w0.heap.size 6 _ _ hbx
    have f7 := frozen_of_row wc w0.heap.size 7 _ _ hbx
    clear cuts e12 e16 e20 e24 k12 k16 k20 k24 b12 b16 b20 b24 b4 b8 b10 r4 r8 r10 hbx hB1 hcw
    go_upto_region 8 with (first
        | (go_at_call 35; (with_reducible refine (K12.out _ ?_).mono ?_); (repeat (first | exact C12.out | apply By.setAt)); rintro e w' ⟨rfl, rfl⟩)
        | (go_at_call 35; (with_reducible refine (K16.out _ ?_).mono ?_); (repeat (first | exact C16.out | apply By.setAt)); rintro e w' ⟨rfl, rfl⟩)
        | (go_at_call 35; (with_reducible refine (K20.out _ ?_).mono ?_); (repeat (first | exact C20.out | apply By.setAt)); rintro e w' ⟨rfl, rfl⟩)
        | (go_at_call 35; (with_reducible refine (K24.out _ ?_).mono ?_); (repeat (first | exact C24.out | apply By.setAt)); rintro e w' ⟨rfl, rfl⟩))
    obtain ⟨v, hv⟩ : ∃ v, v = (((wc.setCell ⟨w0.heap.size, 4, none⟩ (.int .u32 (m12 : Int))).setCell ⟨w0.heap.size, 5, none⟩ (.int .u32 (m16 : Int))).setCell ⟨w0.heap.size, 6, none⟩ (.int .u32 (m20 : Int))).setCell ⟨w0.heap.size, 7, none⟩ (.int .u32 (m24 : Int)) := ⟨_, rfl⟩
    rw [← hv]
    have HPv : Hid (PBox v w0.heap.size ⟨y.toNat, m4, m8, m10, m12, m16, m20, m24, none, 0, [], none, 0, []⟩) := Lib.hid (by rw [hv]; exact (((HBX.out.set4 m12).set5 m16).set6 m20).set7 m24)
    have HBv : Hid (Below w0.heap.size w0 v) := Lib.hid (by rw [hv]; exact (((HB1.out.setCell (p := ⟨w0.heap.size, 4, none⟩) (Nat.le_refl _) _).setCell (p := ⟨w0.heap.size, 5, none⟩) (Nat.le_refl _) _).setCell (p := ⟨w0.heap.size, 6, none⟩) (Nat.le_refl _) _).setCell (p := ⟨w0.heap.size, 7, none⟩) (Nat.le_refl _) _)
    have hsz := HBv.out.size
    have hPlt := HPv.out.lt
    have hltv : g < v.heap.size := Nat.lt_of_lt_of_le HLT.out hsz
    have hcv : v.cell? ⟨g, o + 2, none⟩ = some (.int .u8 (x.toNat : Int)) := (HBv.out.cell (p := ⟨g, o + 2, none⟩) HLT.out).trans HC2.out
    have HBYv := Lib.hid (HBY.out.below HBv.out)
    obtain ⟨Ah, rh, bh⟩ := cut_by (HBYv.out) b.length c 28 (28 + x.toNat) 28 (28 + (x.toNat : Int)) rfl (by omega) (by omega) (by omega) hbc
    rw [Nat.add_sub_cancel_left] at rh bh
    obtain ⟨hw, hhw⟩ : ∃ hw, hw = (b.drop 28).take x.toNat := ⟨_, rfl⟩
    rw [← hhw] at bh
    have hhl : hw.length = x.toNat := by rw [hhw, List.length_take, List.length_drop]; omega
    have rh' : ∀ W, (Instr.slice 24 (.slice (some ⟨g, o, none⟩) b.length c) (some (.int .i64 28)) (some (.int .i64 (28 + (x.toNat : Int)))) none).run Try.prog W = .ok (.slice Ah hw.length (c - 28)) W := fun W => by rw [hhl]; exact rh W
    have hownE := World.ownsRow_made (base := v.heap.size) (e := 5) (size := 1) v #[] 0 (Nat.le_refl _) (Nat.zero_le _) rfl
    have hBE : Below v.heap.size v (v.alloc (.cells #[] 5)) := (Below.refl _ _).alloc (Nat.le_refl _) _
    have hbyE := (bh.more hsz).below hBE
    have hxw : IntKind.i64.wrap (x.toNat : Int) = x.toNat := IntWalk.i64_in _ (by omega)
    have HHW := Lib.hid hhw
    have HHL := Lib.hid hhl
    have hl16 : hw.length ≤ 16 := by omega
    clear hv rh bh hhw hhl d4 d5 d6 d7 f4 f5 f6 f7 u4 u12 u16 u20 u24 r12 r16 r20 r24
    go_upto_region 9 with (at_builtin; refine wpList_appB rfl (.tmp 60) (.tmp 67) rfl v.heap.size (.slice (some ⟨v.heap.size, 0, none⟩) 0 0) _ _ rfl hownE _ _ hw _ rfl hbyE (by omega) hBE.size ?_; intro v1 v2 hown hg1 _; rw [Nat.zero_add, List.nil_append] at hown; obtain ⟨Ax, cx, rfl, hcx⟩ := own_form hown; have hB2 := own_below hBE hBE.size hownE hg1; have d8 := (HPv.out.later hB2).c8; have f8 := frozen_of_row v2 w0.heap.size 8 _ _ (HPv.out.later hB2))
    obtain ⟨q, hq⟩ : ∃ q : PktV, q = ⟨y.toNat, m4, m8, m10, m12, m16, m20, m24, Ax, cx, hw, none, 0, []⟩ := ⟨_, rfl⟩
    obtain ⟨v3, hv3⟩ : ∃ v3, v3 = v2.setCell ⟨w0.heap.size, 8, none⟩ (.slice Ax hw.length cx) := ⟨_, rfl⟩
    rw [← hv3]
    have hP2 := HPv.out.later hB2
    have hbyq := By.of_own hown
    have HP3 : Hid (PBox v3 w0.heap.size q) := Lib.hid (by rw [hv3, hq]; exact hP2.set8 Ax cx hw)
    have g3 : v2.grownBy v3 (some w0.heap.size) := by rw [hv3]; exact grown_one v2 w0.heap.size 8 _
    have HK3 : Hid (Pk v3 v3.heap.size q) := Lib.hid (by
      have h1 : Pk v2 v2.heap.size q := by rw [hq]; exact ⟨hbyq, Op.nil⟩
      exact h1.offP hP2 g3)
    have HB3 : Hid (Below w0.heap.size w0 v3) := Lib.hid ((HBv.out.trans (hB2.mono hsz)).trans (below_of_grown g3 (by have := hB2.size; omega) (fun g e => by injection e with e; omega)))
    have hab : q.abs = hdrA b [] := by
      have e28 : ((b.drop 28).take 16).take x.toNat = (b.drop 28).take x.toNat := by rw [List.take_take, Nat.min_eq_left hx16]
      rw [hq]
      unfold hdrA PktV.abs
      simp only [HY.out, HX.out, E4.out, E8.out, E10.out, E12.out, E16.out, E20.out, E24.out, HHW.out, e28]
      rfl
    have HAB := Lib.hid hab
    have HQR := Lib.hid (PkR.of_hdr hab)
    have HE := Lib.hid (rpencode_any q v3 HK3.out HQR.out (by rw [hq]; exact Nat.zero_le _) (by rw [hq]; intro x hx; cases hx))
    rw [hab] at HE
    have hBf := HB0.out.trans (HB3.out.mono HB0.out.size)
    have HBf := Lib.hid hBf
    obtain ⟨c0, c1, c2, c3, c4, c5, c6, c7, c8, c9⟩ := HP3.out.all
    have hbyb := HBY.out.below HB3.out
    have HBYb := Lib.hid hbyb
    have hH : refH b ↔ rightA (hdrA b []) = true ∧ headL (hdrA b []) = b.take 240 := by
      unfold refH
      rw [HX.out]
      exact ⟨fun h => h.2.2.2, fun h => ⟨hlen, hx1, hx16, h⟩⟩
    have HH := Lib.hid hH
    have HQ := Lib.hid hq
    clear hH hBf hab hv3 hP2 hbyq g3 hown hg1 hB2 hownE hBE hbyE d8 f8 hcv rh' hq hbyb
    cases hr : rightA (hdrA b [])
    · rw [encP_bad hr] at HE
      have HN := Lib.hid (decP_refbad (b := b) (fun h => by rw [HH.out, hr] at h; cases h.1))
      rw [HQ.out] at c0 c1 c2 c3 c4 c5 c6 c7 c8 c9 HE
      clear hr
      go_wp2_with fail
      refine HE.out.mono ?_
      rintro e v4 ⟨A4, k4, rfl, _, _, hB4⟩
      have HB4 := Lib.hid (HBf.out.trans (hB4.mono (Nat.le_trans HB0.out.size HB3.out.size)))
      have HPR4 := Lib.hid ((HP0.out.below HB3.out (HP0.out.lt)).later hB4)
      clear c0 c1 c2 c3 c4 c5 c6 c7 c8 c9
      go_wp2_with fail
      refine wp_region_quiet_below (by kernel_rfl) (by kernel_rfl) ?_
      repeat (quiet_step (fail))
      refine wpQuiet_nil ?_
      intro _ hw'
      obtain ⟨⟨dq, osq⟩, hw''⟩ := hw'
      subst hw''
      have hB5' := below_regrown v4 dq osq
      obtain ⟨v5, hv5⟩ : ∃ v5, v5 = grow (redrawn v4 dq) osq := ⟨_, rfl⟩
      rw [← hv5] at hB5' ⊢
      have HB5 := Lib.hid (HB4.out.trans (hB5'.mono HB4.out.size))
      have HPR := Lib.hid (HPR4.out.later hB5')
      clear hv5 hB5'
      obtain ⟨r0, r1, r2, r3, r4, r5, r6, r7, r8, r9⟩ := HPR.out.all
      have f0 := frozen_of_row v5 w.heap.size 0 _ _ HPR.out
      have f1 := frozen_of_row v5 w.heap.size 1 _ _ HPR.out
      have f2 := frozen_of_row v5 w.heap.size 2 _ _ HPR.out
      have f3 := frozen_of_row v5 w.heap.size 3 _ _ HPR.out
      have f4 := frozen_of_row v5 w.heap.size 4 _ _ HPR.out
      have f5 := frozen_of_row v5 w.heap.size 5 _ _ HPR.out
      have f6 := frozen_of_row v5 w.heap.size 6 _ _ HPR.out
      have f7 := frozen_of_row v5 w.heap.size 7 _ _ HPR.out
      have f8 := frozen_of_row v5 w.heap.size 8 _ _ HPR.out
      have f9 := frozen_of_row v5 w.heap.size 9 _ _ HPR.out
      go_wp2
      rw [← storeP_zero, HN.out]
      exact rpd_bad HPR.out HB5.out (Nat.le_refl _) rfl rfl
    · rw [encP_ok hr] at HE
      have hhdl := headL_length (hdrA b []) (by show (List.take _ (List.take 16 (List.drop 28 b))).length ≤ 16; rw [List.length_take, List.length_take]; omega)
      obtain ⟨hd, hhd⟩ : ∃ hd, hd = headL (hdrA b []) := ⟨_, rfl⟩
      obtain ⟨ol, hol⟩ : ∃ ol, ol = (encL (hdrA b []).opts).1 := ⟨_, rfl⟩
      rw [← hhd, ← hol] at HE
      rw [← hhd] at hhdl
      obtain ⟨bl, hbl⟩ : ∃ bl, bl = hd ++ ol := ⟨_, rfl⟩
      rw [← hbl] at HE
      have e1 : bl.take 240 = hd := by rw [hbl, ← hhdl]; exact List.take_left
      have hbll : 240 ≤ bl.length := by rw [hbl, List.length_append]; omega
      have hH2 : refH b ↔ hd = b.take 240 := by rw [HH.out, hr, hhd]; simp
      have HH2 := Lib.hid hH2
      have E1 := Lib.hid e1
      have h240l : (b.take 240).length = 240 := by rw [List.length_take]; omega
      have H240 := Lib.hid h240l
      have HHDL := Lib.hid hhdl
      rw [HQ.out] at c0 c1 c2 c3 c4 c5 c6 c7 c8 c9 HE
      clear hr hhd hol hbl e1 hH2 h240l hhdl
      go_wp2_with fail
      refine HE.out.mono ?_
      rintro e v4 ⟨A4, k4, rfl, hby4, hc4, hB4⟩
      have HB4 := Lib.hid (HBf.out.trans (hB4.mono (Nat.le_trans HB0.out.size HB3.out.size)))
      have HPR4 := Lib.hid ((HP0.out.below HB3.out (HP0.out.lt)).later hB4)
      have HP4 := Lib.hid (HP3.out.later hB4)
      have HK4 := Lib.hid (HK3.out.later hB4)
      have hbb4 := (HBYb.out.more HB3.out.size).later hB4
      have HBB4 := Lib.hid hbb4
      have hs1 := run_headB A4 bl.length k4 240 (by omega) (by omega)
      have hs2 := run_headB (some ⟨g, o, none⟩) b.length c 240 (by omega) (by omega)
      rw [show (240 : Int).toNat = 240 from rfl] at hs1 hs2
      have t1 := str_regrown k4 (hby4.take 240)
      have t2 := str_regrown c (hbb4.take 240)
      rw [E1.out, HHDL.out] at t1
      rw [H240.out] at t2
      clear c0 c1 c2 c3 c4 c5 c6 c7 c8 c9 hby4 hB4 hbb4
      cases hqq : (hd == b.take 240)
      · have hqn : (hd != b.take 240) = true := by simp [bne, hqq]
        have HN := Lib.hid (decP_refbad (b := b) (fun h => by rw [HH2.out] at h; simp [h] at hqq))
        go_wp2_with fail
        refine wp_region_quiet_below (by kernel_rfl) (by kernel_rfl) ?_
        repeat (quiet_step (fail))
        refine wpQuiet_nil ?_
        intro _ hw'
        obtain ⟨⟨dq, osq⟩, hw''⟩ := hw'
        subst hw''
        have hB5' := below_regrown v4 dq osq
        obtain ⟨v5, hv5⟩ : ∃ v5, v5 = grow (redrawn v4 dq) osq := ⟨_, rfl⟩
        rw [← hv5] at hB5' ⊢
        have HB5 := Lib.hid (HB4.out.trans (hB5'.mono HB4.out.size))
        have HPR := Lib.hid (HPR4.out.later hB5')
        clear hv5 hB5' t1 t2 hs1 hs2
        obtain ⟨r0, r1, r2, r3, r4, r5, r6, r7, r8, r9⟩ := HPR.out.all
        have f0 := frozen_of_row v5 w.heap.size 0 _ _ HPR.out
        have f1 := frozen_of_row v5 w.heap.size 1 _ _ HPR.out
        have f2 := frozen_of_row v5 w.heap.size 2 _ _ HPR.out
        have f3 := frozen_of_row v5 w.heap.size 3 _ _ HPR.out
        have f4 := frozen_of_row v5 w.heap.size 4 _ _ HPR.out
        have f5 := frozen_of_row v5 w.heap.size 5 _ _ HPR.out
        have f6 := frozen_of_row v5 w.heap.size 6 _ _ HPR.out
        have f7 := frozen_of_row v5 w.heap.size 7 _ _ HPR.out
        have f8 := frozen_of_row v5 w.heap.size 8 _ _ HPR.out
        have f9 := frozen_of_row v5 w.heap.size 9 _ _ HPR.out
        go_wp2
        rw [← storeP_zero, HN.out]
        exact rpd_bad HPR.out HB5.out (Nat.le_refl _) rfl rfl
      · have hqn : (hd != b.take 240) = false := by simp [bne, hqq]
        have HR := Lib.hid (HH2.out.2 (by simpa using hqq))
        go_wp2_with fail
        refine wp_region_quiet_below (by kernel_rfl) (by kernel_rfl) ?_
        repeat (quiet_step (fail))
        refine wpQuiet_nil ?_
        intro _ hw'
        obtain ⟨⟨dq, osq⟩, hw''⟩ := hw'
        subst hw''
        have hB5' := below_regrown v4 dq osq
        obtain ⟨v5, hv5⟩ : ∃ v5, v5 = grow (redrawn v4 dq) osq := ⟨_, rfl⟩
        rw [← hv5] at hB5' ⊢
        have HB5 := Lib.hid (HB4.out.trans (hB5'.mono HB4.out.size))
        have HPR5 := Lib.hid (HPR4.out.later hB5')
        have HP5 := Lib.hid (HP4.out.later hB5')
        have HK5 := Lib.hid (HK4.out.later hB5')
        have hbb5 := HBB4.out.later hB5'
        obtain ⟨Ar, hAr⟩ : ∃ Ar, Ar = if c = 240 then some ⟨g, o, none⟩ else (some ⟨g, o, none⟩ : Option Addr).map (·.add 240) := ⟨_, rfl⟩
        have hcutb : By v5 v5.heap.size Ar (b.drop 240) := by rw [hAr]; exact hbb5.cut hlen hbc
        have hst := run_tailB (some ⟨g, o, none⟩) b.length c 240 (by omega) (by omega)
        rw [show (240 : Int).toNat = 240 from rfl, ← hAr] at hst
        have hdl : (b.drop 240).length = b.length - 240 := List.length_drop
        have HD := Lib.hid (rdecode_any Ar (c - 240) (b.drop 240) v5 hcutb (by omega) (by omega))
        rw [hdl] at HD
        clear hv5 hB5' t1 t2 hs1 hs2 hbb5 hAr hcutb hdl
        go_wp2_with fail
        refine HD.out.mono ?_
        rintro e v6 ⟨A6, c6, L6, rfl, hab6, hop6, hB6⟩
        have HB6 := Lib.hid (HB5.out.trans (hB6.mono HB5.out.size))
        have HPR := Lib.hid (HPR5.out.later hB6)
        have HP6 := Lib.hid (HP5.out.later hB6)
        have HK6 := Lib.hid (HK5.out.later hB6)
        have HAB6 := Lib.hid hab6
        have HOP6 := Lib.hid hop6
        have hL6 : L6.length ≤ 1024 := by rw [← absL_length, hab6]; exact decR_len _
        obtain ⟨k, hk⟩ : ∃ k, k = (decR (b.drop 240)).2 := ⟨_, rfl⟩
        rw [← hk]
        have HKE := Lib.hid hk
        clear hk hab6 hop6 hst hB6
        cases hkz : (k != 0)
        rotate_left
        · have HN := Lib.hid (decP_refopt (b := b) (fun h => by rw [← HKE.out] at h; simp [h] at hkz))
          obtain ⟨r0, r1, r2, r3, r4, r5, r6, r7, r8, r9⟩ := HPR.out.all
          have f0 := frozen_of_row v6 w.heap.size 0 _ _ HPR.out
          have f1 := frozen_of_row v6 w.heap.size 1 _ _ HPR.out
          have f2 := frozen_of_row v6 w.heap.size 2 _ _ HPR.out
          have f3 := frozen_of_row v6 w.heap.size 3 _ _ HPR.out
          have f4 := frozen_of_row v6 w.heap.size 4 _ _ HPR.out
          have f5 := frozen_of_row v6 w.heap.size 5 _ _ HPR.out
          have f6 := frozen_of_row v6 w.heap.size 6 _ _ HPR.out
          have f7 := frozen_of_row v6 w.heap.size 7 _ _ HPR.out
          have f8 := frozen_of_row v6 w.heap.size 8 _ _ HPR.out
          have f9 := frozen_of_row v6 w.heap.size 9 _ _ HPR.out
          go_wp2
          rw [← storeP_zero, HN.out]
          exact rpd_bad HPR.out HB6.out (Nat.le_refl _) rfl rfl
        · obtain rfl : k = 0 := by simpa using hkz
          have d9 := HP6.out.c9
          have x9 := frozen_of_row v6 w0.heap.size 9 _ _ HP6.out
          go_upto_region 16 with fail
          obtain ⟨v7, hv7⟩ : ∃ v7, v7 = v6.setCell ⟨w0.heap.size, 9, none⟩ (.slice A6 L6.length c6) := ⟨_, rfl⟩
          rw [← hv7]
          obtain ⟨q1, hq1⟩ : ∃ q1 : PktV, q1 = { q with opA := A6, opC := c6, L := L6 } := ⟨_, rfl⟩
          have hne := HP0.out.lt
          have g7 : v6.grownBy v7 (some w0.heap.size) := by rw [hv7]; exact grown_one v6 w0.heap.size 9 _
          have HP7 : Hid (PBox v7 w0.heap.size q1) := Lib.hid (by rw [hv7, hq1]; exact HP6.out.set9 A6 c6 L6)
          have HK7 : Hid (Pk v7 v7.heap.size q1) := Lib.hid (by
            have h1 : Pk v6 v6.heap.size q1 := by rw [hq1]; exact ⟨HK6.out.hw, HOP6.out⟩
            exact h1.offP HP6.out g7)
          have HPR7 : Hid (PBox v7 w.heap.size zeroP) := Lib.hid (HPR.out.other g7 (fun e => by injection e with e; omega))
          have HB7 : Hid (Below w.heap.size w v7) := Lib.hid (HB6.out.trans (below_of_grown g7 HB6.out.size (fun g e => by injection e with e; omega)))
          have HAB7 : Hid (q1.abs = hdrA b (decR (b.drop 240)).1) := Lib.hid (by
            have h := HAB.out
            rw [hq1, ← HAB6.out]
            unfold PktV.abs hdrA at h ⊢
            simp only [PktA.mk.injEq] at h ⊢
            simp [h])
          have HL1 : Hid (q1.L.length ≤ 2000) := Lib.hid (by rw [hq1]; show L6.length ≤ 2000; omega)
          have HDP := Lib.hid (decP_ref HR.out HKE.out.symm)
          clear hv7 g7 hq1 d9 x9
          obtain ⟨c0, c1, c2, c3, c4, c5, c6', c7, c8, c9⟩ := HP7.out.all
          obtain ⟨r0, r1, r2, r3, r4, r5, r6, r7, r8, r9⟩ := HPR7.out.all
          have f0 := frozen_of_row v7 w.heap.size 0 _ _ HPR7.out
          have f1 := frozen_of_row v7 w.heap.size 1 _ _ HPR7.out
          have f2 := frozen_of_row v7 w.heap.size 2 _ _ HPR7.out
          have f3 := frozen_of_row v7 w.heap.size 3 _ _ HPR7.out
          have f4 := frozen_of_row v7 w.heap.size 4 _ _ HPR7.out
          have f5 := frozen_of_row v7 w.heap.size 5 _ _ HPR7.out
          have f6 := frozen_of_row v7 w.heap.size 6 _ _ HPR7.out
          have f7 := frozen_of_row v7 w.heap.size 7 _ _ HPR7.out
          have f8 := frozen_of_row v7 w.heap.size 8 _ _ HPR7.out
          have f9 := frozen_of_row v7 w.heap.size 9 _ _ HPR7.out
          go_wp2
          obtain ⟨v8, hv8⟩ : ∃ v8, v8 = storeP v7 w.heap.size q1 := ⟨_, rfl⟩
          have hgs := storeP_grown v7 w.heap.size q1
          have hPs := storeP_box HPR7.out q1
          have hfin : storeP v7 w.heap.size q1 = v8 := hv8.symm
          unfold storeP at hfin
          rw [hfin, HDP.out]
          rw [← hv8] at hgs hPs
          refine bodyPost_ret (v := .tuple #[q1.v, .int .i64 0]) ?_ ?_ ?_
          · exact rdec_results hPs _ rfl rfl
          · rfl
          · exact ⟨q1, rfl, HAB7.out, HK7.out.offP HPR7.out hgs, PkR.of_hdr HAB7.out, HL1.out, hw_of_hdr HAB7.out, HB7.out.trans (below_of_grown hgs HB7.out.size (fun g e => by injection e with e; omega))⟩

theorem rpdecode_any (A : Option Addr) (c : Nat) (b : List UInt8) (w : World) (hb : By w w.heap.size A b) (hbc : b.length ≤ c) (hbl : b.length ≤ 3000) :
    Calls Try.prog 15 #[.slice A b.length c] w (GivesK w (decP b)) := by
  by_cases hlen : b.length < 240
  · rw [decP_short hlen]
    exact rpd_early A c b w hb (.inl (by simp; omega))
  · obtain ⟨x, hx⟩ : ∃ x, b[2]? = some x := ⟨_, List.getElem?_eq_getElem (by omega)⟩
    have hd : decide ((b.length : Int) < 240) = false := by simp; omega
    by_cases h1 : x.toNat < 1
    · rw [decP_refbad (fun h => by have := h.2.1; rw [num_at hx] at this; omega)]
      exact rpd_early A c b w hb (.inr ⟨hd, x, hx, .inl (by simp; omega)⟩)
    · by_cases h2 : 16 < x.toNat
      · rw [decP_refbad (fun h => by have := h.2.2.1; rw [num_at hx] at this; omega)]
        exact rpd_early A c b w hb (.inr ⟨hd, x, hx, .inr ⟨by simp; omega, by simp; omega⟩⟩)
      · exact rpd_late A c b w hb hbc hbl (by omega) x hx (by omega) (by omega)
-- M0
end Go.Proofs.Ytmlckjccgdmknaa
