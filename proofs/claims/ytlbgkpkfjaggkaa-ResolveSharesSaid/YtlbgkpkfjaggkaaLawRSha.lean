/- The law ResolveShares, walked. -/
import Derived.Test.YtlbgkpkfjaggkaaResV
namespace Go.Proofs.Ytlbgkpkfjaggkaa
open Go.RowKit Go.Sort
attribute [local go_sem ↓] run_eqlL run_neqL run_guardL

theorem i64_and1 (n : Int) : bits .and .i64 n 1 = n % 2 := by
  have h1 : (BitVec.ofInt 64 1).toNat = 2 ^ 1 - 1 := by decide
  have key : (BitVec.ofInt 64 n &&& BitVec.ofInt 64 1).toNat = (n % ((2 ^ 64 : Nat) : Int)).toNat % 2 ^ 1 := by
    rw [BitVec.toNat_and, BitVec.toNat_ofInt, h1, Nat.and_two_pow_sub_one_eq_mod]
  show IntKind.i64.wrap ((BitVec.ofInt 64 n &&& BitVec.ofInt 64 1).toNat : Nat) = n % 2
  rw [key, IntKind.wrap_i64]
  omega
/-- Of two sharings that one is told, and that one knows, the later one stands. -/
theorem take_share (a : Nat) (p q u v : Int) (hp : p = 0 ∨ p = 1) (hq : q = 0 ∨ q = 1) (hu : 0 ≤ u ∧ u ≤ 1073741824) (hv : 0 ≤ v ∧ v ≤ 1073741824) (s now g : Int) :
    takeV ⟨a, q, [], 0, 0, 0, 0, v⟩ ⟨2, 0, 0, 0, 0, a, p, ⟨#[]⟩, 0, u, false⟩ s now g = (if v < u then ⟨a, p, [], 0, 0, 0, 0, u⟩ else ⟨a, q, [], 0, 0, 0, 0, v⟩, true) := by
  have hr : RightL ⟨a, q, [], 0, 0, 0, 0, v⟩ := (bare_right a q v).2 ⟨by omega, by unfold TimeL; omega⟩
  have hf : Fits ⟨a, q, [], 0, 0, 0, 0, v⟩ ⟨2, 0, 0, 0, 0, a, p, ⟨#[]⟩, 0, u, false⟩ := ⟨rfl, rfl, hr, by show 0 ≤ p; omega, by show p ≤ 5; omega, fun h => by have h : HeldL p := h; unfold HeldL at h; omega⟩
  unfold takeV tkV
  rw [if_pos hf, if_neg (by show ¬ p = 2; omega), if_neg (by show ¬ p = 3; omega), if_neg (by show ¬ p = 4; omega), if_neg (by show ¬ p = 5; omega)]
  unfold shaV stayB
  rw [decide_eq_false (by show ¬ (q = 5 ∨ (q = 2 ∧ _)); omega), if_neg (by simp)]
  by_cases h : v < u
  · rw [if_pos ⟨h, by show u ≤ 1099511627776; omega⟩, if_pos h]
    rfl
  · rw [if_neg (fun x => h x.1), if_neg h]
    show (_, decide (q ≠ 2)) = _
    rw [show decide (q ≠ 2) = true from decide_eq_true (by omega)]

set_option maxRecDepth 100000 in
set_option maxHeartbeats 4000000 in
theorem law_rshares (a : Nat) (x0 x1 y0 y1 : Int) (w : World) : Calls Try.prog 7 #[.int .u32 (a : Int), r2v x0 x1, r2v y0 y1] w fun e w' => e = .returned (.bool true) ∧ Below w.heap.size w w' := by
  have HA := Lib.hid (fun V => reawake_any V)
  obtain ⟨w0, hw0⟩ : ∃ w0, w0 = (w.alloc (r2box 37 x0 x1)).alloc (r2box 37 y0 y1) := ⟨_, rfl⟩
  have HX : Hid (R2 37 w0 w.heap.size x0 x1) := Lib.hid (by rw [hw0]; exact (R2.new w _ x0 x1).alloc _)
  have HY : Hid (R2 37 w0 (w.heap.size + 1) y0 y1) := Lib.hid (by rw [hw0]; have h := R2.new (w.alloc (r2box 37 x0 x1)) 37 y0 y1; rw [show (w.alloc (r2box 37 x0 x1)).heap.size = w.heap.size + 1 by simp] at h; exact h)
  have HB : Hid (Below w.heap.size w w0) := Lib.hid (by rw [hw0]; exact ((Below.refl _ _).alloc (Nat.le_refl _) _).alloc (by simp) _)
  have HW0 := Lib.hid hw0
  clear hw0
  go_enter Try.func7, Try.ntmps7
  go_upto_region 1 with fail
  rw [← HW0.out]
  go_wp2_with fail
  refine (HA.out _).mono ?_
  rintro e w1 ⟨rfl, hb1⟩
  have HX1 := Lib.hid (HX.out.later hb1)
  have HY1 := Lib.hid (HY.out.later hb1)
  have HB1 := Lib.hid (HB.out.trans (hb1.mono HB.out.size))
  clear hb1 HX HY HB
  have cx0 := HX1.out.c0
  have cx1 := HX1.out.c1
  have cy0 := HY1.out.c0
  have cy1 := HY1.out.c1
  cases tx1 : decide (x1 < 0)
  rotate_left
  · go_wp2
    go_ret
    exact ⟨rfl, HB1.out⟩
  cases tx2 : decide (1073741824 < x1)
  rotate_left
  · go_wp2
    go_ret
    exact ⟨rfl, HB1.out⟩
  cases ty1 : decide (y1 < 0)
  rotate_left
  · go_wp2
    go_ret
    exact ⟨rfl, HB1.out⟩
  cases ty2 : decide (1073741824 < y1)
  rotate_left
  · go_wp2
    go_ret
    exact ⟨rfl, HB1.out⟩
  cases te : (x1 == y1)
  rotate_left
  · go_wp2
    go_ret
    exact ⟨rfl, HB1.out⟩
  have hp : bits .and .i64 x0 1 = 0 ∨ bits .and .i64 x0 1 = 1 := by rw [i64_and1]; omega
  have hq : bits .and .i64 y0 1 = 0 ∨ bits .and .i64 y0 1 = 1 := by rw [i64_and1]; omega
  have hu : 0 ≤ x1 ∧ x1 ≤ 1073741824 := by
    have h1 : ¬ x1 < 0 := by simpa using tx1
    have h2 : ¬ 1073741824 < x1 := by simpa using tx2
    omega
  have hv : 0 ≤ y1 ∧ y1 ≤ 1073741824 := by
    have h1 : ¬ y1 < 0 := by simpa using ty1
    have h2 : ¬ 1073741824 < y1 := by simpa using ty2
    omega
  have hne : ¬ x1 = y1 := by simpa using te
  obtain ⟨l, hl⟩ : ∃ l : LV, l = ⟨a, bits .and .i64 x0 1, [], 0, 0, 0, 0, x1⟩ := ⟨_, rfl⟩
  obtain ⟨o, ho⟩ : ∃ o : LV, o = ⟨a, bits .and .i64 y0 1, [], 0, 0, 0, 0, y1⟩ := ⟨_, rfl⟩
  by_cases hlt : x1 < y1
  · have td : decide (x1 < y1) = true := by exact decide_eq_true hlt
    have H1 : Hid (∀ V, Calls Try.prog 9 #[o.v, MsgV.v ⟨2, 0, 0, 0, 0, a, l.bind, ⟨#[]⟩, 0, l.ver, false⟩, .int .i64 1, .int .i64 5, .int .i64 2] V (GivesLB V (o, true))) := Lib.hid (fun V => by
      have h := take_any o ⟨2, 0, 0, 0, 0, a, l.bind, ⟨#[]⟩, 0, l.ver, false⟩ 1 5 2 V
      have h2 := take_share a (bits .and .i64 x0 1) (bits .and .i64 y0 1) x1 y1 hp hq hu hv 1 5 2
      rw [if_neg (by omega)] at h2
      rw [hl, ho] at h ⊢
      rw [h2] at h
      exact h)
    have H2 : Hid (∀ V, Calls Try.prog 9 #[l.v, MsgV.v ⟨2, 0, 0, 0, 0, a, o.bind, ⟨#[]⟩, 0, o.ver, false⟩, .int .i64 1, .int .i64 5, .int .i64 2] V (GivesLB V (o, true))) := Lib.hid (fun V => by
      have h := take_any l ⟨2, 0, 0, 0, 0, a, o.bind, ⟨#[]⟩, 0, o.ver, false⟩ 1 5 2 V
      have h2 := take_share a (bits .and .i64 y0 1) (bits .and .i64 x0 1) y1 x1 hq hp hv hu 1 5 2
      rw [if_pos (by omega)] at h2
      rw [hl, ho] at h ⊢
      rw [h2] at h
      exact h)
    have hvl : l.ver = x1 := by rw [hl]
    have hvo : o.ver = y1 := by rw [ho]
    rw [← hvl, ← hvo] at td
    have HLE := Lib.hid hl
    have HOE := Lib.hid ho
    clear hl ho hvl hvo hp hq hu hv hlt hne
    obtain ⟨w2, hw⟩ : ∃ w2, w2 = w1.alloc (lbox l) := ⟨_, rfl⟩
    have HX2 := Lib.hid (HX1.out.alloc (lbox l))
    rw [← hw] at HX2
    have HY2 := Lib.hid (HY1.out.alloc (lbox l))
    rw [← hw] at HY2
    have HL2 := Lib.hid (LBox.new w1 l)
    rw [← hw] at HL2
    have HB2 := Lib.hid (HB1.out.alloc HB1.out.size (lbox l))
    rw [← hw] at HB2
    have HWA : Hid (w2 = w1.alloc (.cells #[.int .u32 (a : Int), .int .i64 (bits .and .i64 x0 1), .string ⟨#[]⟩, .int .i64 0, .int .i64 0, .int .i64 0, .int .i64 0, .int .i64 x1] 25)) := Lib.hid (by rw [hw, HLE.out]; rfl)
    clear hw HX1 HY1 HB1
    go_upto_region 5 with fail
    rw [← HWA.out]
    generalize w1.heap.size = gl at *
    clear HWA
    clear cx0 cx1 cy0 cy1
    have cx0 := HX2.out.c0
    have cx1 := HX2.out.c1
    have cy0 := HY2.out.c0
    have cy1 := HY2.out.c1
    obtain ⟨w3, hw⟩ : ∃ w3, w3 = w2.alloc (lbox o) := ⟨_, rfl⟩
    have HX3 := Lib.hid (HX2.out.alloc (lbox o))
    rw [← hw] at HX3
    have HY3 := Lib.hid (HY2.out.alloc (lbox o))
    rw [← hw] at HY3
    have HL3 := Lib.hid (HL2.out.alloc (lbox o))
    rw [← hw] at HL3
    have HO3 := Lib.hid (LBox.new w2 o)
    rw [← hw] at HO3
    have HB3 := Lib.hid (HB2.out.alloc HB2.out.size (lbox o))
    rw [← hw] at HB3
    have HWA : Hid (w3 = w2.alloc (.cells #[.int .u32 (a : Int), .int .i64 (bits .and .i64 y0 1), .string ⟨#[]⟩, .int .i64 0, .int .i64 0, .int .i64 0, .int .i64 0, .int .i64 y1] 25)) := Lib.hid (by rw [hw, HOE.out]; rfl)
    clear hw HX2 HY2 HL2 HB2
    go_upto_region 6 with fail
    rw [← HWA.out]
    generalize w2.heap.size = go at *
    clear HWA
    clear cx0 cx1 cy0 cy1
    obtain ⟨l0, l1, l2, l3, l4, l5, l6, l7⟩ := HL3.out.all
    obtain ⟨o0, o1, o2, o3, o4, o5, o6, o7⟩ := HO3.out.all
    go_wp2_with fail
    refine (H1.out _).mono ?_
    rintro e w4 ⟨rfl, hb1⟩
    have HL4 := Lib.hid (HL3.out.later hb1)
    have HO4 := Lib.hid (HO3.out.later hb1)
    have HB4 := Lib.hid (HB3.out.trans (hb1.mono HB3.out.size))
    clear hb1 HL3 HO3 HB3
    clear l0 l1 l2 l3 l4 l5 l6 l7
    clear o0 o1 o2 o3 o4 o5 o6 o7
    obtain ⟨w5, hw⟩ : ∃ w5, w5 = w4.alloc (lbox o) := ⟨_, rfl⟩
    have HL5 := Lib.hid (HL4.out.alloc (lbox o))
    rw [← hw] at HL5
    have HO5 := Lib.hid (HO4.out.alloc (lbox o))
    rw [← hw] at HO5
    have HP5 := Lib.hid (LBox.new w4 o)
    rw [← hw] at HP5
    have HB5 := Lib.hid (HB4.out.alloc HB4.out.size (lbox o))
    rw [← hw] at HB5
    have HWA := Lib.hid hw
    clear hw HL4 HO4 HB4
    go_upto_region 7 with fail
    rw [← HWA.out]
    generalize w4.heap.size = gp at *
    clear HWA
    obtain ⟨l0, l1, l2, l3, l4, l5, l6, l7⟩ := HL5.out.all
    obtain ⟨o0, o1, o2, o3, o4, o5, o6, o7⟩ := HO5.out.all
    go_wp2_with fail
    refine (H2.out _).mono ?_
    rintro e w6 ⟨rfl, hb1⟩
    have HL6 := Lib.hid (HL5.out.later hb1)
    have HO6 := Lib.hid (HO5.out.later hb1)
    have HP6 := Lib.hid (HP5.out.later hb1)
    have HB6 := Lib.hid (HB5.out.trans (hb1.mono HB5.out.size))
    clear hb1 HL5 HO5 HP5 HB5
    clear l0 l1 l2 l3 l4 l5 l6 l7
    clear o0 o1 o2 o3 o4 o5 o6 o7
    obtain ⟨w7, hw⟩ : ∃ w7, w7 = w6.alloc (lbox o) := ⟨_, rfl⟩
    have HL7 := Lib.hid (HL6.out.alloc (lbox o))
    rw [← hw] at HL7
    have HO7 := Lib.hid (HO6.out.alloc (lbox o))
    rw [← hw] at HO7
    have HP7 := Lib.hid (HP6.out.alloc (lbox o))
    rw [← hw] at HP7
    have HQ7 := Lib.hid (LBox.new w6 o)
    rw [← hw] at HQ7
    have HB7 := Lib.hid (HB6.out.alloc HB6.out.size (lbox o))
    rw [← hw] at HB7
    have HWA := Lib.hid hw
    clear hw HL6 HO6 HP6 HB6
    go_upto_region 8 with fail
    rw [← HWA.out]
    generalize w6.heap.size = gq at *
    clear HWA
    obtain ⟨l0, l1, l2, l3, l4, l5, l6, l7⟩ := HL7.out.all
    obtain ⟨o0, o1, o2, o3, o4, o5, o6, o7⟩ := HO7.out.all
    have HNE1 : Hid (gp ≠ w7.heap.size) := Lib.hid (Nat.ne_of_lt HP7.out.lt)
    have HNE2 : Hid (gq ≠ w7.heap.size) := Lib.hid (Nat.ne_of_lt HQ7.out.lt)
    have HNB : Hid (w.heap.size ≤ w7.heap.size) := Lib.hid HB7.out.size
    obtain ⟨w8, hw⟩ : ∃ w8, w8 = w7.alloc (lbox l) := ⟨_, rfl⟩
    have HL8 := Lib.hid (HL7.out.alloc (lbox l))
    rw [← hw] at HL8
    have HO8 := Lib.hid (HO7.out.alloc (lbox l))
    rw [← hw] at HO8
    have HP8 := Lib.hid (HP7.out.alloc (lbox l))
    rw [← hw] at HP8
    have HQ8 := Lib.hid (HQ7.out.alloc (lbox l))
    rw [← hw] at HQ8
    have HW8 := Lib.hid (LBox.new w7 l)
    rw [← hw] at HW8
    have HB8 := Lib.hid (HB7.out.alloc HB7.out.size (lbox l))
    rw [← hw] at HB8
    have HWA := Lib.hid hw
    clear hw HL7 HO7 HP7 HQ7 HB7
    go_upto_region 9 with fail
    rw [← HWA.out]
    generalize w7.heap.size = gw at *
    clear HWA
    clear l0 l1 l2 l3 l4 l5 l6 l7
    clear o0 o1 o2 o3 o4 o5 o6 o7
    obtain ⟨l0, l1, l2, l3, l4, l5, l6, l7⟩ := HL8.out.all
    obtain ⟨o0, o1, o2, o3, o4, o5, o6, o7⟩ := HO8.out.all
    obtain ⟨v0, v1, v2, v3, v4, v5, v6, v7⟩ := HW8.out.all
    obtain ⟨f0, f1, f2, f3, f4, f5, f6, f7⟩ := HW8.out.allF
    obtain ⟨w9, hw⟩ : ∃ w9, w9 = storeL w8 gw o := ⟨_, rfl⟩
    have HWS : Hid (w9 = ((((((((w8.setCell ⟨gw, 0, none⟩ (.int .u32 (o.addr : Int))).setCell ⟨gw, 1, none⟩ (.int .i64 o.bind)).setCell ⟨gw, 2, none⟩ (.string o.cb)).setCell ⟨gw, 3, none⟩ (.int .i64 o.unt)).setCell ⟨gw, 4, none⟩ (.int .i64 o.acked)).setCell ⟨gw, 5, none⟩ (.int .i64 o.told)).setCell ⟨gw, 6, none⟩ (.int .i64 o.at_)).setCell ⟨gw, 7, none⟩ (.int .i64 o.ver))) := Lib.hid (by rw [hw]; rfl)
    have HP9 : Hid (LBox w9 gp o) := Lib.hid (by rw [hw]; exact HP8.out.storeF HNE1.out _)
    have HQ9 : Hid (LBox w9 gq o) := Lib.hid (by rw [hw]; exact HQ8.out.storeF HNE2.out _)
    have HW9 : Hid (LBox w9 gw o) := Lib.hid (by rw [hw]; exact storeL_box HW8.out o)
    have HB9 : Hid (Below w.heap.size w w9) := Lib.hid (by rw [hw]; exact HB8.out.trans (storeL_low w8 _ _ HNB.out o))
    clear hw
    go_upto_region 11 with fail
    rw [← HWS.out]
    clear HWS
    clear l0 l1 l2 l3 l4 l5 l6 l7
    clear o0 o1 o2 o3 o4 o5 o6 o7
    clear v0 v1 v2 v3 v4 v5 v6 v7
    clear f0 f1 f2 f3 f4 f5 f6 f7
    obtain ⟨p0, p1, p2, p3, p4, p5, p6, p7⟩ := HP9.out.all
    obtain ⟨q0, q1, q2, q3, q4, q5, q6, q7⟩ := HQ9.out.all
    obtain ⟨v0, v1, v2, v3, v4, v5, v6, v7⟩ := HW9.out.all
    have hself : eqL (o.addr : Int) o.bind o.cb o.unt o.acked o.told o.at_ o.ver (o.addr : Int) o.bind o.cb o.unt o.acked o.told o.at_ o.ver = true := by rw [eqL_of]; simp
    go_wp2
    go_ret
    exact ⟨rfl, HB9.out⟩
  · have td : decide (x1 < y1) = false := by exact decide_eq_false hlt
    have H1 : Hid (∀ V, Calls Try.prog 9 #[o.v, MsgV.v ⟨2, 0, 0, 0, 0, a, l.bind, ⟨#[]⟩, 0, l.ver, false⟩, .int .i64 1, .int .i64 5, .int .i64 2] V (GivesLB V (l, true))) := Lib.hid (fun V => by
      have h := take_any o ⟨2, 0, 0, 0, 0, a, l.bind, ⟨#[]⟩, 0, l.ver, false⟩ 1 5 2 V
      have h2 := take_share a (bits .and .i64 x0 1) (bits .and .i64 y0 1) x1 y1 hp hq hu hv 1 5 2
      rw [if_pos (by omega)] at h2
      rw [hl, ho] at h ⊢
      rw [h2] at h
      exact h)
    have H2 : Hid (∀ V, Calls Try.prog 9 #[l.v, MsgV.v ⟨2, 0, 0, 0, 0, a, o.bind, ⟨#[]⟩, 0, o.ver, false⟩, .int .i64 1, .int .i64 5, .int .i64 2] V (GivesLB V (l, true))) := Lib.hid (fun V => by
      have h := take_any l ⟨2, 0, 0, 0, 0, a, o.bind, ⟨#[]⟩, 0, o.ver, false⟩ 1 5 2 V
      have h2 := take_share a (bits .and .i64 y0 1) (bits .and .i64 x0 1) y1 x1 hq hp hv hu 1 5 2
      rw [if_neg (by omega)] at h2
      rw [hl, ho] at h ⊢
      rw [h2] at h
      exact h)
    have hvl : l.ver = x1 := by rw [hl]
    have hvo : o.ver = y1 := by rw [ho]
    rw [← hvl, ← hvo] at td
    have HLE := Lib.hid hl
    have HOE := Lib.hid ho
    clear hl ho hvl hvo hp hq hu hv hlt hne
    obtain ⟨w2, hw⟩ : ∃ w2, w2 = w1.alloc (lbox l) := ⟨_, rfl⟩
    have HX2 := Lib.hid (HX1.out.alloc (lbox l))
    rw [← hw] at HX2
    have HY2 := Lib.hid (HY1.out.alloc (lbox l))
    rw [← hw] at HY2
    have HL2 := Lib.hid (LBox.new w1 l)
    rw [← hw] at HL2
    have HB2 := Lib.hid (HB1.out.alloc HB1.out.size (lbox l))
    rw [← hw] at HB2
    have HWA : Hid (w2 = w1.alloc (.cells #[.int .u32 (a : Int), .int .i64 (bits .and .i64 x0 1), .string ⟨#[]⟩, .int .i64 0, .int .i64 0, .int .i64 0, .int .i64 0, .int .i64 x1] 25)) := Lib.hid (by rw [hw, HLE.out]; rfl)
    clear hw HX1 HY1 HB1
    go_upto_region 5 with fail
    rw [← HWA.out]
    generalize w1.heap.size = gl at *
    clear HWA
    clear cx0 cx1 cy0 cy1
    have cx0 := HX2.out.c0
    have cx1 := HX2.out.c1
    have cy0 := HY2.out.c0
    have cy1 := HY2.out.c1
    obtain ⟨w3, hw⟩ : ∃ w3, w3 = w2.alloc (lbox o) := ⟨_, rfl⟩
    have HX3 := Lib.hid (HX2.out.alloc (lbox o))
    rw [← hw] at HX3
    have HY3 := Lib.hid (HY2.out.alloc (lbox o))
    rw [← hw] at HY3
    have HL3 := Lib.hid (HL2.out.alloc (lbox o))
    rw [← hw] at HL3
    have HO3 := Lib.hid (LBox.new w2 o)
    rw [← hw] at HO3
    have HB3 := Lib.hid (HB2.out.alloc HB2.out.size (lbox o))
    rw [← hw] at HB3
    have HWA : Hid (w3 = w2.alloc (.cells #[.int .u32 (a : Int), .int .i64 (bits .and .i64 y0 1), .string ⟨#[]⟩, .int .i64 0, .int .i64 0, .int .i64 0, .int .i64 0, .int .i64 y1] 25)) := Lib.hid (by rw [hw, HOE.out]; rfl)
    clear hw HX2 HY2 HL2 HB2
    go_upto_region 6 with fail
    rw [← HWA.out]
    generalize w2.heap.size = go at *
    clear HWA
    clear cx0 cx1 cy0 cy1
    obtain ⟨l0, l1, l2, l3, l4, l5, l6, l7⟩ := HL3.out.all
    obtain ⟨o0, o1, o2, o3, o4, o5, o6, o7⟩ := HO3.out.all
    go_wp2_with fail
    refine (H1.out _).mono ?_
    rintro e w4 ⟨rfl, hb1⟩
    have HL4 := Lib.hid (HL3.out.later hb1)
    have HO4 := Lib.hid (HO3.out.later hb1)
    have HB4 := Lib.hid (HB3.out.trans (hb1.mono HB3.out.size))
    clear hb1 HL3 HO3 HB3
    clear l0 l1 l2 l3 l4 l5 l6 l7
    clear o0 o1 o2 o3 o4 o5 o6 o7
    obtain ⟨w5, hw⟩ : ∃ w5, w5 = w4.alloc (lbox l) := ⟨_, rfl⟩
    have HL5 := Lib.hid (HL4.out.alloc (lbox l))
    rw [← hw] at HL5
    have HO5 := Lib.hid (HO4.out.alloc (lbox l))
    rw [← hw] at HO5
    have HP5 := Lib.hid (LBox.new w4 l)
    rw [← hw] at HP5
    have HB5 := Lib.hid (HB4.out.alloc HB4.out.size (lbox l))
    rw [← hw] at HB5
    have HWA := Lib.hid hw
    clear hw HL4 HO4 HB4
    go_upto_region 7 with fail
    rw [← HWA.out]
    generalize w4.heap.size = gp at *
    clear HWA
    obtain ⟨l0, l1, l2, l3, l4, l5, l6, l7⟩ := HL5.out.all
    obtain ⟨o0, o1, o2, o3, o4, o5, o6, o7⟩ := HO5.out.all
    go_wp2_with fail
    refine (H2.out _).mono ?_
    rintro e w6 ⟨rfl, hb1⟩
    have HL6 := Lib.hid (HL5.out.later hb1)
    have HO6 := Lib.hid (HO5.out.later hb1)
    have HP6 := Lib.hid (HP5.out.later hb1)
    have HB6 := Lib.hid (HB5.out.trans (hb1.mono HB5.out.size))
    clear hb1 HL5 HO5 HP5 HB5
    clear l0 l1 l2 l3 l4 l5 l6 l7
    clear o0 o1 o2 o3 o4 o5 o6 o7
    obtain ⟨w7, hw⟩ : ∃ w7, w7 = w6.alloc (lbox l) := ⟨_, rfl⟩
    have HL7 := Lib.hid (HL6.out.alloc (lbox l))
    rw [← hw] at HL7
    have HO7 := Lib.hid (HO6.out.alloc (lbox l))
    rw [← hw] at HO7
    have HP7 := Lib.hid (HP6.out.alloc (lbox l))
    rw [← hw] at HP7
    have HQ7 := Lib.hid (LBox.new w6 l)
    rw [← hw] at HQ7
    have HB7 := Lib.hid (HB6.out.alloc HB6.out.size (lbox l))
    rw [← hw] at HB7
    have HWA := Lib.hid hw
    clear hw HL6 HO6 HP6 HB6
    go_upto_region 8 with fail
    rw [← HWA.out]
    generalize w6.heap.size = gq at *
    clear HWA
    obtain ⟨l0, l1, l2, l3, l4, l5, l6, l7⟩ := HL7.out.all
    obtain ⟨o0, o1, o2, o3, o4, o5, o6, o7⟩ := HO7.out.all
    have HNE1 : Hid (gp ≠ w7.heap.size) := Lib.hid (Nat.ne_of_lt HP7.out.lt)
    have HNE2 : Hid (gq ≠ w7.heap.size) := Lib.hid (Nat.ne_of_lt HQ7.out.lt)
    have HNB : Hid (w.heap.size ≤ w7.heap.size) := Lib.hid HB7.out.size
    obtain ⟨w8, hw⟩ : ∃ w8, w8 = w7.alloc (lbox l) := ⟨_, rfl⟩
    have HL8 := Lib.hid (HL7.out.alloc (lbox l))
    rw [← hw] at HL8
    have HO8 := Lib.hid (HO7.out.alloc (lbox l))
    rw [← hw] at HO8
    have HP8 := Lib.hid (HP7.out.alloc (lbox l))
    rw [← hw] at HP8
    have HQ8 := Lib.hid (HQ7.out.alloc (lbox l))
    rw [← hw] at HQ8
    have HW8 := Lib.hid (LBox.new w7 l)
    rw [← hw] at HW8
    have HB8 := Lib.hid (HB7.out.alloc HB7.out.size (lbox l))
    rw [← hw] at HB8
    have HWA := Lib.hid hw
    clear hw HL7 HO7 HP7 HQ7 HB7
    go_upto_region 9 with fail
    rw [← HWA.out]
    generalize w7.heap.size = gw at *
    clear HWA
    clear l0 l1 l2 l3 l4 l5 l6 l7
    clear o0 o1 o2 o3 o4 o5 o6 o7
    obtain ⟨l0, l1, l2, l3, l4, l5, l6, l7⟩ := HL8.out.all
    obtain ⟨o0, o1, o2, o3, o4, o5, o6, o7⟩ := HO8.out.all
    go_upto_region 11 with fail
    clear l0 l1 l2 l3 l4 l5 l6 l7
    clear o0 o1 o2 o3 o4 o5 o6 o7
    obtain ⟨p0, p1, p2, p3, p4, p5, p6, p7⟩ := HP8.out.all
    obtain ⟨q0, q1, q2, q3, q4, q5, q6, q7⟩ := HQ8.out.all
    obtain ⟨v0, v1, v2, v3, v4, v5, v6, v7⟩ := HW8.out.all
    have hself : eqL (l.addr : Int) l.bind l.cb l.unt l.acked l.told l.at_ l.ver (l.addr : Int) l.bind l.cb l.unt l.acked l.told l.at_ l.ver = true := by rw [eqL_of]; simp
    go_wp2
    go_ret
    exact ⟨rfl, HB8.out⟩
end Go.Proofs.Ytlbgkpkfjaggkaa
