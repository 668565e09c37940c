/- lessorref04.Right. -/
import Derived.Test.YtfikdocpcepmmaaMsgN
import Derived.Test.YtfikdocpcepmmaaMsgR
import Derived.Deep.DeepCutAuto
namespace Go.Proofs.Ytfikdocpcepmmaa
open Go.RowKit Go.Sort
attribute [local go_sem ↓] run_eqlC run_neqC run_guardC

/-- Which right messages a kind has, as the document tells it. -/
theorem right_out {m : MsgV} (h : (wthn m.kind 1 5 && wthn m.life 1 536870912 && wthn m.seen 0 536870912) = false) : rightM m = false := by
  unfold rightM
  rw [decide_eq_false_iff_not]
  intro hr
  simp only [Bool.and_eq_false_iff] at h
  obtain ⟨h1, h2, h3, _⟩ := hr
  rcases h with (h | h) | h
  · rw [(wthn_iff _ _ _).2 h1] at h; cases h
  · rw [(wthn_iff _ _ _).2 h2] at h; cases h
  · rw [(wthn_iff _ _ _).2 h3] at h; cases h
abbrev bareM (m : MsgV) : MsgV := ⟨m.kind, m.life, m.seen, 0, 0, 0, 0, ⟨#[]⟩, 0, 0, false⟩
theorem right_1 {m : MsgV} (h0 : wthn m.kind 1 5 = true) (h1 : wthn m.life 1 536870912 = true) (h2 : wthn m.seen 0 536870912 = true) (hk : m.kind = 1) :
    rightM m = (decide (m = { bareM m with xid := m.xid, state := m.state }) && wthn m.state 0 8 && wthn m.xid 1 1073741824) := by
  rw [Bool.eq_iff_iff, right_iff]
  simp only [Bool.and_eq_true, decide_eq_true_eq, wthn_iff, RM, KM] at *
  obtain ⟨ki, li, se, xi, stt, ad, bi, cl, po, at_, ok⟩ := m
  simp only [MsgV.mk.injEq, true_and] at *
  subst hk
  constructor
  · rintro ⟨_, _, _, ⟨_, a, b, rfl, rfl, rfl, rfl, rfl, rfl⟩ | ⟨h, _⟩ | ⟨h, _⟩ | ⟨h, _⟩⟩
    · exact ⟨⟨⟨rfl, rfl, rfl, rfl, rfl, rfl⟩, b⟩, a⟩
    all_goals (exfalso; omega)
  · rintro ⟨⟨⟨rfl, rfl, rfl, rfl, rfl, rfl⟩, b⟩, a⟩
    exact ⟨h0, h1, h2, .inl ⟨rfl, a, b, rfl, rfl, rfl, rfl, rfl, rfl⟩⟩
theorem right_3 {m : MsgV} (h0 : wthn m.kind 1 5 = true) (h1 : wthn m.life 1 536870912 = true) (h2 : wthn m.seen 0 536870912 = true) (hk : m.kind = 3) :
    rightM m = (decide (m = { bareM m with xid := m.xid, ok := m.ok }) && wthn m.xid 1 1073741824) := by
  rw [Bool.eq_iff_iff, right_iff]
  simp only [Bool.and_eq_true, decide_eq_true_eq, wthn_iff, RM, KM] at *
  obtain ⟨ki, li, se, xi, stt, ad, bi, cl, po, at_, ok⟩ := m
  simp only [MsgV.mk.injEq, true_and, and_true] at *
  subst hk
  constructor
  · rintro ⟨_, _, _, ⟨h, _⟩ | ⟨_, a, rfl, rfl, rfl, rfl, rfl, rfl⟩ | ⟨h, _⟩ | ⟨h, _⟩⟩
    · exfalso; omega
    · exact ⟨⟨rfl, rfl, rfl, rfl, rfl, rfl⟩, a⟩
    all_goals (exfalso; omega)
  · rintro ⟨⟨rfl, rfl, rfl, rfl, rfl, rfl⟩, a⟩
    exact ⟨h0, h1, h2, .inr (.inl ⟨rfl, a, rfl, rfl, rfl, rfl, rfl, rfl⟩)⟩
theorem right_2 {m : MsgV} (h0 : wthn m.kind 1 5 = true) (h1 : wthn m.life 1 536870912 = true) (h2 : wthn m.seen 0 536870912 = true) (hk : m.kind = 2) :
    rightM m = (decide (m = { m with state := 0, ok := false }) && wthn m.xid 1 1073741824 && wthn m.bind 0 5 && wthn m.pot 0 1099511627776 && wthn m.at_ 0 1099511627776 && decide ((m.client.size : Int) ≤ 32)) := by
  rw [Bool.eq_iff_iff, right_iff]
  simp only [Bool.and_eq_true, decide_eq_true_eq, wthn_iff, RM, KM] at *
  obtain ⟨ki, li, se, xi, stt, ad, bi, cl, po, at_, ok⟩ := m
  simp only [MsgV.mk.injEq, true_and] at *
  subst hk
  constructor
  · rintro ⟨_, _, _, ⟨h, _⟩ | ⟨h, _⟩ | ⟨_, a, rfl, b, c, d, e, rfl⟩ | ⟨h, _⟩⟩
    · exfalso; omega
    · exfalso; omega
    · exact ⟨⟨⟨⟨⟨⟨rfl, rfl⟩, a⟩, b⟩, d⟩, e⟩, by omega⟩
    · exfalso; omega
  · rintro ⟨⟨⟨⟨⟨⟨rfl, rfl⟩, a⟩, b⟩, d⟩, e⟩, c⟩
    exact ⟨h0, h1, h2, .inr (.inr (.inl ⟨rfl, a, rfl, b, by omega, d, e, rfl⟩))⟩
theorem right_4 {m : MsgV} (h0 : wthn m.kind 1 5 = true) (h1 : wthn m.life 1 536870912 = true) (h2 : wthn m.seen 0 536870912 = true) (hk1 : m.kind ≠ 1) (hk3 : m.kind ≠ 3) (hk2 : m.kind ≠ 2) :
    rightM m = decide (m = bareM m) := by
  unfold rightM
  rw [decide_eq_decide]
  simp only [wthn_iff, RM, KM] at *
  obtain ⟨ki, li, se, xi, stt, ad, bi, cl, po, at_, ok⟩ := m
  simp only [MsgV.mk.injEq, true_and] at *
  constructor
  · rintro ⟨_, _, _, ⟨h, _⟩ | ⟨h, _⟩ | ⟨h, _⟩ | ⟨_, rfl, rfl, rfl, rfl, rfl, rfl, rfl, rfl⟩⟩
    · exact absurd h hk1
    · exact absurd h hk3
    · exact absurd h hk2
    · exact ⟨rfl, rfl, rfl, rfl, rfl, rfl, rfl, rfl⟩
  · rintro ⟨rfl, rfl, rfl, rfl, rfl, rfl, rfl, rfl⟩
    exact ⟨h0, h1, h2, .inr (.inr (.inr ⟨by omega, rfl, rfl, rfl, rfl, rfl, rfl, rfl, rfl⟩))⟩

set_option maxRecDepth 100000 in
set_option maxHeartbeats 2000000 in
theorem rright_out (m : MsgV) (w : World) (h : (wthn m.kind 1 5 && wthn m.life 1 536870912 && wthn m.seen 0 536870912) = false) :
    Calls Try.prog 25 #[m.v] w fun e w' => e = .returned (.bool (rightM m)) ∧ Below w.heap.size w w' := by
  have HR := Lib.hid (right_out h)
  have hB : Below w.heap.size w (w.alloc (mbox m)) := (Below.refl _ _).alloc (Nat.le_refl _) _
  cases h0 : wthn m.kind 1 5
  rotate_left
  cases h1 : wthn m.life 1 536870912
  rotate_left
  cases h2 : wthn m.seen 0 536870912
  rotate_left
  · rw [h0, h1, h2] at h; cases h
  all_goals
    clear h
    go_enter Try.func25, Try.ntmps25
    go_wp2_with (go_at_call 29; refine (within_any _ _ _ _).mono ?_; rintro e w' ⟨rfl, rfl⟩)
    go_ret
    rw [HR.out]
    exact ⟨rfl, hB⟩

set_option maxRecDepth 100000 in
set_option maxHeartbeats 2000000 in
theorem rright_1 (m : MsgV) (w : World) (h0 : wthn m.kind 1 5 = true) (h1 : wthn m.life 1 536870912 = true) (h2 : wthn m.seen 0 536870912 = true) (hk : m.kind = 1) :
    Calls Try.prog 25 #[m.v] w fun e w' => e = .returned (.bool (rightM m)) ∧ Below w.heap.size w w' := by
  have HR := Lib.hid (right_1 h0 h1 h2 hk)
  obtain ⟨q, hq⟩ : ∃ q : MsgV, q = { bareM m with xid := m.xid, state := m.state } := ⟨_, rfl⟩
  rw [← hq] at HR
  have HE := Lib.hid (eqB_of m q)
  have HQ := Lib.hid hq
  have t1 : (m.kind == 1) = true := by rw [hk]; decide
  have t3 : (m.kind == 3) = false := by rw [hk]; decide
  have t2 : (m.kind == 2) = false := by rw [hk]; decide
  obtain ⟨w0, hw0⟩ : ∃ w0, w0 = w.alloc (mbox m) := ⟨_, rfl⟩
  have hz0 : w0.heap.size = w.heap.size + 1 := by rw [hw0]; simp
  obtain ⟨w1, hw1⟩ : ∃ w1, w1 = w0.alloc (.cells #[.int .i64 m.kind, .int .i64 m.life, .int .i64 m.seen, .int .i64 0, .int .i64 0, .int .u32 0, .int .i64 0, .string ⟨#[]⟩, .int .i64 0, .int .i64 0, .bool false] 34) := ⟨_, rfl⟩
  have HB : Hid (Below w.heap.size w w1) := Lib.hid (by rw [hw1, hw0]; exact ((Below.refl _ _).alloc (Nat.le_refl _) _).alloc (by simp) _)
  have HX : Hid (MBox w1 w.heap.size m) := Lib.hid (by rw [hw1, hw0]; exact (MBox.new w m).alloc _)
  have HY : Hid (MBox w1 (w.heap.size + 1) (bareM m)) := Lib.hid (by rw [hw1, ← hz0]; exact MBox.new w0 (bareM m))
  have HW : Hid (w1 = (w.alloc (mbox m)).alloc (.cells #[.int .i64 m.kind, .int .i64 m.life, .int .i64 m.seen, .int .i64 0, .int .i64 0, .int .u32 0, .int .i64 0, .string ⟨#[]⟩, .int .i64 0, .int .i64 0, .bool false] 34)) := Lib.hid (by rw [hw1, hw0])
  clear hk hq hw0 hw1 hz0
  go_enter Try.func25, Try.ntmps25
  go_upto_region 4 with (go_at_call 29; refine (within_any _ _ _ _).mono ?_; rintro e w' ⟨rfl, rfl⟩)
  rw [← HW.out]
  have m0 := HX.out.c0
  have m0_4 := HX.out.c4
  have d0_4 := HY.out.c4
  have f0_4 := HY.out.free 4
  have HY1 : Hid (MBox (w1.setCell ⟨w.heap.size + 1, 4, none⟩ (.int .i64 m.state)) (w.heap.size + 1) { bareM m with state := m.state }) := Lib.hid (HY.out.store 4 _ rfl)
  have HX1 : Hid (MBox (w1.setCell ⟨w.heap.size + 1, 4, none⟩ (.int .i64 m.state)) w.heap.size m) := Lib.hid (HX.out.other (by show w.heap.size ≠ w.heap.size + 1; omega) _)
  have HB1 : Hid (Below w.heap.size w (w1.setCell ⟨w.heap.size + 1, 4, none⟩ (.int .i64 m.state))) := Lib.hid (HB.out.setCell (by show w.heap.size ≤ w.heap.size + 1; omega) _)
  have m1_3 := HX1.out.c3
  have d1_3 := HY1.out.c3
  have f1_3 := HY1.out.free 3
  have HY2 : Hid (MBox ((w1.setCell ⟨w.heap.size + 1, 4, none⟩ (.int .i64 m.state)).setCell ⟨w.heap.size + 1, 3, none⟩ (.int .i64 m.xid)) (w.heap.size + 1) { bareM m with state := m.state, xid := m.xid }) := Lib.hid (HY1.out.store 3 _ rfl)
  have HX2 : Hid (MBox ((w1.setCell ⟨w.heap.size + 1, 4, none⟩ (.int .i64 m.state)).setCell ⟨w.heap.size + 1, 3, none⟩ (.int .i64 m.xid)) w.heap.size m) := Lib.hid (HX1.out.other (by show w.heap.size ≠ w.heap.size + 1; omega) _)
  have HB2 : Hid (Below w.heap.size w ((w1.setCell ⟨w.heap.size + 1, 4, none⟩ (.int .i64 m.state)).setCell ⟨w.heap.size + 1, 3, none⟩ (.int .i64 m.xid))) := Lib.hid (HB1.out.setCell (by show w.heap.size ≤ w.heap.size + 1; omega) _)
  go_upto_region 8 with fail
  obtain ⟨w2, hw2⟩ : ∃ w2, w2 = ((w1.setCell ⟨w.heap.size + 1, 4, none⟩ (.int .i64 m.state)).setCell ⟨w.heap.size + 1, 3, none⟩ (.int .i64 m.xid)) := ⟨_, rfl⟩
  rw [← hw2] at HX2 HY2 HB2 ⊢
  rw [← HQ.out] at HY2
  clear hw2 m0 m0_4 d0_4 f0_4 m1_3 d1_3 f1_3
  obtain ⟨c0, c1, c2, c3, c4, c5, c6, c7, c8, c9, c10⟩ := HX2.out.all
  obtain ⟨d0, d1, d2, d3, d4, d5, d6, d7, d8, d9, d10⟩ := HY2.out.all
  have HE := HE
  have HD : Hid (rightM m = (eqB m.kind m.life m.seen m.xid m.state (m.addr : Int) m.bind m.client m.pot m.at_ m.ok q.kind q.life q.seen q.xid q.state (q.addr : Int) q.bind q.client q.pot q.at_ q.ok && wthn m.state 0 8 && wthn m.xid 1 1073741824)) := Lib.hid (by rw [HE.out]; exact HR.out)
  cases g0 : eqB m.kind m.life m.seen m.xid m.state (m.addr : Int) m.bind m.client m.pot m.at_ m.ok q.kind q.life q.seen q.xid q.state (q.addr : Int) q.bind q.client q.pot q.at_ q.ok
  · rw [g0] at HD
    simp only [Bool.false_and] at HD
    go_wp2_with (go_at_call 29; refine (within_any _ _ _ _).mono ?_; rintro e w' ⟨rfl, rfl⟩)
    go_ret
    rw [HD.out]
    exact ⟨rfl, HB2.out⟩
  · rw [g0] at HD
    simp only [Bool.true_and] at HD
    cases g1 : wthn m.state 0 8
    · rw [g1] at HD
      simp only [Bool.false_and] at HD
      go_wp2_with (go_at_call 29; refine (within_any _ _ _ _).mono ?_; rintro e w' ⟨rfl, rfl⟩)
      go_ret
      rw [HD.out]
      exact ⟨rfl, HB2.out⟩
    · rw [g1] at HD
      simp only [Bool.true_and] at HD
      cases g2 : wthn m.xid 1 1073741824
      · rw [g2] at HD
        go_wp2_with (go_at_call 29; refine (within_any _ _ _ _).mono ?_; rintro e w' ⟨rfl, rfl⟩)
        go_ret
        rw [HD.out]
        exact ⟨rfl, HB2.out⟩
      · rw [g2] at HD
        go_wp2_with (go_at_call 29; refine (within_any _ _ _ _).mono ?_; rintro e w' ⟨rfl, rfl⟩)
        go_ret
        rw [HD.out]
        exact ⟨rfl, HB2.out⟩

set_option maxRecDepth 100000 in
set_option maxHeartbeats 2000000 in
theorem rright_3 (m : MsgV) (w : World) (h0 : wthn m.kind 1 5 = true) (h1 : wthn m.life 1 536870912 = true) (h2 : wthn m.seen 0 536870912 = true) (hk : m.kind = 3) :
    Calls Try.prog 25 #[m.v] w fun e w' => e = .returned (.bool (rightM m)) ∧ Below w.heap.size w w' := by
  have HR := Lib.hid (right_3 h0 h1 h2 hk)
  obtain ⟨q, hq⟩ : ∃ q : MsgV, q = { bareM m with xid := m.xid, ok := m.ok } := ⟨_, rfl⟩
  rw [← hq] at HR
  have HE := Lib.hid (eqB_of m q)
  have HQ := Lib.hid hq
  have t1 : (m.kind == 1) = false := by rw [hk]; decide
  have t3 : (m.kind == 3) = true := by rw [hk]; decide
  have t2 : (m.kind == 2) = false := by rw [hk]; decide
  obtain ⟨w0, hw0⟩ : ∃ w0, w0 = w.alloc (mbox m) := ⟨_, rfl⟩
  have hz0 : w0.heap.size = w.heap.size + 1 := by rw [hw0]; simp
  obtain ⟨w1, hw1⟩ : ∃ w1, w1 = w0.alloc (.cells #[.int .i64 m.kind, .int .i64 m.life, .int .i64 m.seen, .int .i64 0, .int .i64 0, .int .u32 0, .int .i64 0, .string ⟨#[]⟩, .int .i64 0, .int .i64 0, .bool false] 34) := ⟨_, rfl⟩
  have HB : Hid (Below w.heap.size w w1) := Lib.hid (by rw [hw1, hw0]; exact ((Below.refl _ _).alloc (Nat.le_refl _) _).alloc (by simp) _)
  have HX : Hid (MBox w1 w.heap.size m) := Lib.hid (by rw [hw1, hw0]; exact (MBox.new w m).alloc _)
  have HY : Hid (MBox w1 (w.heap.size + 1) (bareM m)) := Lib.hid (by rw [hw1, ← hz0]; exact MBox.new w0 (bareM m))
  have HW : Hid (w1 = (w.alloc (mbox m)).alloc (.cells #[.int .i64 m.kind, .int .i64 m.life, .int .i64 m.seen, .int .i64 0, .int .i64 0, .int .u32 0, .int .i64 0, .string ⟨#[]⟩, .int .i64 0, .int .i64 0, .bool false] 34)) := Lib.hid (by rw [hw1, hw0])
  clear hk hq hw0 hw1 hz0
  go_enter Try.func25, Try.ntmps25
  go_upto_region 4 with (go_at_call 29; refine (within_any _ _ _ _).mono ?_; rintro e w' ⟨rfl, rfl⟩)
  rw [← HW.out]
  have m0 := HX.out.c0
  have m0_3 := HX.out.c3
  have d0_3 := HY.out.c3
  have f0_3 := HY.out.free 3
  have HY1 : Hid (MBox (w1.setCell ⟨w.heap.size + 1, 3, none⟩ (.int .i64 m.xid)) (w.heap.size + 1) { bareM m with xid := m.xid }) := Lib.hid (HY.out.store 3 _ rfl)
  have HX1 : Hid (MBox (w1.setCell ⟨w.heap.size + 1, 3, none⟩ (.int .i64 m.xid)) w.heap.size m) := Lib.hid (HX.out.other (by show w.heap.size ≠ w.heap.size + 1; omega) _)
  have HB1 : Hid (Below w.heap.size w (w1.setCell ⟨w.heap.size + 1, 3, none⟩ (.int .i64 m.xid))) := Lib.hid (HB.out.setCell (by show w.heap.size ≤ w.heap.size + 1; omega) _)
  have m1_10 := HX1.out.c10
  have d1_10 := HY1.out.c10
  have f1_10 := HY1.out.free 10
  have HY2 : Hid (MBox ((w1.setCell ⟨w.heap.size + 1, 3, none⟩ (.int .i64 m.xid)).setCell ⟨w.heap.size + 1, 10, none⟩ (.bool m.ok)) (w.heap.size + 1) { bareM m with xid := m.xid, ok := m.ok }) := Lib.hid (HY1.out.store 10 _ rfl)
  have HX2 : Hid (MBox ((w1.setCell ⟨w.heap.size + 1, 3, none⟩ (.int .i64 m.xid)).setCell ⟨w.heap.size + 1, 10, none⟩ (.bool m.ok)) w.heap.size m) := Lib.hid (HX1.out.other (by show w.heap.size ≠ w.heap.size + 1; omega) _)
  have HB2 : Hid (Below w.heap.size w ((w1.setCell ⟨w.heap.size + 1, 3, none⟩ (.int .i64 m.xid)).setCell ⟨w.heap.size + 1, 10, none⟩ (.bool m.ok))) := Lib.hid (HB1.out.setCell (by show w.heap.size ≤ w.heap.size + 1; omega) _)
  go_upto_region 12 with fail
  obtain ⟨w2, hw2⟩ : ∃ w2, w2 = ((w1.setCell ⟨w.heap.size + 1, 3, none⟩ (.int .i64 m.xid)).setCell ⟨w.heap.size + 1, 10, none⟩ (.bool m.ok)) := ⟨_, rfl⟩
  rw [← hw2] at HX2 HY2 HB2 ⊢
  rw [← HQ.out] at HY2
  clear hw2 m0 m0_3 d0_3 f0_3 m1_10 d1_10 f1_10
  obtain ⟨c0, c1, c2, c3, c4, c5, c6, c7, c8, c9, c10⟩ := HX2.out.all
  obtain ⟨d0, d1, d2, d3, d4, d5, d6, d7, d8, d9, d10⟩ := HY2.out.all
  have HE := HE
  have HD : Hid (rightM m = (eqB m.kind m.life m.seen m.xid m.state (m.addr : Int) m.bind m.client m.pot m.at_ m.ok q.kind q.life q.seen q.xid q.state (q.addr : Int) q.bind q.client q.pot q.at_ q.ok && wthn m.xid 1 1073741824)) := Lib.hid (by rw [HE.out]; exact HR.out)
  cases g0 : eqB m.kind m.life m.seen m.xid m.state (m.addr : Int) m.bind m.client m.pot m.at_ m.ok q.kind q.life q.seen q.xid q.state (q.addr : Int) q.bind q.client q.pot q.at_ q.ok
  · rw [g0] at HD
    simp only [Bool.false_and] at HD
    go_wp2_with (go_at_call 29; refine (within_any _ _ _ _).mono ?_; rintro e w' ⟨rfl, rfl⟩)
    go_ret
    rw [HD.out]
    exact ⟨rfl, HB2.out⟩
  · rw [g0] at HD
    simp only [Bool.true_and] at HD
    cases g1 : wthn m.xid 1 1073741824
    · rw [g1] at HD
      go_wp2_with (go_at_call 29; refine (within_any _ _ _ _).mono ?_; rintro e w' ⟨rfl, rfl⟩)
      go_ret
      rw [HD.out]
      exact ⟨rfl, HB2.out⟩
    · rw [g1] at HD
      go_wp2_with (go_at_call 29; refine (within_any _ _ _ _).mono ?_; rintro e w' ⟨rfl, rfl⟩)
      go_ret
      rw [HD.out]
      exact ⟨rfl, HB2.out⟩

set_option maxRecDepth 100000 in
set_option maxHeartbeats 2000000 in
theorem rright_2 (m : MsgV) (w : World) (h0 : wthn m.kind 1 5 = true) (h1 : wthn m.life 1 536870912 = true) (h2 : wthn m.seen 0 536870912 = true) (hk : m.kind = 2) :
    Calls Try.prog 25 #[m.v] w fun e w' => e = .returned (.bool (rightM m)) ∧ Below w.heap.size w w' := by
  have HR := Lib.hid (right_2 h0 h1 h2 hk)
  obtain ⟨q, hq⟩ : ∃ q : MsgV, q = { m with state := 0, ok := false } := ⟨_, rfl⟩
  rw [← hq] at HR
  have HE := Lib.hid (eqB_of m q)
  have HQ := Lib.hid hq
  have t1 : (m.kind == 1) = false := by rw [hk]; decide
  have t3 : (m.kind == 3) = false := by rw [hk]; decide
  have t2 : (m.kind == 2) = true := by rw [hk]; decide
  obtain ⟨w0, hw0⟩ : ∃ w0, w0 = w.alloc (mbox m) := ⟨_, rfl⟩
  have hz0 : w0.heap.size = w.heap.size + 1 := by rw [hw0]; simp
  obtain ⟨w1, hw1⟩ : ∃ w1, w1 = w0.alloc (.cells #[.int .i64 m.kind, .int .i64 m.life, .int .i64 m.seen, .int .i64 0, .int .i64 0, .int .u32 0, .int .i64 0, .string ⟨#[]⟩, .int .i64 0, .int .i64 0, .bool false] 34) := ⟨_, rfl⟩
  have HB : Hid (Below w.heap.size w w1) := Lib.hid (by rw [hw1, hw0]; exact ((Below.refl _ _).alloc (Nat.le_refl _) _).alloc (by simp) _)
  have HX : Hid (MBox w1 w.heap.size m) := Lib.hid (by rw [hw1, hw0]; exact (MBox.new w m).alloc _)
  have HY : Hid (MBox w1 (w.heap.size + 1) (bareM m)) := Lib.hid (by rw [hw1, ← hz0]; exact MBox.new w0 (bareM m))
  have HW : Hid (w1 = (w.alloc (mbox m)).alloc (.cells #[.int .i64 m.kind, .int .i64 m.life, .int .i64 m.seen, .int .i64 0, .int .i64 0, .int .u32 0, .int .i64 0, .string ⟨#[]⟩, .int .i64 0, .int .i64 0, .bool false] 34)) := Lib.hid (by rw [hw1, hw0])
  clear hk hq hw0 hw1 hz0
  go_enter Try.func25, Try.ntmps25
  go_upto_region 4 with (go_at_call 29; refine (within_any _ _ _ _).mono ?_; rintro e w' ⟨rfl, rfl⟩)
  rw [← HW.out]
  have m0 := HX.out.c0
  obtain ⟨c0, c1, c2, c3, c4, c5, c6, c7, c8, c9, c10⟩ := HX.out.all
  obtain ⟨d0, d1, d2, d3, d4, d5, d6, d7, d8, d9, d10⟩ := HY.out.all
  have f0 := HY.out.free 0
  have f1 := HY.out.free 1
  have f2 := HY.out.free 2
  have f3 := HY.out.free 3
  have f4 := HY.out.free 4
  have f5 := HY.out.free 5
  have f6 := HY.out.free 6
  have f7 := HY.out.free 7
  have f8 := HY.out.free 8
  have f9 := HY.out.free 9
  have f10 := HY.out.free 10
  go_upto_region 15 with fail
  obtain ⟨w2, hw2⟩ : ∃ w2, w2 = storeM w1 (w.heap.size + 1) m := ⟨_, rfl⟩
  have HY1 : Hid (MBox w2 (w.heap.size + 1) m) := Lib.hid (by rw [hw2]; exact storeM_box HY.out m)
  have HX1 : Hid (MBox w2 w.heap.size m) := Lib.hid (by rw [hw2]; exact HX.out.kp (storeM_kp w1 _ m) (by show w.heap.size ≠ w.heap.size + 1; omega))
  have HB1 : Hid (Below w.heap.size w w2) := Lib.hid (by rw [hw2]; exact HB.out.trans ((storeM_kp w1 _ m).below fun k hk => by show k ≠ w.heap.size + 1; omega))
  have hfin := hw2.symm
  unfold storeM at hfin
  rw [hfin]
  clear hw2 hfin m0
  clear c0 c1 c2 c3 c4 c5 c6 c7 c8 c9 c10
  clear d0 d1 d2 d3 d4 d5 d6 d7 d8 d9 d10
  clear f0 f1 f2 f3 f4 f5 f6 f7 f8 f9 f10
  have d4 := HY1.out.c4
  have f4 := HY1.out.free 4
  have HY2 : Hid (MBox (w2.setCell ⟨w.heap.size + 1, 4, none⟩ (.int .i64 0)) (w.heap.size + 1) { m with state := 0 }) := Lib.hid (HY1.out.store 4 _ rfl)
  have HX2 : Hid (MBox (w2.setCell ⟨w.heap.size + 1, 4, none⟩ (.int .i64 0)) w.heap.size m) := Lib.hid (HX1.out.other (by show w.heap.size ≠ w.heap.size + 1; omega) _)
  have HB2 : Hid (Below w.heap.size w (w2.setCell ⟨w.heap.size + 1, 4, none⟩ (.int .i64 0))) := Lib.hid (HB1.out.setCell (by show w.heap.size ≤ w.heap.size + 1; omega) _)
  have d10 := HY2.out.c10
  have f10 := HY2.out.free 10
  have HY3 : Hid (MBox ((w2.setCell ⟨w.heap.size + 1, 4, none⟩ (.int .i64 0)).setCell ⟨w.heap.size + 1, 10, none⟩ (.bool false)) (w.heap.size + 1) { m with state := 0, ok := false }) := Lib.hid (HY2.out.store 10 _ rfl)
  have HX3 : Hid (MBox ((w2.setCell ⟨w.heap.size + 1, 4, none⟩ (.int .i64 0)).setCell ⟨w.heap.size + 1, 10, none⟩ (.bool false)) w.heap.size m) := Lib.hid (HX2.out.other (by show w.heap.size ≠ w.heap.size + 1; omega) _)
  have HB3 : Hid (Below w.heap.size w ((w2.setCell ⟨w.heap.size + 1, 4, none⟩ (.int .i64 0)).setCell ⟨w.heap.size + 1, 10, none⟩ (.bool false))) := Lib.hid (HB2.out.setCell (by show w.heap.size ≤ w.heap.size + 1; omega) _)
  go_upto_region 17 with fail
  obtain ⟨w3, hw3⟩ : ∃ w3, w3 = (w2.setCell ⟨w.heap.size + 1, 4, none⟩ (.int .i64 0)).setCell ⟨w.heap.size + 1, 10, none⟩ (.bool false) := ⟨_, rfl⟩
  rw [← hw3] at HX3 HY3 HB3 ⊢
  rw [← HQ.out] at HY3
  clear hw3 d4 f4 d10 f10
  obtain ⟨c0, c1, c2, c3, c4, c5, c6, c7, c8, c9, c10⟩ := HX3.out.all
  obtain ⟨d0, d1, d2, d3, d4, d5, d6, d7, d8, d9, d10⟩ := HY3.out.all
  have HE := HE
  have HD : Hid (rightM m = (eqB m.kind m.life m.seen m.xid m.state (m.addr : Int) m.bind m.client m.pot m.at_ m.ok q.kind q.life q.seen q.xid q.state (q.addr : Int) q.bind q.client q.pot q.at_ q.ok && wthn m.xid 1 1073741824 && wthn m.bind 0 5 && wthn m.pot 0 1099511627776 && wthn m.at_ 0 1099511627776 && decide ((m.client.size : Int) ≤ 32))) := Lib.hid (by rw [HE.out]; exact HR.out)
  cases g0 : eqB m.kind m.life m.seen m.xid m.state (m.addr : Int) m.bind m.client m.pot m.at_ m.ok q.kind q.life q.seen q.xid q.state (q.addr : Int) q.bind q.client q.pot q.at_ q.ok
  · rw [g0] at HD
    simp only [Bool.false_and] at HD
    go_wp2_with (go_at_call 29; refine (within_any _ _ _ _).mono ?_; rintro e w' ⟨rfl, rfl⟩)
    go_ret
    rw [HD.out]
    exact ⟨rfl, HB3.out⟩
  · rw [g0] at HD
    simp only [Bool.true_and] at HD
    cases g1 : wthn m.xid 1 1073741824
    · rw [g1] at HD
      simp only [Bool.false_and] at HD
      go_wp2_with (go_at_call 29; refine (within_any _ _ _ _).mono ?_; rintro e w' ⟨rfl, rfl⟩)
      go_ret
      rw [HD.out]
      exact ⟨rfl, HB3.out⟩
    · rw [g1] at HD
      simp only [Bool.true_and] at HD
      cases g2 : wthn m.bind 0 5
      · rw [g2] at HD
        simp only [Bool.false_and] at HD
        go_wp2_with (go_at_call 29; refine (within_any _ _ _ _).mono ?_; rintro e w' ⟨rfl, rfl⟩)
        go_ret
        rw [HD.out]
        exact ⟨rfl, HB3.out⟩
      · rw [g2] at HD
        simp only [Bool.true_and] at HD
        cases g3 : wthn m.pot 0 1099511627776
        · rw [g3] at HD
          simp only [Bool.false_and] at HD
          go_wp2_with (go_at_call 29; refine (within_any _ _ _ _).mono ?_; rintro e w' ⟨rfl, rfl⟩)
          go_ret
          rw [HD.out]
          exact ⟨rfl, HB3.out⟩
        · rw [g3] at HD
          simp only [Bool.true_and] at HD
          cases g4 : wthn m.at_ 0 1099511627776
          · rw [g4] at HD
            simp only [Bool.false_and] at HD
            go_wp2_with (go_at_call 29; refine (within_any _ _ _ _).mono ?_; rintro e w' ⟨rfl, rfl⟩)
            go_ret
            rw [HD.out]
            exact ⟨rfl, HB3.out⟩
          · rw [g4] at HD
            simp only [Bool.true_and] at HD
            cases g5 : decide ((m.client.size : Int) ≤ 32)
            · rw [g5] at HD
              go_wp2_with (go_at_call 29; refine (within_any _ _ _ _).mono ?_; rintro e w' ⟨rfl, rfl⟩)
              go_ret
              rw [HD.out]
              exact ⟨rfl, HB3.out⟩
            · rw [g5] at HD
              go_wp2_with (go_at_call 29; refine (within_any _ _ _ _).mono ?_; rintro e w' ⟨rfl, rfl⟩)
              go_ret
              rw [HD.out]
              exact ⟨rfl, HB3.out⟩

set_option maxRecDepth 100000 in
set_option maxHeartbeats 2000000 in
theorem rright_4 (m : MsgV) (w : World) (h0 : wthn m.kind 1 5 = true) (h1 : wthn m.life 1 536870912 = true) (h2 : wthn m.seen 0 536870912 = true) (hk : m.kind ≠ 1 ∧ m.kind ≠ 3 ∧ m.kind ≠ 2) :
    Calls Try.prog 25 #[m.v] w fun e w' => e = .returned (.bool (rightM m)) ∧ Below w.heap.size w w' := by
  have HR := Lib.hid (right_4 h0 h1 h2 hk.1 hk.2.1 hk.2.2)
  obtain ⟨q, hq⟩ : ∃ q : MsgV, q = bareM m := ⟨_, rfl⟩
  rw [← hq] at HR
  have HE := Lib.hid (eqB_of m q)
  have HQ := Lib.hid hq
  have t1 : (m.kind == 1) = false := by simpa using hk.1
  have t3 : (m.kind == 3) = false := by simpa using hk.2.1
  have t2 : (m.kind == 2) = false := by simpa using hk.2.2
  obtain ⟨w0, hw0⟩ : ∃ w0, w0 = w.alloc (mbox m) := ⟨_, rfl⟩
  have hz0 : w0.heap.size = w.heap.size + 1 := by rw [hw0]; simp
  obtain ⟨w1, hw1⟩ : ∃ w1, w1 = w0.alloc (.cells #[.int .i64 m.kind, .int .i64 m.life, .int .i64 m.seen, .int .i64 0, .int .i64 0, .int .u32 0, .int .i64 0, .string ⟨#[]⟩, .int .i64 0, .int .i64 0, .bool false] 34) := ⟨_, rfl⟩
  have HB : Hid (Below w.heap.size w w1) := Lib.hid (by rw [hw1, hw0]; exact ((Below.refl _ _).alloc (Nat.le_refl _) _).alloc (by simp) _)
  have HX : Hid (MBox w1 w.heap.size m) := Lib.hid (by rw [hw1, hw0]; exact (MBox.new w m).alloc _)
  have HY : Hid (MBox w1 (w.heap.size + 1) (bareM m)) := Lib.hid (by rw [hw1, ← hz0]; exact MBox.new w0 (bareM m))
  have HW : Hid (w1 = (w.alloc (mbox m)).alloc (.cells #[.int .i64 m.kind, .int .i64 m.life, .int .i64 m.seen, .int .i64 0, .int .i64 0, .int .u32 0, .int .i64 0, .string ⟨#[]⟩, .int .i64 0, .int .i64 0, .bool false] 34)) := Lib.hid (by rw [hw1, hw0])
  clear hk hq hw0 hw1 hz0
  go_enter Try.func25, Try.ntmps25
  go_upto_region 4 with (go_at_call 29; refine (within_any _ _ _ _).mono ?_; rintro e w' ⟨rfl, rfl⟩)
  rw [← HW.out]
  have m0 := HX.out.c0
  rw [← HQ.out] at HY
  clear m0
  obtain ⟨c0, c1, c2, c3, c4, c5, c6, c7, c8, c9, c10⟩ := HX.out.all
  obtain ⟨d0, d1, d2, d3, d4, d5, d6, d7, d8, d9, d10⟩ := HY.out.all
  have HE := HE
  have HD : Hid (rightM m = (eqB m.kind m.life m.seen m.xid m.state (m.addr : Int) m.bind m.client m.pot m.at_ m.ok q.kind q.life q.seen q.xid q.state (q.addr : Int) q.bind q.client q.pot q.at_ q.ok)) := Lib.hid (by rw [HE.out]; exact HR.out)
  go_wp2
  go_ret
  rw [HD.out]
  exact ⟨rfl, HB.out⟩

theorem rright_any (m : MsgV) (w : World) : Calls Try.prog 25 #[m.v] w fun e w' => e = .returned (.bool (rightM m)) ∧ Below w.heap.size w w' := by
  cases h : (wthn m.kind 1 5 && wthn m.life 1 536870912 && wthn m.seen 0 536870912)
  · exact rright_out m w h
  · simp only [Bool.and_eq_true] at h
    by_cases h1 : m.kind = 1
    · exact rright_1 m w h.1.1 h.1.2 h.2 h1
    by_cases h3 : m.kind = 3
    · exact rright_3 m w h.1.1 h.1.2 h.2 h3
    by_cases h2 : m.kind = 2
    · exact rright_2 m w h.1.1 h.1.2 h.2 h2
    · exact rright_4 m w h.1.1 h.1.2 h.2 ⟨h1, h3, h2⟩
end Go.Proofs.Ytfikdocpcepmmaa
