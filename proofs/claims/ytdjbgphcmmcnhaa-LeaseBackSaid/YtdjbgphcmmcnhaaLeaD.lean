/- lease.Decode. -/
import Derived.Test.YtdjbgphcmmcnhaaLeaE
namespace Go.Proofs.Ytdjbgphcmmcnhaa
open Go.RowKit Go.Sort

/-- A lease and an error's number are answered; nothing that lay has turned. -/
def GivesL (w : World) (r : LV × Int) (e : Ending) (w' : World) : Prop := e = .returned (.tuple #[r.1.v, .int .i64 r.2]) ∧ Below w.heap.size w w'

/-- The lease that bytes tell, its client and its later times not yet filled in. -/
def PL (b : List UInt8) (j : Nat) : LV :=
  ⟨numL (pc b 0 4), numL (pc b 4 1), [], if 0 < j then numL (pc b 5 6) else 0, if 1 < j then numL (pc b 11 6) else 0, if 2 < j then numL (pc b 17 6) else 0, if 3 < j then numL (pc b 23 6) else 0, if 4 < j then numL (pc b 29 6) else 0⟩
theorem PL_next (b : List UInt8) (j : Nat) (hj : j < 5) (k : Nat) (hk : k = numL (pc b (5 + 6 * j) 6)) : (PL b j).cells.setIfInBounds (3 + j) (.int .i64 (k : Int)) = (PL b (j + 1)).cells := by
  subst hk
  match j, hj with
  | 0, _ => rfl
  | 1, _ => rfl
  | 2, _ => rfl
  | 3, _ => rfl
  | 4, _ => rfl
theorem PL_at (b : List UInt8) (j : Nat) (hj : j < 5) {W : World} {g : Nat} (h : LBox W g (PL b j)) : W.cell? ⟨g, 3 + j, none⟩ = some (.int .i64 0) := by
  match j, hj with
  | 0, _ => exact h.c3
  | 1, _ => exact h.c4
  | 2, _ => exact h.c5
  | 3, _ => exact h.c6
  | 4, _ => exact h.c7
theorem PL_full (b : List UInt8) : (PL b 5).cells.setIfInBounds 2 (.string ⟨(b.drop 36).toArray⟩) = (rawL b).cells := rfl

theorem dec_end {w W : World} {g : Nat} {r : LV × Int} {q : LV} {k : Int} {t : Array Value} (hz : LBox W g zeroL) (hB : Below w.heap.size w W) (hg : w.heap.size ≤ g) (hD : r = (q, k)) (h2 : t[2]?.getD undef = .pointer (some ⟨g, 0, none⟩)) (h3 : t[3]?.getD undef = .int .i64 k) :
    bodyPost Try.prog Try.f14 (GivesL w r) .ret { tmps := t, defers := [] } (storeL W g q) := by
  refine bodyPost_ret (v := .tuple #[q.v, .int .i64 k]) ?_ ?_ ?_
  · obtain ⟨r0, r1, r2, r3, r4, r5, r6, r7⟩ := (storeL_box hz q).all
    simp [results, Try.f14, go_sem, h2, h3, r0, r1, r2, r3, r4, r5, r6, r7]
  · rfl
  · rw [hD]
    exact ⟨rfl, hB.trans (storeL_low W _ g hg q)⟩

set_option maxRecDepth 100000 in
set_option maxHeartbeats 4000000 in
theorem decode_any (A : Option Addr) (c : Nat) (b : List UInt8) (w : World) (hb : By w w.heap.size A b) (hbc : b.length ≤ c) (hbl : b.length ≤ 140737488355328) :
    Calls Try.prog 14 #[.slice A b.length c] w (GivesL w (decL b)) := by
  obtain ⟨w0, hw0⟩ : ∃ w0, w0 = w.alloc (.cells #[.int .u32 0, .int .i64 0, .string ⟨#[]⟩, .int .i64 0, .int .i64 0, .int .i64 0, .int .i64 0, .int .i64 0] 25) := ⟨_, rfl⟩
  have HZ : Hid (LBox w0 w.heap.size zeroL) := Lib.hid (by rw [hw0]; exact LBox.new w zeroL)
  have HB0 : Hid (Below w.heap.size w w0) := Lib.hid (by rw [hw0]; exact (Below.refl _ _).alloc (Nat.le_refl _) _)
  have HZ0 : Hid (w0.heap.size = w.heap.size + 1) := Lib.hid (by rw [hw0]; simp)
  have HW0 := Lib.hid hw0
  have HY0 : Hid (∀ V : World, Below w.heap.size w V → By V w.heap.size A b) := Lib.hid (fun V hV => hb.below hV)
  have HD := Lib.hid (dec_iff b)
  clear hw0 hb
  by_cases hsh : b.length < 36
  · have hd : decide ((b.length : Int) < 36) = true := by simp; omega
    have HDD : Hid (decL b = (zeroL, 2)) := Lib.hid (if_neg (by rw [HD.out]; omega))
    obtain ⟨z0, z1, z2, z3, z4, z5, z6, z7⟩ := HZ.out.all
    obtain ⟨f0, f1, f2, f3, f4, f5, f6, f7⟩ := HZ.out.allF
    clear hsh
    go_enter Try.func14, Try.ntmps14
    go_upto_region 1 with fail
    rw [← HW0.out]
    go_wp2
    exact dec_end (q := zeroL) (W := w0) HZ.out HB0.out (Nat.le_refl _) HDD.out rfl rfl
  · have hd : decide ((b.length : Int) < 36) = false := by simp; omega
    have HLen := Lib.hid (Nat.le_of_not_lt hsh)
    obtain ⟨g, hg⟩ : ∃ g, g = w0.heap.size := ⟨_, rfl⟩
    obtain ⟨w1, hw1⟩ : ∃ w1, w1 = w0.alloc (.cells #[.int .u32 0, .int .i64 0, .string ⟨#[]⟩, .int .i64 0, .int .i64 0, .int .i64 0, .int .i64 0, .int .i64 0] 25) := ⟨_, rfl⟩
    have HL1 : Hid (LBox w1 g zeroL) := Lib.hid (by rw [hw1, hg]; exact LBox.new w0 zeroL)
    have hB1 : Below w0.heap.size w0 w1 := by rw [hw1]; exact (Below.refl _ _).alloc (Nat.le_refl _) _
    have HZ1 := Lib.hid (HZ.out.later hB1)
    have HB1 := Lib.hid (HB0.out.trans (hB1.mono HB0.out.size))
    have hgw : w.heap.size ≤ g := by rw [hg, HZ0.out]; omega
    have hgn : w.heap.size ≠ g := by rw [hg, HZ0.out]; omega
    have HG := Lib.hid hg
    have HW1 := Lib.hid hw1
    have HGW := Lib.hid hgw
    have HGN := Lib.hid hgn
    clear hsh hw1 hB1 hg hgw hgn
    go_enter Try.func14, Try.ntmps14
    go_upto_region 1 with fail
    rw [← HW0.out]
    go_upto_region 4 with fail
    rw [← HW1.out, ← HG.out]
    go_wp2_with fail
    refine (take_let _ A c b 4 (by omega) w1 (HY0.out _ HB1.out) hbc (by have := HLen.out; omega)).mono ?_
    rintro e w2 ⟨A2, c2, d2, k2, rfl, HD2, HK2, hk2, hdc2, HY, hB2⟩
    have HY2 : Hid (∀ V : World, Below w.heap.size w V → By V w.heap.size A2 d2) := Lib.hid (fun V hV => HY.out V _ (HY0.out V hV))
    have HL2 := Lib.hid (HL1.out.later hB2)
    have HZ2 := Lib.hid (HZ1.out.later hB2)
    have HB2 := Lib.hid (HB1.out.trans (hB2.mono HB1.out.size))
    clear hB2 HY
    have hwu : IntKind.u32.wrap (k2 : Int) = k2 := by simp [IntKind.wrap, IntKind.bits, IntKind.signed]; omega
    have hwl0 := HL2.out.c0
    have hwf0 := HL2.out.free 0
    obtain ⟨w3, hw3⟩ : ∃ w3, w3 = w2.setCell ⟨g, 0, none⟩ (.int .u32 (k2 : Int)) := ⟨_, rfl⟩
    have HL3 : Hid (LBox w3 g ⟨k2, 0, [], 0, 0, 0, 0, 0⟩) := Lib.hid (by rw [hw3]; exact HL2.out.store 0 _ rfl)
    have HZ3 : Hid (LBox w3 w.heap.size zeroL) := Lib.hid (by rw [hw3]; exact HZ2.out.other HGN.out _)
    have HB3 : Hid (Below w.heap.size w w3) := Lib.hid (by rw [hw3]; exact HB2.out.setCell (p := ⟨g, 0, none⟩) HGW.out _)
    have HW3 := Lib.hid hw3
    have HKb := Lib.hid hk2
    clear hw3 hk2
    go_wp2_with fail
    rw [← HW3.out]
    have hn2 : 32 ≤ d2.length := by rw [HD2.out, List.length_drop]; have := HLen.out; omega
    refine (take_let _ A2 c2 d2 1 (by omega) w3 (HY2.out _ HB3.out) hdc2 (by omega)).mono ?_
    rintro e w4 ⟨A4, c4, d4, k4, rfl, HD4, HK4, hk4, hdc4, HY, hB4⟩
    have HY4 : Hid (∀ V : World, Below w.heap.size w V → By V w.heap.size A4 d4) := Lib.hid (fun V hV => HY.out V _ (HY2.out V hV))
    have HL4 := Lib.hid (HL3.out.later hB4)
    have HZ4 := Lib.hid (HZ3.out.later hB4)
    have HB4 := Lib.hid (HB3.out.trans (hB4.mono HB3.out.size))
    clear hB4 HY hwl0 hwf0 hwu hk4
    have hwl1 := HL4.out.c1
    have hwf1 := HL4.out.free 1
    obtain ⟨w5, hw5⟩ : ∃ w5, w5 = w4.setCell ⟨g, 1, none⟩ (.int .i64 (k4 : Int)) := ⟨_, rfl⟩
    have HL5 : Hid (LBox w5 g (PL b 0)) := Lib.hid (by
      have e2 : k2 = numL (pc b 0 4) := by rw [HK2.out]; rfl
      have e4 : k4 = numL (pc b 4 1) := by rw [HK4.out, HD2.out]; rfl
      rw [hw5]
      refine HL4.out.store 1 _ ?_
      rw [e2, e4]
      rfl)
    have HZ5 : Hid (LBox w5 w.heap.size zeroL) := Lib.hid (by rw [hw5]; exact HZ4.out.other HGN.out _)
    have HB5 : Hid (Below w.heap.size w w5) := Lib.hid (by rw [hw5]; exact HB4.out.setCell (p := ⟨g, 1, none⟩) HGW.out _)
    have HD5 : Hid (d4 = b.drop (5 + 6 * 0)) := Lib.hid (by rw [HD4.out, HD2.out, List.drop_drop])
    have HW5 := Lib.hid hw5
    clear hw5 hn2
    go_wp2_with fail
    rw [← HW5.out]
    refine (times_any _ _).mono ?_
    rintro e w6 ⟨rfl, hB6⟩
    have HL6 := Lib.hid (HL5.out.later hB6)
    have HZ6 := Lib.hid (HZ5.out.later hB6)
    have HB6 := Lib.hid (HB5.out.trans (hB6.mono HB5.out.size))
    clear hB6 hwl1 hwf1
    go_wp2
    go_loopw [6, 8, 29] (fun r _ i wr => ∃ (j : Nat) (A' : Option Addr) (c' : Nat) (d : List UInt8), j ≤ 5 ∧ i = .int .i64 j ∧ r = .slice A' d.length c' ∧ d.length ≤ c' ∧ Hid (d = b.drop (5 + 6 * j)) ∧ Hid (∀ V : World, Below w.heap.size w V → By V w.heap.size A' d) ∧ Hid (LBox wr g (PL b j)) ∧ Hid (LBox wr w.heap.size zeroL) ∧ Hid (Below w.heap.size w wr)) (fun _ _ i _ => 5 - (intOf i).toNat)
    case atStart => exact ⟨0, A4, c4, d4, Nat.zero_le _, rfl, rfl, hdc4, HD5, HY4, HL6, HZ6, HB6⟩
    case round =>
      obtain ⟨j, A', c', d, hj, rfl, rfl, hdc, HDd, HYd, HLr, HZr, HBr⟩ := hrel
      by_cases hlt : j < 5
      · have hix := (T5_at zeroL j hlt)
        obtain ⟨_, _, _, hix⟩ := hix
        have hix := hix g
        have hnd : 6 ≤ d.length := by rw [HDd.out, List.length_drop]; have := HLen.out; omega
        go_wp2_with fail
        refine (take_let _ A' c' d 6 (by omega) wr (HYd.out _ HBr.out) hdc hnd).mono ?_
        rintro e w7 ⟨A7, c7, d7, k7, rfl, HD7, HK7, hk7, hdc7, HY, hB7⟩
        have HY7 : Hid (∀ V : World, Below w.heap.size w V → By V w.heap.size A7 d7) := Lib.hid (fun V hV => HY.out V _ (HYd.out V hV))
        have HL7 := Lib.hid (HLr.out.later hB7)
        have HZ7 := Lib.hid (HZr.out.later hB7)
        have HB7 := Lib.hid (HBr.out.trans (hB7.mono HBr.out.size))
        have HDN : Hid (d7 = b.drop (5 + 6 * (j + 1))) := Lib.hid (by rw [HD7.out, HDd.out, List.drop_drop]; congr 1)
        have HKN : Hid (k7 = numL (pc b (5 + 6 * j) 6)) := Lib.hid (by rw [HK7.out, HDd.out]; rfl)
        have hcj := PL_at b j hlt HL7.out
        have hfj := HL7.out.free (3 + j)
        clear hB7 HY hk7 hix hnd
        go_wp2
        go_roundw
        case rel => exact ⟨j + 1, A7, c7, d7, by omega, by go_num, rfl, hdc7, HDN, HY7, Lib.hid (HL7.out.store (3 + j) _ (PL_next b j hlt k7 HKN.out)), Lib.hid (HZ7.out.other HGN.out _), Lib.hid (HB7.out.setCell (p := ⟨g, 3 + j, none⟩) HGW.out _)⟩
        case measure => simp [intOf]; omega
      · obtain rfl : j = 5 := by omega
        have hnd : 1 ≤ d.length := by rw [HDd.out, List.length_drop]; have := HLen.out; omega
        go_wp2_with fail
        refine (take_let _ A' c' d 1 (by omega) wr (HYd.out _ HBr.out) hdc hnd).mono ?_
        rintro e w7 ⟨A7, c7, d7, k7, rfl, HD7, HK7, hk7, hdc7, HY, hB7⟩
        have HY7 : Hid (∀ V : World, Below w.heap.size w V → By V w.heap.size A7 d7) := Lib.hid (fun V hV => HY.out V _ (HYd.out V hV))
        have HL7 := Lib.hid (HLr.out.later hB7)
        have HZ7 := Lib.hid (HZr.out.later hB7)
        have HB7 := Lib.hid (HBr.out.trans (hB7.mono HBr.out.size))
        have HDN : Hid (d7 = b.drop 36) := Lib.hid (by rw [HD7.out, HDd.out, List.drop_drop])
        have HKN : Hid (k7 = numL (pc b 35 1)) := Lib.hid (by rw [HK7.out, HDd.out]; rfl)
        have HLN : Hid (d7.length = b.length - 36) := Lib.hid (by rw [HDN.out, List.length_drop])
        clear hB7 HY hk7 hnd
        obtain ⟨z0, z1, z2, z3, z4, z5, z6, z7⟩ := HZ7.out.all
        obtain ⟨f0, f1, f2, f3, f4, f5, f6, f7⟩ := HZ7.out.allF
        by_cases hk : d7.length = k7
        rotate_left
        · have hne : ((d7.length : Int) != (k7 : Int)) = true := by simp; omega
          have HDD : Hid (decL b = (zeroL, 2)) := Lib.hid (if_neg (by rw [HD.out]; rintro ⟨_, _, h3⟩; exact hk (by rw [HLN.out, HKN.out, h3])))
          clear hk
          go_wp2
          exact dec_end (q := zeroL) (W := w7) HZ7.out HB7.out (Nat.le_refl _) HDD.out rfl rfl
        · have hne : ((d7.length : Int) != (k7 : Int)) = false := by simp; omega
          have HKL : Hid (numL (pc b 35 1) = b.length - 36) := Lib.hid (by rw [← HKN.out, ← hk, HLN.out])
          clear hk
          have hst := str_run c7 (HY7.out _ HB7.out)
          have hc2 := HL7.out.c2
          have hf2 := HL7.out.free 2
          obtain ⟨w8, hw8⟩ : ∃ w8, w8 = w7.setCell ⟨g, 2, none⟩ (.string ⟨d7.toArray⟩) := ⟨_, rfl⟩
          obtain ⟨q, hq⟩ : ∃ q, q = rawL b := ⟨_, rfl⟩
          have HL8 : Hid (LBox w8 g q) := Lib.hid (by rw [hw8, hq]; exact HL7.out.store 2 _ (by rw [HDN.out]; exact PL_full b))
          have HZ8 : Hid (LBox w8 w.heap.size zeroL) := Lib.hid (by rw [hw8]; exact HZ7.out.other HGN.out _)
          have HB8 : Hid (Below w.heap.size w w8) := Lib.hid (by rw [hw8]; exact HB7.out.setCell (p := ⟨g, 2, none⟩) HGW.out _)
          have HW8 := Lib.hid hw8
          have HQ := Lib.hid hq
          have HRI := Lib.hid (fun W => right_any q W)
          clear hw8 hq z0 z1 z2 z3 z4 z5 z6 z7 f0 f1 f2 f3 f4 f5 f6 f7
          go_upto_region 16 with fail
          rw [← HW8.out]
          obtain ⟨c0, c1, c2', c3, c4, c5, c6, c7'⟩ := HL8.out.all
          go_wp2_with fail
          refine (HRI.out _).mono ?_
          rintro e w9 ⟨rfl, hB9⟩
          have HL9 := Lib.hid (HL8.out.later hB9)
          have HZ9 := Lib.hid (HZ8.out.later hB9)
          have HB9 := Lib.hid (HB8.out.trans (hB9.mono HB8.out.size))
          clear hB9 c0 c1 c2' c3 c4 c5 c6 c7' hst hc2 hf2
          obtain ⟨z0, z1, z2, z3, z4, z5, z6, z7⟩ := HZ9.out.all
          obtain ⟨f0, f1, f2, f3, f4, f5, f6, f7⟩ := HZ9.out.allF
          obtain ⟨x0, x1, x2, x3, x4, x5, x6, x7⟩ := HL9.out.all
          by_cases hr : RightL q
          · have hdr : decide (RightL q) = true := decide_eq_true hr
            have HDD : Hid (decL b = (q, 0)) := Lib.hid (by rw [HQ.out] at hr ⊢; exact if_pos (HD.out.2 ⟨HLen.out, hr, HKL.out⟩))
            clear hr
            go_wp2
            exact dec_end (q := q) (W := w9) HZ9.out HB9.out (Nat.le_refl _) HDD.out rfl rfl
          · have hdr : decide (RightL q) = false := decide_eq_false hr
            have HDD : Hid (decL b = (zeroL, 2)) := Lib.hid (if_neg (by rw [HD.out]; rintro ⟨_, h2, _⟩; exact hr (by rw [HQ.out]; exact h2)))
            clear hr
            go_wp2
            exact dec_end (q := zeroL) (W := w9) HZ9.out HB9.out (Nat.le_refl _) HDD.out rfl rfl
end Go.Proofs.Ytdjbgphcmmcnhaa
