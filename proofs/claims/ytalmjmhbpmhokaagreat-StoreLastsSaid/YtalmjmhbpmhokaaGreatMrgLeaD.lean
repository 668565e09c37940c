/- Joined texts: LeaD, LeaF, LeaU. -/
import Derived.Test.YtalmjmhbpmhokaaGreatMrgLeaP

/- lease.Decode. -/
section
namespace Go.Proofs.YtalmjmhbpmhokaaGreat
open Go.RowKit Go.Sort

/-- A lease and an error's number are answered; nothing that lay has turned. -/
def GivesLv (w : World) (r : LV × Int) (e : Ending) (w' : World) : Prop := e = .returned (.tuple #[r.1.v, .int .i64 r.2]) ∧ Below w.heap.size w w'

/-- The lease that bytes tell, its client and its later times not yet filled in. -/
def PL (b : List UInt8) (j : Nat) : LV :=
  ⟨numL (pc b 0 4), numL (pc b 4 1), [], if 0 < j then numL (pc b 5 6) else 0, if 1 < j then numL (pc b 11 6) else 0, if 2 < j then numL (pc b 17 6) else 0, if 3 < j then numL (pc b 23 6) else 0, if 4 < j then numL (pc b 29 6) else 0⟩
theorem PL_next (b : List UInt8) (j : Nat) (hj : j < 5) (k : Nat) (hk : k = numL (pc b (5 + 6 * j) 6)) : (PL b j).cells.setIfInBounds (3 + j) (.int .i64 (k : Int)) = (PL b (j + 1)).cells := by
  subst hk
  match j, hj with
  | 0, _ => rfl
  | 1, _ => rfl
  | 2, _ => rfl
  | 3, _ => rfl
  | 4, _ => rfl
theorem PL_at (b : List UInt8) (j : Nat) (hj : j < 5) {W : World} {g : Nat} (h : LBox W g (PL b j)) : W.cell? ⟨g, 3 + j, none⟩ = some (.int .i64 0) := by
  match j, hj with
  | 0, _ => exact h.c3
  | 1, _ => exact h.c4
  | 2, _ => exact h.c5
  | 3, _ => exact h.c6
  | 4, _ => exact h.c7
theorem PL_full (b : List UInt8) : (PL b 5).cells.setIfInBounds 2 (.string ⟨(b.drop 36).toArray⟩) = (rawL b).cells := rfl

theorem dec_end {w W : World} {g : Nat} {r : LV × Int} {q : LV} {k : Int} {t : Array Value} (hz : LBox W g zeroL) (hB : Below w.heap.size w W) (hg : w.heap.size ≤ g) (hD : r = (q, k)) (h2 : t[2]?.getD undef = .pointer (some ⟨g, 0, none⟩)) (h3 : t[3]?.getD undef = .int .i64 k) :
    bodyPost Tryz.prog Tryz.f95 (GivesLv w r) .ret { tmps := t, defers := [] } (storeL W g q) := by
  refine bodyPost_ret (v := .tuple #[q.v, .int .i64 k]) ?_ ?_ ?_
  · obtain ⟨r0, r1, r2, r3, r4, r5, r6, r7⟩ := (storeL_box hz q).all
    simp [results, Tryz.f95, go_sem, h2, h3, r0, r1, r2, r3, r4, r5, r6, r7]
  · rfl
  · rw [hD]
    exact ⟨rfl, hB.trans (storeL_low W _ g hg q)⟩

set_option maxRecDepth 100000 in
set_option maxHeartbeats 4000000 in
theorem decode_any (A : Option Addr) (c : Nat) (b : List UInt8) (w : World) (hb : By w w.heap.size A b) (hbc : b.length ≤ c) (hbl : b.length ≤ 140737488355328) :
    Calls Tryz.prog 95 #[.slice A b.length c] w (GivesLv w (decL b)) := by
  obtain ⟨w0, hw0⟩ : ∃ w0, w0 = w.alloc (.cells #[.int .u32 0, .int .i64 0, .string ⟨#[]⟩, .int .i64 0, .int .i64 0, .int .i64 0, .int .i64 0, .int .i64 0] 45) := ⟨_, rfl⟩
  have HZ : Hid (LBox w0 w.heap.size zeroL) := Lib.hid (by rw [hw0]; exact LBox.new w zeroL)
  have HB0 : Hid (Below w.heap.size w w0) := Lib.hid (by rw [hw0]; exact (Below.refl _ _).alloc (Nat.le_refl _) _)
  have HZ0 : Hid (w0.heap.size = w.heap.size + 1) := Lib.hid (by rw [hw0]; simp)
  have HW0 := Lib.hid hw0
  have HY0 : Hid (∀ V : World, Below w.heap.size w V → By V w.heap.size A b) := Lib.hid (fun V hV => hb.below hV)
  have HD := Lib.hid (dec_iff b)
  clear hw0 hb
  by_cases hsh : b.length < 36
  · have hd : decide ((b.length : Int) < 36) = true := by simp; omega
    have HDD : Hid (decL b = (zeroL, 2)) := Lib.hid (if_neg (by rw [HD.out]; omega))
    obtain ⟨z0, z1, z2, z3, z4, z5, z6, z7⟩ := HZ.out.all
    obtain ⟨f0, f1, f2, f3, f4, f5, f6, f7⟩ := HZ.out.allF
    clear hsh
    go_enter Tryz.func95, Tryz.ntmps95
    go_upto_region 1 with fail
    rw [← HW0.out]
    go_wp2
    exact dec_end (q := zeroL) (W := w0) HZ.out HB0.out (Nat.le_refl _) HDD.out rfl rfl
  · have hd : decide ((b.length : Int) < 36) = false := by simp; omega
    have HLen := Lib.hid (Nat.le_of_not_lt hsh)
    obtain ⟨g, hg⟩ : ∃ g, g = w0.heap.size := ⟨_, rfl⟩
    obtain ⟨w1, hw1⟩ : ∃ w1, w1 = w0.alloc (.cells #[.int .u32 0, .int .i64 0, .string ⟨#[]⟩, .int .i64 0, .int .i64 0, .int .i64 0, .int .i64 0, .int .i64 0] 45) := ⟨_, rfl⟩
    have HL1 : Hid (LBox w1 g zeroL) := Lib.hid (by rw [hw1, hg]; exact LBox.new w0 zeroL)
    have hB1 : Below w0.heap.size w0 w1 := by rw [hw1]; exact (Below.refl _ _).alloc (Nat.le_refl _) _
    have HZ1 := Lib.hid (HZ.out.later hB1)
    have HB1 := Lib.hid (HB0.out.trans (hB1.mono HB0.out.size))
    have hgw : w.heap.size ≤ g := by rw [hg, HZ0.out]; omega
    have hgn : w.heap.size ≠ g := by rw [hg, HZ0.out]; omega
    have HG := Lib.hid hg
    have HW1 := Lib.hid hw1
    have HGW := Lib.hid hgw
    have HGN := Lib.hid hgn
    clear hsh hw1 hB1 hg hgw hgn
    go_enter Tryz.func95, Tryz.ntmps95
    go_upto_region 1 with fail
    rw [← HW0.out]
    go_upto_region 4 with fail
    rw [← HW1.out, ← HG.out]
    go_wp2_with fail
    refine (take_let _ A c b 4 (by omega) w1 (HY0.out _ HB1.out) hbc (by have := HLen.out; omega)).mono ?_
    rintro e w2 ⟨A2, c2, d2, k2, rfl, HD2, HK2, hk2, hdc2, HY, hB2⟩
    have HY2 : Hid (∀ V : World, Below w.heap.size w V → By V w.heap.size A2 d2) := Lib.hid (fun V hV => HY.out V _ (HY0.out V hV))
    have HL2 := Lib.hid (HL1.out.later hB2)
    have HZ2 := Lib.hid (HZ1.out.later hB2)
    have HB2 := Lib.hid (HB1.out.trans (hB2.mono HB1.out.size))
    clear hB2 HY
    have hwu : IntKind.u32.wrap (k2 : Int) = k2 := by simp [IntKind.wrap, IntKind.bits, IntKind.signed]; omega
    have hwl0 := HL2.out.c0
    have hwf0 := HL2.out.free 0
    obtain ⟨w3, hw3⟩ : ∃ w3, w3 = w2.setCell ⟨g, 0, none⟩ (.int .u32 (k2 : Int)) := ⟨_, rfl⟩
    have HL3 : Hid (LBox w3 g ⟨k2, 0, [], 0, 0, 0, 0, 0⟩) := Lib.hid (by rw [hw3]; exact HL2.out.store 0 _ rfl)
    have HZ3 : Hid (LBox w3 w.heap.size zeroL) := Lib.hid (by rw [hw3]; exact HZ2.out.other HGN.out _)
    have HB3 : Hid (Below w.heap.size w w3) := Lib.hid (by rw [hw3]; exact HB2.out.setCell (p := ⟨g, 0, none⟩) HGW.out _)
    have HW3 := Lib.hid hw3
    have HKb := Lib.hid hk2
    clear hw3 hk2
    go_wp2_with fail
    rw [← HW3.out]
    have hn2 : 32 ≤ d2.length := by rw [HD2.out, List.length_drop]; have := HLen.out; omega
    refine (take_let _ A2 c2 d2 1 (by omega) w3 (HY2.out _ HB3.out) hdc2 (by omega)).mono ?_
    rintro e w4 ⟨A4, c4, d4, k4, rfl, HD4, HK4, hk4, hdc4, HY, hB4⟩
    have HY4 : Hid (∀ V : World, Below w.heap.size w V → By V w.heap.size A4 d4) := Lib.hid (fun V hV => HY.out V _ (HY2.out V hV))
    have HL4 := Lib.hid (HL3.out.later hB4)
    have HZ4 := Lib.hid (HZ3.out.later hB4)
    have HB4 := Lib.hid (HB3.out.trans (hB4.mono HB3.out.size))
    clear hB4 HY hwl0 hwf0 hwu hk4
    have hwl1 := HL4.out.c1
    have hwf1 := HL4.out.free 1
    obtain ⟨w5, hw5⟩ : ∃ w5, w5 = w4.setCell ⟨g, 1, none⟩ (.int .i64 (k4 : Int)) := ⟨_, rfl⟩
    have HL5 : Hid (LBox w5 g (PL b 0)) := Lib.hid (by
      have e2 : k2 = numL (pc b 0 4) := by rw [HK2.out]; rfl
      have e4 : k4 = numL (pc b 4 1) := by rw [HK4.out, HD2.out]; rfl
      rw [hw5]
      refine HL4.out.store 1 _ ?_
      rw [e2, e4]
      rfl)
    have HZ5 : Hid (LBox w5 w.heap.size zeroL) := Lib.hid (by rw [hw5]; exact HZ4.out.other HGN.out _)
    have HB5 : Hid (Below w.heap.size w w5) := Lib.hid (by rw [hw5]; exact HB4.out.setCell (p := ⟨g, 1, none⟩) HGW.out _)
    have HD5 : Hid (d4 = b.drop (5 + 6 * 0)) := Lib.hid (by rw [HD4.out, HD2.out, List.drop_drop])
    have HW5 := Lib.hid hw5
    clear hw5 hn2
    go_wp2_with fail
    rw [← HW5.out]
    refine (times_any _ _).mono ?_
    rintro e w6 ⟨rfl, hB6⟩
    have HL6 := Lib.hid (HL5.out.later hB6)
    have HZ6 := Lib.hid (HZ5.out.later hB6)
    have HB6 := Lib.hid (HB5.out.trans (hB6.mono HB5.out.size))
    clear hB6 hwl1 hwf1
    go_wp2
    go_loopw [6, 8, 29] (fun r _ i wr => ∃ (j : Nat) (A' : Option Addr) (c' : Nat) (d : List UInt8), j ≤ 5 ∧ i = .int .i64 j ∧ r = .slice A' d.length c' ∧ d.length ≤ c' ∧ Hid (d = b.drop (5 + 6 * j)) ∧ Hid (∀ V : World, Below w.heap.size w V → By V w.heap.size A' d) ∧ Hid (LBox wr g (PL b j)) ∧ Hid (LBox wr w.heap.size zeroL) ∧ Hid (Below w.heap.size w wr)) (fun _ _ i _ => 5 - (intOf i).toNat)
    case atStart => exact ⟨0, A4, c4, d4, Nat.zero_le _, rfl, rfl, hdc4, HD5, HY4, HL6, HZ6, HB6⟩
    case round =>
      obtain ⟨j, A', c', d, hj, rfl, rfl, hdc, HDd, HYd, HLr, HZr, HBr⟩ := hrel
      by_cases hlt : j < 5
      · have hix := (T5_at zeroL j hlt)
        obtain ⟨_, _, _, hix⟩ := hix
        have hix := hix g
        have hnd : 6 ≤ d.length := by rw [HDd.out, List.length_drop]; have := HLen.out; omega
        go_wp2_with fail
        refine (take_let _ A' c' d 6 (by omega) wr (HYd.out _ HBr.out) hdc hnd).mono ?_
        rintro e w7 ⟨A7, c7, d7, k7, rfl, HD7, HK7, hk7, hdc7, HY, hB7⟩
        have HY7 : Hid (∀ V : World, Below w.heap.size w V → By V w.heap.size A7 d7) := Lib.hid (fun V hV => HY.out V _ (HYd.out V hV))
        have HL7 := Lib.hid (HLr.out.later hB7)
        have HZ7 := Lib.hid (HZr.out.later hB7)
        have HB7 := Lib.hid (HBr.out.trans (hB7.mono HBr.out.size))
        have HDN : Hid (d7 = b.drop (5 + 6 * (j + 1))) := Lib.hid (by rw [HD7.out, HDd.out, List.drop_drop]; congr 1)
        have HKN : Hid (k7 = numL (pc b (5 + 6 * j) 6)) := Lib.hid (by rw [HK7.out, HDd.out]; rfl)
        have hcj := PL_at b j hlt HL7.out
        have hfj := HL7.out.free (3 + j)
        clear hB7 HY hk7 hix hnd
        go_wp2
        go_roundw
        case rel => exact ⟨j + 1, A7, c7, d7, by omega, by go_num, rfl, hdc7, HDN, HY7, Lib.hid (HL7.out.store (3 + j) _ (PL_next b j hlt k7 HKN.out)), Lib.hid (HZ7.out.other HGN.out _), Lib.hid (HB7.out.setCell (p := ⟨g, 3 + j, none⟩) HGW.out _)⟩
        case measure => simp [intOf]; omega
      · obtain rfl : j = 5 := by omega
        have hnd : 1 ≤ d.length := by rw [HDd.out, List.length_drop]; have := HLen.out; omega
        go_wp2_with fail
        refine (take_let _ A' c' d 1 (by omega) wr (HYd.out _ HBr.out) hdc hnd).mono ?_
        rintro e w7 ⟨A7, c7, d7, k7, rfl, HD7, HK7, hk7, hdc7, HY, hB7⟩
        have HY7 : Hid (∀ V : World, Below w.heap.size w V → By V w.heap.size A7 d7) := Lib.hid (fun V hV => HY.out V _ (HYd.out V hV))
        have HL7 := Lib.hid (HLr.out.later hB7)
        have HZ7 := Lib.hid (HZr.out.later hB7)
        have HB7 := Lib.hid (HBr.out.trans (hB7.mono HBr.out.size))
        have HDN : Hid (d7 = b.drop 36) := Lib.hid (by rw [HD7.out, HDd.out, List.drop_drop])
        have HKN : Hid (k7 = numL (pc b 35 1)) := Lib.hid (by rw [HK7.out, HDd.out]; rfl)
        have HLN : Hid (d7.length = b.length - 36) := Lib.hid (by rw [HDN.out, List.length_drop])
        clear hB7 HY hk7 hnd
        obtain ⟨z0, z1, z2, z3, z4, z5, z6, z7⟩ := HZ7.out.all
        obtain ⟨f0, f1, f2, f3, f4, f5, f6, f7⟩ := HZ7.out.allF
        by_cases hk : d7.length = k7
        rotate_left
        · have hne : ((d7.length : Int) != (k7 : Int)) = true := by simp; omega
          have HDD : Hid (decL b = (zeroL, 2)) := Lib.hid (if_neg (by rw [HD.out]; rintro ⟨_, _, h3⟩; exact hk (by rw [HLN.out, HKN.out, h3])))
          clear hk
          go_wp2
          exact dec_end (q := zeroL) (W := w7) HZ7.out HB7.out (Nat.le_refl _) HDD.out rfl rfl
        · have hne : ((d7.length : Int) != (k7 : Int)) = false := by simp; omega
          have HKL : Hid (numL (pc b 35 1) = b.length - 36) := Lib.hid (by rw [← HKN.out, ← hk, HLN.out])
          clear hk
          have hst := str_run c7 (HY7.out _ HB7.out)
          have hc2 := HL7.out.c2
          have hf2 := HL7.out.free 2
          obtain ⟨w8, hw8⟩ : ∃ w8, w8 = w7.setCell ⟨g, 2, none⟩ (.string ⟨d7.toArray⟩) := ⟨_, rfl⟩
          obtain ⟨q, hq⟩ : ∃ q, q = rawL b := ⟨_, rfl⟩
          have HL8 : Hid (LBox w8 g q) := Lib.hid (by rw [hw8, hq]; exact HL7.out.store 2 _ (by rw [HDN.out]; exact PL_full b))
          have HZ8 : Hid (LBox w8 w.heap.size zeroL) := Lib.hid (by rw [hw8]; exact HZ7.out.other HGN.out _)
          have HB8 : Hid (Below w.heap.size w w8) := Lib.hid (by rw [hw8]; exact HB7.out.setCell (p := ⟨g, 2, none⟩) HGW.out _)
          have HW8 := Lib.hid hw8
          have HQ := Lib.hid hq
          have HRI := Lib.hid (fun W => right_any q W)
          clear hw8 hq z0 z1 z2 z3 z4 z5 z6 z7 f0 f1 f2 f3 f4 f5 f6 f7
          go_upto_region 16 with fail
          rw [← HW8.out]
          obtain ⟨c0, c1, c2', c3, c4, c5, c6, c7'⟩ := HL8.out.all
          go_wp2_with fail
          refine (HRI.out _).mono ?_
          rintro e w9 ⟨rfl, hB9⟩
          have HL9 := Lib.hid (HL8.out.later hB9)
          have HZ9 := Lib.hid (HZ8.out.later hB9)
          have HB9 := Lib.hid (HB8.out.trans (hB9.mono HB8.out.size))
          clear hB9 c0 c1 c2' c3 c4 c5 c6 c7' hst hc2 hf2
          obtain ⟨z0, z1, z2, z3, z4, z5, z6, z7⟩ := HZ9.out.all
          obtain ⟨f0, f1, f2, f3, f4, f5, f6, f7⟩ := HZ9.out.allF
          obtain ⟨x0, x1, x2, x3, x4, x5, x6, x7⟩ := HL9.out.all
          by_cases hr : RightL q
          · have hdr : decide (RightL q) = true := decide_eq_true hr
            have HDD : Hid (decL b = (q, 0)) := Lib.hid (by rw [HQ.out] at hr ⊢; exact if_pos (HD.out.2 ⟨HLen.out, hr, HKL.out⟩))
            clear hr
            go_wp2
            exact dec_end (q := q) (W := w9) HZ9.out HB9.out (Nat.le_refl _) HDD.out rfl rfl
          · have hdr : decide (RightL q) = false := decide_eq_false hr
            have HDD : Hid (decL b = (zeroL, 2)) := Lib.hid (if_neg (by rw [HD.out]; rintro ⟨_, h2, _⟩; exact hr (by rw [HQ.out]; exact h2)))
            clear hr
            go_wp2
            exact dec_end (q := zeroL) (W := w9) HZ9.out HB9.out (Nat.le_refl _) HDD.out rfl rfl
end Go.Proofs.YtalmjmhbpmhokaaGreat
end

/- lessorref11.Encode. -/
section
namespace Go.Proofs.YtalmjmhbpmhokaaGreat
open Go.RowKit Go.Sort

theorem rowQ {w w2 : World} {o : Obj} {v : Value} {l : List UInt8} (h : Row (w.alloc o).drew w2 v l) : Row w w2 v l := h.base ((Below.refl _ w).alloc (Nat.le_refl _) _).drew
theorem rowD {w w2 : World} {v : Value} {l : List UInt8} (h : Row w.drew w2 v l) : Row w w2 v l := h.base ⟨rfl, rfl, rfl, Nat.le_refl _, fun _ _ => rfl⟩

set_option maxRecDepth 100000 in
set_option maxHeartbeats 4000000 in
theorem rencode_any (m : LV) (ha : m.addr < 4294967296) (w : World) :
    Calls Tryz.prog 107 #[m.v] w (GivesB w (encRL m).1 (encRL m).2) := by
  obtain ⟨w0, hw0⟩ : ∃ w0, w0 = w.alloc (lbox m) := ⟨_, rfl⟩
  have HX : Hid (LBox w0 w.heap.size m) := Lib.hid (by rw [hw0]; exact LBox.new w m)
  have HB0 : Hid (Below w.heap.size w w0) := Lib.hid (by rw [hw0]; exact (Below.refl _ _).alloc (Nat.le_refl _) _)
  have HW0 := Lib.hid hw0
  have HR := Lib.hid (fun W => rright_any m W)
  clear hw0
  by_cases hr : RightL m
  rotate_left
  · have HE := Lib.hid (show encRL m = ([], 1) by simp [encRL, hr])
    simp only [decide_eq_false hr] at HR
    clear hr
    obtain ⟨c0, c1, c2, c3, c4, c5, c6, c7⟩ := HX.out.all
    go_enter Tryz.func107, Tryz.ntmps107
    go_wp2_with fail
    rw [← HW0.out]
    refine (HR.out _).mono ?_
    rintro e w1 ⟨rfl, hB1⟩
    go_wp2
    go_ret2
    rw [HE.out]
    exact ⟨none, 0, rfl, By.nil, Nat.le_refl _, HB0.out.trans (hB1.mono HB0.out.size)⟩
  · have HE := Lib.hid (show encRL m = (encL m, 0) by simp [encRL, hr])
    simp only [decide_eq_true hr] at HR
    have hcs := hr.short
    have hb0 := hr.b0
    have hb1 : m.bind < 256 := by have := hr.b1; omega
    have hz1 : m.cb.size < 256 := by rw [m.cb_size]; omega
    have hz2 : ∀ k : Nat, k ≤ 37 + 1 → k + m.cb.size ≤ 140737488355328 := fun k hk => by rw [m.cb_size]; omega
    have hwa : IntKind.i64.wrap (m.addr : Int) = m.addr := by rw [IntKind.wrap_i64]; omega
    have hwb : IntKind.u8.wrap m.bind = m.bind := by simp [IntKind.wrap, IntKind.bits, IntKind.signed]; omega
    have HN0 : Hid (∀ W, Calls Tryz.prog 128 #[.int .i64 (m.addr : Int), .int .i64 4] W fun e w' => ∃ A c d, e = .returned (.slice A d.length c) ∧ Hid (d = beL (m.addr : Int).toNat 4) ∧ d.length ≤ 6 ∧ Row W w' (.slice A d.length c) d) := Lib.hid (fun W => rnum_row (m.addr : Int) (by omega) (by omega) 4 (by omega) (by omega) W)
    have HN3 : Hid (∀ W, Calls Tryz.prog 128 #[.int .i64 m.unt, .int .i64 6] W fun e w' => ∃ A c d, e = .returned (.slice A d.length c) ∧ Hid (d = beL m.unt.toNat 6) ∧ d.length ≤ 6 ∧ Row W w' (.slice A d.length c) d) := Lib.hid (fun W => rnum_row m.unt hr.unt.1 (by have := hr.unt.2; omega) 6 (by omega) (by omega) W)
    have HN4 : Hid (∀ W, Calls Tryz.prog 128 #[.int .i64 m.acked, .int .i64 6] W fun e w' => ∃ A c d, e = .returned (.slice A d.length c) ∧ Hid (d = beL m.acked.toNat 6) ∧ d.length ≤ 6 ∧ Row W w' (.slice A d.length c) d) := Lib.hid (fun W => rnum_row m.acked hr.acked.1 (by have := hr.acked.2; omega) 6 (by omega) (by omega) W)
    have HN5 : Hid (∀ W, Calls Tryz.prog 128 #[.int .i64 m.told, .int .i64 6] W fun e w' => ∃ A c d, e = .returned (.slice A d.length c) ∧ Hid (d = beL m.told.toNat 6) ∧ d.length ≤ 6 ∧ Row W w' (.slice A d.length c) d) := Lib.hid (fun W => rnum_row m.told hr.told.1 (by have := hr.told.2; omega) 6 (by omega) (by omega) W)
    have HN6 : Hid (∀ W, Calls Tryz.prog 128 #[.int .i64 m.at_, .int .i64 6] W fun e w' => ∃ A c d, e = .returned (.slice A d.length c) ∧ Hid (d = beL m.at_.toNat 6) ∧ d.length ≤ 6 ∧ Row W w' (.slice A d.length c) d) := Lib.hid (fun W => rnum_row m.at_ hr.at_.1 (by have := hr.at_.2; omega) 6 (by omega) (by omega) W)
    have HN7 : Hid (∀ W, Calls Tryz.prog 128 #[.int .i64 m.ver, .int .i64 6] W fun e w' => ∃ A c d, e = .returned (.slice A d.length c) ∧ Hid (d = beL m.ver.toNat 6) ∧ d.length ≤ 6 ∧ Row W w' (.slice A d.length c) d) := Lib.hid (fun W => rnum_row m.ver hr.ver.1 (by have := hr.ver.2; omega) 6 (by omega) (by omega) W)
    have hwc : IntKind.u8.wrap (m.cb.size : Int) = m.cb.size := by rw [m.cb_size]; simp [IntKind.wrap, IntKind.bits, IntKind.signed]; omega
    clear hr
    obtain ⟨c0, c1, c2, c3, c4, c5, c6, c7⟩ := HX.out.all
    go_enter Tryz.func107, Tryz.ntmps107
    go_wp2_with fail
    rw [← HW0.out]
    refine (HR.out _).mono ?_
    rintro e w1 ⟨rfl, hB1⟩
    clear c0 c1 c2 c3 c4 c5 c6 c7
    have HX1 := Lib.hid (HX.out.later hB1)
    have HB1 := Lib.hid (HB0.out.trans (hB1.mono HB0.out.size))
    clear hB1
    go_upto_region 4 with fail
    go_cut [5] (fun s5 wx => ∃ A c l, s5 = .slice A l.length c ∧ Hid (l = beL m.addr 4 ++ [UInt8.ofNat m.bind.toNat]) ∧ l.length ≤ 7 ∧ Row w1 wx (.slice A l.length c) l)
    case first =>
      have c0 := HX1.out.c0
      have c1 := HX1.out.c1
      go_region_held3 (fun w' => w'.cell? ⟨w.heap.size, 0, none⟩ = some (.int .u32 (m.addr : Int)) ∧ w'.cell? ⟨w.heap.size, 1, none⟩ = some (.int .i64 m.bind))
        (first | go_keep | exact ⟨(HX1.out.later hB2).c0, (HX1.out.later hB2).c1⟩ | exact ⟨(HX1.out.later hR3.low).c0, (HX1.out.later hR3.low).c1⟩)
        (first
          | (go_at_call 128; (with_reducible refine (HN0.out _).mono ?_); rintro e w2 ⟨A1, k1, d1, rfl, HD1, hd1, hRc⟩; have hBc := hRc.low; have hR1 := (by first | exact rowQ hRc | exact rowD hRc | exact hRc : Row w1 w2 (.slice A1 d1.length k1) d1); have hB2 := hR1.low; have hx2 := fun h => (newA w1 w2 m.bind hb0 hb1 h).1)
          | (refine step_rowV rfl (.tmp 13) (.tmp 17) rfl rfl hR1 [UInt8.ofNat m.bind.toNat] rfl rfl (hx2 hBc) 6 1 hd1 (Nat.le_refl _) (by omega) ?_; intro A3 k3 w3 l3 HL3 hl3 hR3 hk3 hby3 hg3)
          | (refine step_rowV rfl (.tmp 13) (.tmp 17) rfl rfl (hR1.alloc _) [UInt8.ofNat m.bind.toNat] rfl rfl (oneI w2 _ m.bind hb0 hb1) 6 1 hd1 (Nat.le_refl _) (by omega) ?_; intro A3 k3 w3 l3 HL3 hl3 hR3 hk3 hby3 hg3))
      all_goals
        go_wp2_with fail
        go_meet
        exact ⟨A3, k3, l3, rfl, Lib.hid (by rw [HL3.out, HD1.out]; rfl), hl3, hR3⟩
    case rest =>
      obtain ⟨A3, k3, l3, hs5, HL3, hl3, R3⟩ := hcut
      subst hs5
      have c3 := (HX1.out.later R3.low).c3
      go_wp2_with fail
      refine (HN3.out _).mono ?_
      rintro e v5 ⟨B5, b5, d5, rfl, HD5, hd5, hQ5⟩
      have S5 := R3.later hQ5.low
      have hy5 := By.of_own hQ5.own
      clear R3 c3 hQ5
      go_wp2_with (at_builtin; refine wpList_rowV rfl (.tmp 19) (.tmp 22) rfl rfl S5 d5 rfl rfl hy5 7 6 hl3 hd5 (by omega) ?_; intro A5 k5 w5 l5 HL5 hl5 R5 _ _; have c4 := (HX1.out.later R5.low).c4)
      clear S5 hy5
      go_wp2_with fail
      refine (HN4.out _).mono ?_
      rintro e v6 ⟨B6, b6, d6, rfl, HD6, hd6, hQ6⟩
      have S6 := R5.later hQ6.low
      have hy6 := By.of_own hQ6.own
      clear R5 c4 hQ6
      go_wp2_with (at_builtin; refine wpList_rowV rfl (.tmp 24) (.tmp 27) rfl rfl S6 d6 rfl rfl hy6 13 6 hl5 hd6 (by omega) ?_; intro A6 k6 w6 l6 HL6 hl6 R6 _ _; have c5 := (HX1.out.later R6.low).c5)
      clear S6 hy6
      go_wp2_with fail
      refine (HN5.out _).mono ?_
      rintro e v7 ⟨B7, b7, d7, rfl, HD7, hd7, hQ7⟩
      have S7 := R6.later hQ7.low
      have hy7 := By.of_own hQ7.own
      clear R6 c5 hQ7
      go_wp2_with (at_builtin; refine wpList_rowV rfl (.tmp 29) (.tmp 32) rfl rfl S7 d7 rfl rfl hy7 19 6 hl6 hd7 (by omega) ?_; intro A7 k7 w7 l7 HL7 hl7 R7 _ _; have c6 := (HX1.out.later R7.low).c6)
      clear S7 hy7
      go_wp2_with fail
      refine (HN6.out _).mono ?_
      rintro e v8 ⟨B8, b8, d8, rfl, HD8, hd8, hQ8⟩
      have S8 := R7.later hQ8.low
      have hy8 := By.of_own hQ8.own
      clear R7 c6 hQ8
      go_wp2_with (at_builtin; refine wpList_rowV rfl (.tmp 34) (.tmp 37) rfl rfl S8 d8 rfl rfl hy8 25 6 hl7 hd8 (by omega) ?_; intro A8 k8 w8 l8 HL8 hl8 R8 _ _; have c7 := (HX1.out.later R8.low).c7)
      clear S8 hy8
      go_wp2_with fail
      refine (HN7.out _).mono ?_
      rintro e v9 ⟨B9, b9, d9, rfl, HD9, hd9, hQ9⟩
      have S9 := R8.later hQ9.low
      have hy9 := By.of_own hQ9.own
      clear R8 c7 hQ9
      go_wp2_with (first
        | (at_builtin; refine wpList_rowV rfl (.tmp 39) (.tmp 42) rfl rfl S9 d9 rfl rfl hy9 31 6 hl8 hd9 (by omega) ?_; intro A9 k9 w9 l9 HL9 hl9 R9 _ _; have c2 := (HX1.out.later R9.low).c2)
        | (at_builtin; refine wpList_rowV rfl (.tmp 44) (.tmp 49) rfl rfl (R9.alloc _) [UInt8.ofNat m.cb.size] rfl rfl (oneN w9 _ m.cb.size hz1) 37 1 hl9 (Nat.le_refl _) (by omega) ?_; intro A10 k10 w10 l10 HL10 hl10 R10 _ _; have d2 := (HX1.out.later R10.low).c2)
        | (at_builtin; refine wpList_rowStr rfl (.tmp 51) (.tmp 53) rfl rfl R10 m.cb rfl (hz2 _ hl10) ?_; intro A11 k11 w11 l11 HL11 R11 hk11 hby11))
      have HL : Hid (encL m = l11) := Lib.hid (by rw [HL11.out, HL10.out, HL9.out, HL8.out, HL7.out, HL6.out, HL5.out, HL3.out, HD5.out, HD6.out, HD7.out, HD8.out, HD9.out, m.cb_data, m.cb_size]; simp [encL])
      go_ret2
      rw [HE.out]
      show GivesB _ (encL m) 0 _ _
      rw [HL.out]
      exact ⟨A11, k11, rfl, hby11, hk11, HB1.out.trans (R11.low.mono HB1.out.size)⟩
end Go.Proofs.YtalmjmhbpmhokaaGreat
end

/- lessorref11.Decode. -/
section
namespace Go.Proofs.YtalmjmhbpmhokaaGreat
open Go.RowKit Go.Sort

theorem rdec_end {w W : World} {g : Nat} {r : LV × Int} {q : LV} {k : Int} {t : Array Value} (hz : LBox W g zeroL) (hB : Below w.heap.size w W) (hg : w.heap.size ≤ g) (hD : r = (q, k)) (h2 : t[2]?.getD undef = .pointer (some ⟨g, 0, none⟩)) (h3 : t[3]?.getD undef = .int .i64 k) :
    bodyPost Tryz.prog Tryz.f79 (GivesLv w r) .ret { tmps := t, defers := [] } (storeL W g q) := by
  refine bodyPost_ret (v := .tuple #[q.v, .int .i64 k]) ?_ ?_ ?_
  · obtain ⟨r0, r1, r2, r3, r4, r5, r6, r7⟩ := (storeL_box hz q).all
    simp [results, Tryz.f79, go_sem, h2, h3, r0, r1, r2, r3, r4, r5, r6, r7]
  · rfl
  · rw [hD]
    exact ⟨rfl, hB.trans (storeL_low W _ g hg q)⟩
theorem By.head {w : World} {B : Nat} {A : Option Addr} {l : List UInt8} (h : By w B A l) : ∀ x r, l = x :: r → ∃ g o, A = some ⟨g, o, none⟩ ∧ g < B := fun x r e => by
  obtain ⟨b, o, h1, h2, _⟩ := h.at_ 0 x (by rw [e]; rfl)
  exact ⟨b, o, h1, h2⟩

set_option maxRecDepth 100000 in
set_option maxHeartbeats 4000000 in
theorem rdecode_any (A : Option Addr) (c : Nat) (b : List UInt8) (w : World) (hb : By w w.heap.size A b) (hbc : b.length ≤ c) (hbl : b.length ≤ 140737488355328) :
    Calls Tryz.prog 79 #[.slice A b.length c] w (GivesLv w (decL b)) := by
  obtain ⟨w0, hw0⟩ : ∃ w0, w0 = w.alloc (.cells #[.int .u32 0, .int .i64 0, .string ⟨#[]⟩, .int .i64 0, .int .i64 0, .int .i64 0, .int .i64 0, .int .i64 0] 45) := ⟨_, rfl⟩
  have HZ : Hid (LBox w0 w.heap.size zeroL) := Lib.hid (by rw [hw0]; exact LBox.new w zeroL)
  have HB0 : Hid (Below w.heap.size w w0) := Lib.hid (by rw [hw0]; exact (Below.refl _ _).alloc (Nat.le_refl _) _)
  have HW0 := Lib.hid hw0
  have hby := hb.later HB0.out
  clear hw0 hb
  by_cases hsh : b.length < 36
  · have hd : decide ((b.length : Int) < 36) = true := by simp; omega
    have HDD : Hid (decL b = (zeroL, 2)) := Lib.hid (if_neg (fun h => by have := h.1; omega))
    obtain ⟨z0, z1, z2, z3, z4, z5, z6, z7⟩ := HZ.out.all
    obtain ⟨f0, f1, f2, f3, f4, f5, f6, f7⟩ := HZ.out.allF
    clear hsh
    go_enter Tryz.func79, Tryz.ntmps79
    go_upto_region 1 with fail
    rw [← HW0.out]
    go_wp2
    exact rdec_end (q := zeroL) (W := w0) HZ.out HB0.out (Nat.le_refl _) HDD.out rfl rfl
  · have hd : decide ((b.length : Int) < 36) = false := by simp; omega
    have hlen : 36 ≤ b.length := Nat.le_of_not_lt hsh
    clear hsh
    obtain ⟨y, hy⟩ : ∃ y, b[4]? = some y := ⟨_, List.getElem?_eq_getElem (by omega)⟩
    obtain ⟨g, o, rfl, hlt, hc4⟩ := hby.at_ 4 y hy
    have hi4 : (4 : Int) < (b.length : Int) := by omega
    have hy255 := y.toNat_lt
    have cuts : ∀ lo n : Nat, lo + n ≤ b.length → n ≤ 6 → ∃ A' m, (∀ W, (Instr.slice 49 (.slice (some ⟨g, o, none⟩) b.length c) (some (.int .i64 (lo : Int))) (some (.int .i64 ((lo + n : Nat) : Int))) none).run Tryz.prog W = .ok (.slice A' n (c - lo)) W) ∧
        m = numL (pc b lo n) ∧ (∀ W, Below w0.heap.size w0 W → Calls Tryz.prog 106 #[.slice A' n (c - lo)] W fun e w' => e = .returned (.int .i64 (m : Int)) ∧ W = w') := by
      intro lo n hln hn
      obtain ⟨A', hr, hby'⟩ := cut_by hby b.length c lo (lo + n) (lo : Int) ((lo + n : Nat) : Int) rfl rfl (by omega) hln hbc
      rw [Nat.add_sub_cancel_left] at hr hby'
      have hl := pc_length b lo n hln
      refine ⟨A', numL (pc b lo n), hr, rfl, fun W h => ?_⟩
      have := of_any w0.heap.size A' (c - lo) (pc b lo n) W (By.below hby' h) (by omega)
      rwa [hl] at this
    obtain ⟨A5, m5, r5, e5, k5⟩ := cuts 5 6 (by omega) (by omega)
    obtain ⟨A11, m11, r11, e11, k11⟩ := cuts 11 6 (by omega) (by omega)
    obtain ⟨A17, m17, r17, e17, k17⟩ := cuts 17 6 (by omega) (by omega)
    obtain ⟨A23, m23, r23, e23, k23⟩ := cuts 23 6 (by omega) (by omega)
    obtain ⟨A29, m29, r29, e29, k29⟩ := cuts 29 6 (by omega) (by omega)
    simp only [Nat.reduceAdd, Int.cast_ofNat_Int] at r5 r11 r17 r23 r29
    have r0 := run_headB (some ⟨g, o, none⟩) b.length c 4 (by omega) (by omega)
    rw [show (4 : Int).toNat = 4 from rfl] at r0
    obtain ⟨m0, e0⟩ : ∃ m0, m0 = numL (pc b 0 4) := ⟨_, rfl⟩
    have hm0 : m0 < 4294967296 := by
      have h1 := numL_lt (pc b 0 4)
      rw [pc_length b 0 4 (by omega)] at h1
      rw [e0]
      exact h1
    have k0 : ∀ W, Below w0.heap.size w0 W → Calls Tryz.prog 106 #[.slice (some ⟨g, o, none⟩) 4 c] W fun e w' => e = .returned (.int .i64 (m0 : Int)) ∧ W = w' := fun W h => by
      have ht := (hby.take 4).below h
      have hl : (b.take 4).length = 4 := by rw [List.length_take]; omega
      have := of_any w0.heap.size (some ⟨g, o, none⟩) c (b.take 4) W ht (by omega)
      rw [hl] at this
      rw [e0]
      exact this
    have rt := run_tailB (some ⟨g, o, none⟩) b.length c 36 (by omega) (by omega)
    rw [show (36 : Int).toNat = 36 from rfl] at rt
    have ht := hby.cut (k := 36) (cap := c) hlen hbc
    obtain ⟨A36, hA36⟩ : ∃ A36, A36 = (if c = 36 then some ⟨g, o, none⟩ else (some (⟨g, o, none⟩ : Addr)).map (·.add 36)) := ⟨_, rfl⟩
    rw [← hA36] at rt ht
    have hdl : (b.drop 36).length = b.length - 36 := List.length_drop
    have hcv : ∀ W, Below w0.heap.size w0 W → (convert 49 9 (.slice A36 (b.length - 36) (c - 36))).run Tryz.prog W = .ok (.string ⟨(b.drop 36).toArray⟩) W := fun W h => by
      have := str_run (c - 36) (ht.below h)
      rwa [hdl] at this
    have hcell : ∀ W, Below w0.heap.size w0 W → W.cell? ⟨g, o + 4, none⟩ = some (.int .u8 (y.toNat : Int)) := fun W h => (h.cell (p := ⟨g, o + 4, none⟩) hlt).trans hc4
    have hb4 : numL (pc b 4 1) = y.toNat := by
      have e : pc b 4 1 = [y] := by
        obtain ⟨h1, h2⟩ := List.getElem?_eq_some_iff.1 hy
        unfold pc
        rw [List.drop_eq_getElem_cons h1, h2]; rfl
      rw [e]; simp [numL]
    obtain ⟨q, hq⟩ : ∃ q, q = rawL b := ⟨_, rfl⟩
    have HQ : Hid (q = ⟨m0, y.toNat, b.drop 36, m5, m11, m17, m23, m29⟩) := Lib.hid (by rw [hq, e0, e5, e11, e17, e23, e29, ← hb4]; rfl)
    have hqa : q.addr < 4294967296 := by rw [HQ.out]; exact hm0
    have HQR := Lib.hid hq
    have HS := Lib.hid (fun W h => And.intro (hcell W h) (hcv W h))
    have K0 := Lib.hid k0
    have K5 := Lib.hid k5
    have K11 := Lib.hid k11
    have K17 := Lib.hid k17
    have K23 := Lib.hid k23
    have K29 := Lib.hid k29
    have HBY := Lib.hid hby
    have HLen := Lib.hid hlen
    have hyw : IntKind.i64.wrap (y.toNat : Int) = y.toNat := by rw [IntKind.wrap_i64]; omega
    have hmw : IntKind.u32.wrap (m0 : Int) = m0 := by simp [IntKind.wrap, IntKind.bits, IntKind.signed]; omega
    have hcw := hcell w0 (Below.refl _ _)
    clear cuts hy hc4 e0 e5 e11 e17 e23 e29 k0 k5 k11 k17 k23 k29 hb4 hA36 ht hcv hcell hby hq hdl hlen hm0 hlt
    go_enter Tryz.func79, Tryz.ntmps79
    go_upto_region 1 with fail
    rw [← HW0.out]
    go_upto_region 3 with fail
    go_cut [4] (fun s4 wx => s4 = .pointer (some ⟨w0.heap.size, 0, none⟩) ∧ LBox wx w0.heap.size q ∧ Below w0.heap.size w0 wx)
    case first =>
      go_region_held3 (fun w' => w'.cell? ⟨g, o + 4, none⟩ = some (.int .u8 (y.toNat : Int)) ∧ (convert 49 9 (.slice A36 (b.length - 36) (c - 36))).run Tryz.prog w' = .ok (.string ⟨(b.drop 36).toArray⟩) w')
        (first | assumption | exact HS.out _ (Below.refl _ _).drew | exact HS.out _ ((Below.refl _ _).alloc (Nat.le_refl _) _).drew)
        (first
          | (go_at_call 106; (with_reducible refine (K0.out _ ?_).mono ?_); (first | exact (Below.refl _ _).drew | exact ((Below.refl _ _).alloc (Nat.le_refl _) _).drew); rintro e w' ⟨rfl, rfl⟩)
          | (go_at_call 106; (with_reducible refine (K5.out _ ?_).mono ?_); (first | exact (Below.refl _ _).drew | exact ((Below.refl _ _).alloc (Nat.le_refl _) _).drew); rintro e w' ⟨rfl, rfl⟩)
          | (go_at_call 106; (with_reducible refine (K11.out _ ?_).mono ?_); (first | exact (Below.refl _ _).drew | exact ((Below.refl _ _).alloc (Nat.le_refl _) _).drew); rintro e w' ⟨rfl, rfl⟩)
          | (go_at_call 106; (with_reducible refine (K17.out _ ?_).mono ?_); (first | exact (Below.refl _ _).drew | exact ((Below.refl _ _).alloc (Nat.le_refl _) _).drew); rintro e w' ⟨rfl, rfl⟩)
          | (go_at_call 106; (with_reducible refine (K23.out _ ?_).mono ?_); (first | exact (Below.refl _ _).drew | exact ((Below.refl _ _).alloc (Nat.le_refl _) _).drew); rintro e w' ⟨rfl, rfl⟩)
          | (go_at_call 106; (with_reducible refine (K29.out _ ?_).mono ?_); (first | exact (Below.refl _ _).drew | exact ((Below.refl _ _).alloc (Nat.le_refl _) _).drew); rintro e w' ⟨rfl, rfl⟩))
      all_goals
        go_wp2_with fail
        go_meet
        refine ⟨rfl, ?_, ((Below.refl _ _).alloc (Nat.le_refl _) _).drew⟩
        rw [HQ.out]
        exact LBox.new w0 ⟨m0, y.toNat, b.drop 36, m5, m11, m17, m23, m29⟩
    case rest =>
      obtain ⟨rfl, hbx, hB1⟩ := hcut
      have HL1 := Lib.hid hbx
      have hB1' := HB0.out.trans (hB1.mono HB0.out.size)
      have HB1 := Lib.hid hB1'
      have HZ1 : Hid (LBox _ w.heap.size zeroL) := Lib.hid (HZ.out.later hB1)
      have HY1 := Lib.hid (HBY.out.later hB1)
      have HE := Lib.hid (fun W => rencode_any q hqa W)
      have HDO : Hid (decOk b ↔ RightL q ∧ encL q = b) := Lib.hid (by
        unfold decOk
        rw [HQR.out]
        exact ⟨fun h => h.2, fun h => ⟨HLen.out, h⟩⟩)
      clear r0 r5 r11 r17 r23 r29 rt hbx hB1 hB1' hcw hyw hmw hy255
      obtain ⟨c0, c1, c2, c3, c4, c5, c6, c7⟩ := HL1.out.all
      go_wp2_with fail
      by_cases hr : RightL q
      rotate_left
      · have HR := Lib.hid (show encRL q = ([], 1) by simp [encRL, hr])
        simp only [HR.out] at HE
        have HDD : Hid (decL b = (zeroL, 2)) := Lib.hid (if_neg (fun h => hr (HDO.out.1 h).1))
        clear hr
        refine (HE.out _).mono ?_
        rintro e w3 ⟨A3, c3', rfl, hby3, _, hB3⟩
        have HB3 := Lib.hid (HB1.out.trans (hB3.mono HB1.out.size))
        have HZ3 := Lib.hid (HZ1.out.later hB3)
        clear hB3 hby3 c0 c1 c2 c3 c4 c5 c6 c7
        obtain ⟨z0, z1, z2, z3, z4, z5, z6, z7⟩ := HZ3.out.all
        obtain ⟨f0, f1, f2, f3, f4, f5, f6, f7⟩ := HZ3.out.allF
        go_wp2
        exact rdec_end (q := zeroL) (W := w3) HZ3.out HB3.out (Nat.le_refl _) HDD.out rfl rfl
      · have HR := Lib.hid (show encRL q = (encL q, 0) by simp [encRL, hr])
        simp only [HR.out] at HE
        have HRR := Lib.hid hr
        clear hr
        refine (HE.out _).mono ?_
        rintro e w3 ⟨A3, c3', rfl, hby3, _, hB3⟩
        have HB3 := Lib.hid (HB1.out.trans (hB3.mono HB1.out.size))
        have HZ3 := Lib.hid (HZ1.out.later hB3)
        have HL3 := Lib.hid (HL1.out.later hB3)
        have hs1 := str_run c3' hby3
        have hs2 := str_run c (HY1.out.later hB3)
        clear hB3 hby3 c0 c1 c2 c3 c4 c5 c6 c7
        obtain ⟨z0, z1, z2, z3, z4, z5, z6, z7⟩ := HZ3.out.all
        obtain ⟨f0, f1, f2, f3, f4, f5, f6, f7⟩ := HZ3.out.allF
        by_cases hq : encL q = b
        · have HDD : Hid (decL b = (q, 0)) := Lib.hid (by
            rw [HQR.out]
            exact if_pos (HDO.out.2 ⟨HRR.out, hq⟩))
          have hself : (encL q == b) = true := by simpa using hq
          have hself2 : (encL q != b) = false := by simpa using hq
          clear hq HE
          generalize encL q = bl at hs1 hself hself2 ⊢
          obtain ⟨x0, x1, x2, x3, x4, x5, x6, x7⟩ := HL3.out.all
          go_wp2
          exact rdec_end (q := q) (W := w3) HZ3.out HB3.out (Nat.le_refl _) HDD.out rfl rfl
        · have HDD : Hid (decL b = (zeroL, 2)) := Lib.hid (if_neg (fun h => hq (HDO.out.1 h).2))
          have hself : (encL q == b) = false := by simpa using hq
          have hself2 : (encL q != b) = true := by simpa using hq
          clear hq HE
          generalize encL q = bl at hs1 hself hself2 ⊢
          go_wp2
          exact rdec_end (q := zeroL) (W := w3) HZ3.out HB3.out (Nat.le_refl _) HDD.out rfl rfl
end Go.Proofs.YtalmjmhbpmhokaaGreat
end
