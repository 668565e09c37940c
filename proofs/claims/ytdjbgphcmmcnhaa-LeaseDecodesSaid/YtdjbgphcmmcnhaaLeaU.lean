/- lessorref11.Decode. -/
import Derived.Test.YtdjbgphcmmcnhaaLeaF
import Derived.Test.YtdjbgphcmmcnhaaLeaD
namespace Go.Proofs.Ytdjbgphcmmcnhaa
open Go.RowKit Go.Sort

theorem rdec_end {w W : World} {g : Nat} {r : LV × Int} {q : LV} {k : Int} {t : Array Value} (hz : LBox W g zeroL) (hB : Below w.heap.size w W) (hg : w.heap.size ≤ g) (hD : r = (q, k)) (h2 : t[2]?.getD undef = .pointer (some ⟨g, 0, none⟩)) (h3 : t[3]?.getD undef = .int .i64 k) :
    bodyPost Try.prog Try.f15 (GivesL w r) .ret { tmps := t, defers := [] } (storeL W g q) := by
  refine bodyPost_ret (v := .tuple #[q.v, .int .i64 k]) ?_ ?_ ?_
  · obtain ⟨r0, r1, r2, r3, r4, r5, r6, r7⟩ := (storeL_box hz q).all
    simp [results, Try.f15, go_sem, h2, h3, r0, r1, r2, r3, r4, r5, r6, r7]
  · rfl
  · rw [hD]
    exact ⟨rfl, hB.trans (storeL_low W _ g hg q)⟩
theorem By.head {w : World} {B : Nat} {A : Option Addr} {l : List UInt8} (h : By w B A l) : ∀ x r, l = x :: r → ∃ g o, A = some ⟨g, o, none⟩ ∧ g < B := fun x r e => by
  obtain ⟨b, o, h1, h2, _⟩ := h.at_ 0 x (by rw [e]; rfl)
  exact ⟨b, o, h1, h2⟩

set_option maxRecDepth 100000 in
set_option maxHeartbeats 4000000 in
theorem rdecode_any (A : Option Addr) (c : Nat) (b : List UInt8) (w : World) (hb : By w w.heap.size A b) (hbc : b.length ≤ c) (hbl : b.length ≤ 140737488355328) :
    Calls Try.prog 15 #[.slice A b.length c] w (GivesL w (decL b)) := by
  obtain ⟨w0, hw0⟩ : ∃ w0, w0 = w.alloc (.cells #[.int .u32 0, .int .i64 0, .string ⟨#[]⟩, .int .i64 0, .int .i64 0, .int .i64 0, .int .i64 0, .int .i64 0] 25) := ⟨_, rfl⟩
  have HZ : Hid (LBox w0 w.heap.size zeroL) := Lib.hid (by rw [hw0]; exact LBox.new w zeroL)
  have HB0 : Hid (Below w.heap.size w w0) := Lib.hid (by rw [hw0]; exact (Below.refl _ _).alloc (Nat.le_refl _) _)
  have HW0 := Lib.hid hw0
  have hby := hb.later HB0.out
  clear hw0 hb
  by_cases hsh : b.length < 36
  · have hd : decide ((b.length : Int) < 36) = true := by simp; omega
    have HDD : Hid (decL b = (zeroL, 2)) := Lib.hid (if_neg (fun h => by have := h.1; omega))
    obtain ⟨z0, z1, z2, z3, z4, z5, z6, z7⟩ := HZ.out.all
    obtain ⟨f0, f1, f2, f3, f4, f5, f6, f7⟩ := HZ.out.allF
    clear hsh
    go_enter Try.func15, Try.ntmps15
    go_upto_region 1 with fail
    rw [← HW0.out]
    go_wp2
    exact rdec_end (q := zeroL) (W := w0) HZ.out HB0.out (Nat.le_refl _) HDD.out rfl rfl
  · have hd : decide ((b.length : Int) < 36) = false := by simp; omega
    have hlen : 36 ≤ b.length := Nat.le_of_not_lt hsh
    clear hsh
    obtain ⟨y, hy⟩ : ∃ y, b[4]? = some y := ⟨_, List.getElem?_eq_getElem (by omega)⟩
    obtain ⟨g, o, rfl, hlt, hc4⟩ := hby.at_ 4 y hy
    have hi4 : (4 : Int) < (b.length : Int) := by omega
    have hy255 := y.toNat_lt
    have cuts : ∀ lo n : Nat, lo + n ≤ b.length → n ≤ 6 → ∃ A' m, (∀ W, (Instr.slice 27 (.slice (some ⟨g, o, none⟩) b.length c) (some (.int .i64 (lo : Int))) (some (.int .i64 ((lo + n : Nat) : Int))) none).run Try.prog W = .ok (.slice A' n (c - lo)) W) ∧
        m = numL (pc b lo n) ∧ (∀ W, Below w0.heap.size w0 W → Calls Try.prog 23 #[.slice A' n (c - lo)] W fun e w' => e = .returned (.int .i64 (m : Int)) ∧ W = w') := by
      intro lo n hln hn
      obtain ⟨A', hr, hby'⟩ := cut_by hby b.length c lo (lo + n) (lo : Int) ((lo + n : Nat) : Int) rfl rfl (by omega) hln hbc
      rw [Nat.add_sub_cancel_left] at hr hby'
      have hl := pc_length b lo n hln
      refine ⟨A', numL (pc b lo n), hr, rfl, fun W h => ?_⟩
      have := of_any w0.heap.size A' (c - lo) (pc b lo n) W (By.below hby' h) (by omega)
      rwa [hl] at this
    obtain ⟨A5, m5, r5, e5, k5⟩ := cuts 5 6 (by omega) (by omega)
    obtain ⟨A11, m11, r11, e11, k11⟩ := cuts 11 6 (by omega) (by omega)
    obtain ⟨A17, m17, r17, e17, k17⟩ := cuts 17 6 (by omega) (by omega)
    obtain ⟨A23, m23, r23, e23, k23⟩ := cuts 23 6 (by omega) (by omega)
    obtain ⟨A29, m29, r29, e29, k29⟩ := cuts 29 6 (by omega) (by omega)
    simp only [Nat.reduceAdd, Int.cast_ofNat_Int] at r5 r11 r17 r23 r29
    have r0 := run_headB (some ⟨g, o, none⟩) b.length c 4 (by omega) (by omega)
    rw [show (4 : Int).toNat = 4 from rfl] at r0
    obtain ⟨m0, e0⟩ : ∃ m0, m0 = numL (pc b 0 4) := ⟨_, rfl⟩
    have hm0 : m0 < 4294967296 := by
      have h1 := numL_lt (pc b 0 4)
      rw [pc_length b 0 4 (by omega)] at h1
      rw [e0]
      exact h1
    have k0 : ∀ W, Below w0.heap.size w0 W → Calls Try.prog 23 #[.slice (some ⟨g, o, none⟩) 4 c] W fun e w' => e = .returned (.int .i64 (m0 : Int)) ∧ W = w' := fun W h => by
      have ht := (hby.take 4).below h
      have hl : (b.take 4).length = 4 := by rw [List.length_take]; omega
      have := of_any w0.heap.size (some ⟨g, o, none⟩) c (b.take 4) W ht (by omega)
      rw [hl] at this
      rw [e0]
      exact this
    have rt := run_tailB (some ⟨g, o, none⟩) b.length c 36 (by omega) (by omega)
    rw [show (36 : Int).toNat = 36 from rfl] at rt
    have ht := hby.cut (k := 36) (cap := c) hlen hbc
    obtain ⟨A36, hA36⟩ : ∃ A36, A36 = (if c = 36 then some ⟨g, o, none⟩ else (some (⟨g, o, none⟩ : Addr)).map (·.add 36)) := ⟨_, rfl⟩
    rw [← hA36] at rt ht
    have hdl : (b.drop 36).length = b.length - 36 := List.length_drop
    have hcv : ∀ W, Below w0.heap.size w0 W → (convert 27 9 (.slice A36 (b.length - 36) (c - 36))).run Try.prog W = .ok (.string ⟨(b.drop 36).toArray⟩) W := fun W h => by
      have := str_run (c - 36) (ht.below h)
      rwa [hdl] at this
    have hcell : ∀ W, Below w0.heap.size w0 W → W.cell? ⟨g, o + 4, none⟩ = some (.int .u8 (y.toNat : Int)) := fun W h => (h.cell (p := ⟨g, o + 4, none⟩) hlt).trans hc4
    have hb4 : numL (pc b 4 1) = y.toNat := by
      have e : pc b 4 1 = [y] := by
        obtain ⟨h1, h2⟩ := List.getElem?_eq_some_iff.1 hy
        unfold pc
        rw [List.drop_eq_getElem_cons h1, h2]; rfl
      rw [e]; simp [numL]
    obtain ⟨q, hq⟩ : ∃ q, q = rawL b := ⟨_, rfl⟩
    have HQ : Hid (q = ⟨m0, y.toNat, b.drop 36, m5, m11, m17, m23, m29⟩) := Lib.hid (by rw [hq, e0, e5, e11, e17, e23, e29, ← hb4]; rfl)
    have hqa : q.addr < 4294967296 := by rw [HQ.out]; exact hm0
    have HQR := Lib.hid hq
    have HS := Lib.hid (fun W h => And.intro (hcell W h) (hcv W h))
    have K0 := Lib.hid k0
    have K5 := Lib.hid k5
    have K11 := Lib.hid k11
    have K17 := Lib.hid k17
    have K23 := Lib.hid k23
    have K29 := Lib.hid k29
    have HBY := Lib.hid hby
    have HLen := Lib.hid hlen
    have hyw : IntKind.i64.wrap (y.toNat : Int) = y.toNat := by rw [IntKind.wrap_i64]; omega
    have hmw : IntKind.u32.wrap (m0 : Int) = m0 := by simp [IntKind.wrap, IntKind.bits, IntKind.signed]; omega
    have hcw := hcell w0 (Below.refl _ _)
    clear cuts hy hc4 e0 e5 e11 e17 e23 e29 k0 k5 k11 k17 k23 k29 hb4 hA36 ht hcv hcell hby hq hdl hlen hm0 hlt
    go_enter Try.func15, Try.ntmps15
    go_upto_region 1 with fail
    rw [← HW0.out]
    go_upto_region 3 with fail
    go_cut [4] (fun s4 wx => s4 = .pointer (some ⟨w0.heap.size, 0, none⟩) ∧ LBox wx w0.heap.size q ∧ Below w0.heap.size w0 wx)
    case first =>
      go_region_held3 (fun w' => w'.cell? ⟨g, o + 4, none⟩ = some (.int .u8 (y.toNat : Int)) ∧ (convert 27 9 (.slice A36 (b.length - 36) (c - 36))).run Try.prog w' = .ok (.string ⟨(b.drop 36).toArray⟩) w')
        (first | assumption | exact HS.out _ (Below.refl _ _).drew | exact HS.out _ ((Below.refl _ _).alloc (Nat.le_refl _) _).drew)
        (first
          | (go_at_call 23; (with_reducible refine (K0.out _ ?_).mono ?_); (first | exact (Below.refl _ _).drew | exact ((Below.refl _ _).alloc (Nat.le_refl _) _).drew); rintro e w' ⟨rfl, rfl⟩)
          | (go_at_call 23; (with_reducible refine (K5.out _ ?_).mono ?_); (first | exact (Below.refl _ _).drew | exact ((Below.refl _ _).alloc (Nat.le_refl _) _).drew); rintro e w' ⟨rfl, rfl⟩)
          | (go_at_call 23; (with_reducible refine (K11.out _ ?_).mono ?_); (first | exact (Below.refl _ _).drew | exact ((Below.refl _ _).alloc (Nat.le_refl _) _).drew); rintro e w' ⟨rfl, rfl⟩)
          | (go_at_call 23; (with_reducible refine (K17.out _ ?_).mono ?_); (first | exact (Below.refl _ _).drew | exact ((Below.refl _ _).alloc (Nat.le_refl _) _).drew); rintro e w' ⟨rfl, rfl⟩)
          | (go_at_call 23; (with_reducible refine (K23.out _ ?_).mono ?_); (first | exact (Below.refl _ _).drew | exact ((Below.refl _ _).alloc (Nat.le_refl _) _).drew); rintro e w' ⟨rfl, rfl⟩)
          | (go_at_call 23; (with_reducible refine (K29.out _ ?_).mono ?_); (first | exact (Below.refl _ _).drew | exact ((Below.refl _ _).alloc (Nat.le_refl _) _).drew); rintro e w' ⟨rfl, rfl⟩))
      all_goals
        go_wp2_with fail
        go_meet
        refine ⟨rfl, ?_, ((Below.refl _ _).alloc (Nat.le_refl _) _).drew⟩
        rw [HQ.out]
        exact LBox.new w0 ⟨m0, y.toNat, b.drop 36, m5, m11, m17, m23, m29⟩
    case rest =>
      obtain ⟨rfl, hbx, hB1⟩ := hcut
      have HL1 := Lib.hid hbx
      have hB1' := HB0.out.trans (hB1.mono HB0.out.size)
      have HB1 := Lib.hid hB1'
      have HZ1 : Hid (LBox _ w.heap.size zeroL) := Lib.hid (HZ.out.later hB1)
      have HY1 := Lib.hid (HBY.out.later hB1)
      have HE := Lib.hid (fun W => rencode_any q hqa W)
      have HDO : Hid (decOk b ↔ RightL q ∧ encL q = b) := Lib.hid (by
        unfold decOk
        rw [HQR.out]
        exact ⟨fun h => h.2, fun h => ⟨HLen.out, h⟩⟩)
      clear r0 r5 r11 r17 r23 r29 rt hbx hB1 hB1' hcw hyw hmw hy255
      obtain ⟨c0, c1, c2, c3, c4, c5, c6, c7⟩ := HL1.out.all
      go_wp2_with fail
      by_cases hr : RightL q
      rotate_left
      · have HR := Lib.hid (show encR q = ([], 1) by simp [encR, hr])
        simp only [HR.out] at HE
        have HDD : Hid (decL b = (zeroL, 2)) := Lib.hid (if_neg (fun h => hr (HDO.out.1 h).1))
        clear hr
        refine (HE.out _).mono ?_
        rintro e w3 ⟨A3, c3', rfl, hby3, _, hB3⟩
        have HB3 := Lib.hid (HB1.out.trans (hB3.mono HB1.out.size))
        have HZ3 := Lib.hid (HZ1.out.later hB3)
        clear hB3 hby3 c0 c1 c2 c3 c4 c5 c6 c7
        obtain ⟨z0, z1, z2, z3, z4, z5, z6, z7⟩ := HZ3.out.all
        obtain ⟨f0, f1, f2, f3, f4, f5, f6, f7⟩ := HZ3.out.allF
        go_wp2
        exact rdec_end (q := zeroL) (W := w3) HZ3.out HB3.out (Nat.le_refl _) HDD.out rfl rfl
      · have HR := Lib.hid (show encR q = (encL q, 0) by simp [encR, hr])
        simp only [HR.out] at HE
        have HRR := Lib.hid hr
        clear hr
        refine (HE.out _).mono ?_
        rintro e w3 ⟨A3, c3', rfl, hby3, _, hB3⟩
        have HB3 := Lib.hid (HB1.out.trans (hB3.mono HB1.out.size))
        have HZ3 := Lib.hid (HZ1.out.later hB3)
        have HL3 := Lib.hid (HL1.out.later hB3)
        have hs1 := str_run c3' hby3
        have hs2 := str_run c (HY1.out.later hB3)
        clear hB3 hby3 c0 c1 c2 c3 c4 c5 c6 c7
        obtain ⟨z0, z1, z2, z3, z4, z5, z6, z7⟩ := HZ3.out.all
        obtain ⟨f0, f1, f2, f3, f4, f5, f6, f7⟩ := HZ3.out.allF
        by_cases hq : encL q = b
        · have HDD : Hid (decL b = (q, 0)) := Lib.hid (by
            rw [HQR.out]
            exact if_pos (HDO.out.2 ⟨HRR.out, hq⟩))
          have hself : (encL q == b) = true := by simpa using hq
          have hself2 : (encL q != b) = false := by simpa using hq
          clear hq HE
          generalize encL q = bl at hs1 hself hself2 ⊢
          obtain ⟨x0, x1, x2, x3, x4, x5, x6, x7⟩ := HL3.out.all
          go_wp2
          exact rdec_end (q := q) (W := w3) HZ3.out HB3.out (Nat.le_refl _) HDD.out rfl rfl
        · have HDD : Hid (decL b = (zeroL, 2)) := Lib.hid (if_neg (fun h => hq (HDO.out.1 h).2))
          have hself : (encL q == b) = false := by simpa using hq
          have hself2 : (encL q != b) = true := by simpa using hq
          clear hq HE
          generalize encL q = bl at hs1 hself hself2 ⊢
          go_wp2
          exact rdec_end (q := zeroL) (W := w3) HZ3.out HB3.out (Nat.le_refl _) HDD.out rfl rfl
end Go.Proofs.Ytdjbgphcmmcnhaa
