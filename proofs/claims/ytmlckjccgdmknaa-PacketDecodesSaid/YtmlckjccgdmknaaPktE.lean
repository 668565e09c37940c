/- packet.Encode. -/
import Derived.Test.YtmlckjccgdmknaaPktP
namespace Go.Proofs.Ytmlckjccgdmknaa
open Go.RowKit

theorem four_bytes (w : World) (t : TypeId) (c : Int) (n : Nat) (hc0 : 0 ≤ c) (hc : c < 256) (hn : n < 256) : By (w.alloc (.cells #[.int .u8 c, .int .u8 1, .int .u8 (n : Int), .int .u8 0] t)) (w.heap.size + 1) (some ⟨w.heap.size, 0, none⟩) [UInt8.ofNat c.toNat, 1, UInt8.ofNat n, 0] := by
  have h := By.new w [UInt8.ofNat c.toNat, 1, UInt8.ofNat n, 0] t
  have e1 : ((UInt8.ofNat c.toNat).toNat : Int) = c := by
    rw [UInt8.toNat_ofNat', Nat.mod_eq_of_lt (by omega)]; omega
  have e2 : (UInt8.ofNat n).toNat = n := by
    rw [UInt8.toNat_ofNat', Nat.mod_eq_of_lt (by omega)]
  simp only [bcells, List.map_cons, List.map_nil, bV, e1, e2] at h
  exact h
theorem mark_bytes (w : World) (t : TypeId) : By (w.alloc (.cells #[.int .u8 99, .int .u8 130, .int .u8 83, .int .u8 99] t)) (w.heap.size + 1) (some ⟨w.heap.size, 0, none⟩) [99, 130, 83, 99] := By.new w [99, 130, 83, 99] t

set_option maxRecDepth 100000 in
set_option maxHeartbeats 400000 in
theorem pencode_ok (p : PktV) (w : World) (hp : Pk w w.heap.size p) (hR : PkR p) (hL : p.L.length ≤ 2000) (hr : rightB p = true) :
    Calls Try.prog 10 #[p.v] w (GivesB w (headL p.abs ++ (encL (absL p.L)).1) 0) := by
  obtain ⟨hq, hh⟩ := (right_iff p).1 hr
  obtain ⟨hop, hsecs, hflags, hlen1, hlen16⟩ := (head_iff p).1 hh
  clear hr
  obtain ⟨w0, hw0⟩ : ∃ w0, w0 = w.alloc (pbox p) := ⟨_, rfl⟩
  have HB0 : Hid (Below w.heap.size w w0) := Lib.hid (by rw [hw0]; exact (Below.refl _ _).alloc (Nat.le_refl _) _)
  have HX : Hid (PBox w0 w.heap.size p) := Lib.hid (by rw [hw0]; exact PBox.new w p)
  have HP : Hid (Pk w0 w0.heap.size p) := Lib.hid (hp.later HB0.out)
  have HE := Lib.hid (encode_any p.opA p.opC p.L w0 HP.out.opt hL)
  have HH := Lib.hid (fun W => headed_any p W (by omega))
  rw [hh] at HH
  have hol := encL_len (absL p.L)
  rw [hq] at HE
  clear hq hh hp
  obtain ⟨ol, hole⟩ : ∃ ol, ol = (encL (absL p.L)).1 := ⟨_, rfl⟩
  rw [← hole] at HE hol
  rw [← hole]
  have HO := Lib.hid hole
  have HW := Lib.hid hw0
  clear hole hw0
  have HN1 : Hid (∀ W, Calls Try.prog 28 #[.int .i64 (p.xid : Int), .int .i64 4] W (GivesV W (beL p.xid 4))) := Lib.hid (fun W => pnum_any p.xid 4 (by omega) (by decide) hR.xid W)
  have HN2 : Hid (∀ W, Calls Try.prog 28 #[.int .i64 (p.secs.toNat : Int), .int .i64 2] W (GivesV W (beL p.secs.toNat 2))) := Lib.hid (fun W => pnum_any p.secs.toNat 2 (by omega) (by decide) (by omega) W)
  have HN3 : Hid (∀ W, Calls Try.prog 28 #[.int .i64 (p.flags.toNat : Int), .int .i64 2] W (GivesV W (beL p.flags.toNat 2))) := Lib.hid (fun W => pnum_any p.flags.toNat 2 (by omega) (by decide) (by omega) W)
  rw [Int.toNat_of_nonneg hsecs.1] at HN2
  rw [Int.toNat_of_nonneg hflags.1] at HN3
  have HN4 : Hid (∀ (k x : Nat), [p.ci, p.yi, p.si, p.gi][k]? = some x → ∀ W, Calls Try.prog 28 #[.int .i64 (x : Int), .int .i64 4] W (GivesV W (beL x 4))) := Lib.hid fun k x hx W => pnum_any x 4 (by omega) (by decide) (by
    have := List.mem_of_getElem? hx
    simp at this
    rcases this with rfl | rfl | rfl | rfl
    · exact hR.ci
    · exact hR.yi
    · exact hR.si
    · exact hR.gi) W
  have hwo : IntKind.u8.wrap p.op = p.op := by simp [IntKind.wrap, IntKind.bits, IntKind.signed]; omega
  have hwl : IntKind.u8.wrap (p.hw.length : Int) = p.hw.length := by simp [IntKind.wrap, IntKind.bits, IntKind.signed]; omega
  have HOP := Lib.hid hop
  have HSE := Lib.hid hsecs
  have HFL := Lib.hid hflags
  have HRR := Lib.hid hR
  clear hop hsecs hflags hR
  go_enter Try.func10, Try.ntmps10
  go_wp2_with fail
  rw [← HW.out]
  refine HE.out.mono ?_
  rintro e w1 ⟨A, c, rfl, hby, _, hB1⟩
  have HX1 := Lib.hid (HX.out.later hB1)
  have HP1 := Lib.hid (HP.out.later hB1)
  have HB1 := Lib.hid (HB0.out.trans (hB1.mono HB0.out.size))
  have HY1 := Lib.hid hby
  clear hB1 hby
  obtain ⟨c0, c1, c2, c3, c4, c5, c6, c7, c8, c9⟩ := HX1.out.all
  go_wp2_with fail
  refine (HH.out _).mono ?_
  rintro e w2 ⟨rfl, rfl⟩
  clear c0 c1 c2 c3 c4 c5 c6 c7 c8 c9
  -- CUT
  have hmk := run_makeB (240 + ol.length) (by omega)
  rw [show (((240 + ol.length : Nat)) : Int) = 240 + (ol.length : Int) by omega] at hmk
  obtain ⟨w2, hw2⟩ : ∃ w2, w2 = w1.alloc (pbox p) := ⟨_, rfl⟩
  have hB2 : Below w1.heap.size w1 w2 := by rw [hw2]; exact (Below.refl _ _).alloc (Nat.le_refl _) _
  have R0 : Row w1 (w2.alloc (.cells (madeCells #[.int .u8 0] (240 + ol.length)) 5)) (.slice (some ⟨w2.heap.size, 0, none⟩) 0 (240 + ol.length)) [] := ⟨made_own w2 w1.heap.size _ hB2.size (by omega), hB2.alloc hB2.size _⟩
  have c0 := (HX1.out.later R0.low).c0
  have c8 := (HX1.out.later R0.low).c8
  rw [← hw2]
  clear hw2 hB2
  have hbf := four_bytes (w2.alloc (.cells (madeCells #[.int .u8 0] (240 + ol.length)) 5)) 5 p.op p.hw.length (by have := HOP.out; omega) (by have := HOP.out; omega) (by omega)
  simp only [World.size_alloc] at hbf
  have R0a := R0.alloc (.cells #[.int .u8 p.op, .int .u8 1, .int .u8 (p.hw.length : Int), .int .u8 0] 5)
  clear R0
  have hxid := HRR.out.xid
  go_wp2_with (at_builtin; refine wpList_row rfl (.tmp 26) (.tmp 34) rfl rfl R0a [UInt8.ofNat p.op.toNat, 1, UInt8.ofNat p.hw.length, 0] rfl rfl hbf (by simp) ?_; intro v1 w4 R1 _; have c1 := (HX1.out.later R1.low).c1)
  clear c0 c8 hwo hwl hbf R0a hmk
  refine (HN1.out _).mono ?_
  rintro e w5 ⟨A1, k1, rfl, hby1, hB5⟩
  have R1b := R1.later hB5
  clear R1 c1 hB5
  go_wp2_with (at_builtin; refine wpList_row rfl (.tmp 36) (.tmp 40) rfl rfl R1b (beL p.xid 4) rfl rfl hby1 (by simp [beL_length]) ?_; intro v2 w6 R2 _; have c2 := (HX1.out.later R2.low).c2)
  clear hby1 R1b
  refine (HN2.out _).mono ?_
  rintro e w7 ⟨A2, k2, rfl, hby2, hB7⟩
  have R2b := R2.later hB7
  clear R2 c2 hB7
  go_wp2_with (at_builtin; refine wpList_row rfl (.tmp 42) (.tmp 45) rfl rfl R2b (beL p.secs.toNat 2) rfl rfl hby2 (by simp [beL_length]) ?_; intro v3 w8 R3 _; have c3 := (HX1.out.later R3.low).c3)
  clear hby2 R2b
  refine (HN3.out _).mono ?_
  rintro e w9 ⟨A3, k3, rfl, hby3, hB9⟩
  have R3b := R3.later hB9
  clear R3 c3 hB9
  go_wp2_with (at_builtin; refine wpList_row rfl (.tmp 47) (.tmp 50) rfl rfl R3b (beL p.flags.toNat 2) rfl rfl hby3 (by simp [beL_length]) ?_; intro v4 w10 R4 _; have c4 := (HX1.out.later R4.low).c4; have c5 := (HX1.out.later R4.low).c5; have c6 := (HX1.out.later R4.low).c6; have c7 := (HX1.out.later R4.low).c7)
  clear hby3 R3b c4 c5 c6 c7
  obtain ⟨l4, hl4⟩ : ∃ l4, l4 = [] ++ [UInt8.ofNat p.op.toNat, 1, UInt8.ofNat p.hw.length, 0] ++ beL p.xid 4 ++ beL p.secs.toNat 2 ++ beL p.flags.toNat 2 := ⟨_, rfl⟩
  rw [← hl4] at R4
  have hl4n : l4.length = 12 := by rw [hl4]; simp [beL_length]
  have HL4 := Lib.hid hl4
  clear hl4
  have hadr : (w10.alloc (.cells #[.int .u32 (p.ci : Int), .int .u32 (p.yi : Int), .int .u32 (p.si : Int), .int .u32 (p.gi : Int)] 23)).heap[w10.heap.size]? = some (.cells ([p.ci, p.yi, p.si, p.gi].map fun (x : Nat) => Value.int .u32 (x : Int)).toArray 23 (0, 0)) := heap_alloc_new w10 _
  have R5 := R4.alloc (.cells #[.int .u32 (p.ci : Int), .int .u32 (p.yi : Int), .int .u32 (p.si : Int), .int .u32 (p.gi : Int)] 23)
  have hR := HRR.out
  have hadl : ∀ x ∈ [p.ci, p.yi, p.si, p.gi], x < 4294967296 := by
    intro x hx
    simp at hx
    rcases hx with rfl | rfl | rfl | rfl
    · exact hR.ci
    · exact hR.yi
    · exact hR.si
    · exact hR.gi
  have HAD := Lib.hid hadl
  clear hR hadl R4 hxid
  obtain ⟨adr, hadre⟩ : ∃ adr, adr = [p.ci, p.yi, p.si, p.gi] := ⟨_, rfl⟩
  rw [← hadre] at hadr HAD HN4
  have hadn : adr.length = 4 := by rw [hadre]; rfl
  have HADE := Lib.hid hadre
  clear hadre
  go_loopw [6, 62] (fun v i wr => ∃ k : Nat, k ≤ 4 ∧ i = .int .i64 k ∧ Row w1 wr v (l4 ++ (adr.take k).flatMap (beL · 4)) ∧ wr.heap[w10.heap.size]? = some (.cells (adr.map fun (x : Nat) => Value.int .u32 (x : Int)).toArray 23 (0, 0))) (fun _ i _ => 4 - (intOf i).toNat)
  case atStart => exact ⟨0, by omega, rfl, by simpa using R5, hadr⟩
  case round =>
    obtain ⟨k, hk, rfl, R6, hb6⟩ := hrel
    clear R5 hadr
    by_cases hlt : k < 4
    · obtain ⟨x, hx⟩ : ∃ x, adr[k]? = some x := ⟨_, List.getElem?_eq_getElem (by omega)⟩
      have hcell : wr.cell? ⟨w10.heap.size, k, none⟩ = some (.int .u32 (x : Int)) := by
        rw [cell_of_row wr _ _ _ _ _ hb6]
        simp [hx]
      have hxl := HAD.out x (List.mem_of_getElem? hx)
      have HC := Lib.hid (HN4.out k x hx)
      have hll : (l4 ++ (adr.take k).flatMap (beL · 4)).length ≤ 100 := by
        rw [List.length_append, List.length_flatMap, hl4n]
        simp only [beL_length, List.map_const', List.sum_replicate_nat, List.length_take]
        omega
      go_wp2_with fail
      refine (HC.out _).mono ?_
      rintro e w11 ⟨A4, k4, rfl, hby4, hB11⟩
      have R6b := R6.later hB11
      have hb6b := (hB11.block w10.heap.size ((Array.getElem?_eq_some_iff.1 hb6).1)).trans hb6
      go_wp2_with (at_builtin; refine wpList_row rfl (.tmp 66) (.tmp 69) rfl rfl R6b (beL x 4) rfl rfl hby4 (by rw [beL_length]; omega) ?_; intro v7 w12 R7 hg7)
      have hb7 := (hg7.block w10.heap.size ((Array.getElem?_eq_some_iff.1 hb6b).1) (fun e => R6b.apart hb6b (by decide) e.symm)).trans hb6b
      go_roundw
      case rel => exact ⟨k + 1, by omega, by go_num, by rw [take_snoc_of adr k x hx, List.flatMap_append, ← List.append_assoc]; simpa using R7, hb7⟩
      case measure => simp [intOf]; omega
    · obtain rfl : k = 4 := by omega
      rw [List.take_of_length_le (by omega)] at R6
      clear hb6
      have c8 := (HX1.out.later R6.low).c8
      have hbh := HP1.out.hw.below R6.low
      have hl5 : (l4 ++ adr.flatMap (beL · 4)).length = 28 := by
        rw [List.length_append, List.length_flatMap, hl4n]
        simp only [beL_length, List.map_const', List.sum_replicate_nat]
        omega
      obtain ⟨l5, hl5e⟩ : ∃ l5, l5 = l4 ++ adr.flatMap (beL · 4) := ⟨_, rfl⟩
      rw [← hl5e] at hl5 R6
      have HL5 := Lib.hid hl5e
      clear hl5e
      go_wp2_with (first
        | (at_builtin; refine wpList_row rfl (.tmp 72) (.tmp 74) rfl rfl R6 p.hw rfl rfl hbh (by omega) ?_; intro v8 w13 R8 _; have d8 := (HX1.out.later R8.low).c8)
        | (at_builtin; refine wpList_rowZ rfl (.tmp 76) (.tmp 81) rfl rfl R8 (by rw [List.length_append]; omega) (16 - p.hw.length + 192) (by omega) rfl (by rw [List.length_append]; omega) ?_; intro v9 w14 R9 _; have R9b := R9.alloc (.cells #[.int .u8 99, .int .u8 130, .int .u8 83, .int .u8 99] 5); have hbm := mark_bytes w14 5)
        | (at_builtin; refine wpList_row rfl (.tmp 83) (.tmp 84) rfl rfl R9b [99, 130, 83, 99] rfl rfl hbm (by simp; omega) ?_; intro v10 w15 R10 _; have hbo := HY1.out.below R10.low)
        | (at_builtin; refine wpList_row rfl (.tmp 86) (.tmp 87) rfl rfl R10 ol rfl rfl hbo (by simp; omega) ?_; intro v11 w16 R11 _))
      have hfin : l5 ++ p.hw ++ List.replicate (16 - p.hw.length + 192) 0 ++ [99, 130, 83, 99] ++ ol = headL p.abs ++ ol := by
        rw [HL5.out, HL4.out, HADE.out]
        simp [headL, PktV.abs]
      rw [hfin] at R11
      obtain ⟨A9, c9, rfl, hc9, hby9⟩ := R11.form
      go_ret2
      exact ⟨A9, c9, rfl, hby9, hc9, HB1.out.trans (R11.low.mono HB1.out.size)⟩

set_option maxRecDepth 100000 in
set_option maxHeartbeats 400000 in
theorem pencode_bad (p : PktV) (w : World) (hp : Pk w w.heap.size p) (hL : p.L.length ≤ 2000) (hhm : p.hw.length ≤ 9223372036854775807) (hr : rightB p = false) :
    Calls Try.prog 10 #[p.v] w (GivesB w [] 1) := by
  have hB0 : Below w.heap.size w (w.alloc (pbox p)) := (Below.refl _ _).alloc (Nat.le_refl _) _
  have HE := Lib.hid (encode_any p.opA p.opC p.L (w.alloc (pbox p)) (hp.boxed (pbox p)).opt hL)
  have HH := Lib.hid (fun W => headed_any p W hhm)
  have HX := Lib.hid (PBox.new w p)
  unfold rightB at hr
  cases hq : ((encL (absL p.L)).2 == 0)
  · have hne : ((encL (absL p.L)).2 != 0) = true := by simp [bne, hq]
    clear hr hq
    go_enter Try.func10, Try.ntmps10
    go_wp2_with fail
    refine HE.out.mono ?_
    rintro e w1 ⟨A, c, rfl, _, _, hB1⟩
    go_wp2
    go_ret2
    exact ⟨none, 0, rfl, By.nil, Nat.le_refl _, hB0.trans (hB1.mono hB0.size)⟩
  · have hne : ((encL (absL p.L)).2 != 0) = false := by simp [bne, hq]
    rw [hq, Bool.true_and] at hr
    rw [hr] at HH
    clear hr hq
    go_enter Try.func10, Try.ntmps10
    go_wp2_with fail
    refine HE.out.mono ?_
    rintro e w1 ⟨A, c, rfl, _, _, hB1⟩
    obtain ⟨c0, c1, c2, c3, c4, c5, c6, c7, c8, c9⟩ := (HX.out.later hB1).all
    have hB2 : Below w.heap.size w w1 := hB0.trans (hB1.mono hB0.size)
    go_wp2_with fail
    refine (HH.out _).mono ?_
    rintro e w2 ⟨rfl, rfl⟩
    go_wp2
    go_ret2
    exact ⟨none, 0, rfl, By.nil, Nat.le_refl _, hB2.alloc hB2.size _⟩

theorem pencode_any (p : PktV) (w : World) (hp : Pk w w.heap.size p) (hR : PkR p) (hL : p.L.length ≤ 2000) (hhm : p.hw.length ≤ 9223372036854775807) :
    Calls Try.prog 10 #[p.v] w (GivesB w (encP p.abs).1 (encP p.abs).2) := by
  cases hr : rightB p
  · rw [encP_bad (by rw [← right_abs]; exact hr)]
    exact pencode_bad p w hp hL hhm hr
  · rw [encP_ok (by rw [← right_abs]; exact hr)]
    exact pencode_ok p w hp hR hL hr
end Go.Proofs.Ytmlckjccgdmknaa
