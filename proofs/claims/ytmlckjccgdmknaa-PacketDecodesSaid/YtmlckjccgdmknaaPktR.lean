/- lessorref03.Right and lessorref03.Encode. -/
import Derived.Test.YtmlckjccgdmknaaPktE
namespace Go.Proofs.Ytmlckjccgdmknaa
open Go.RowKit

theorem head_eq (p : PktV) : headB p = !((p.op != 1 && p.op != 2) || decide (p.secs < 0) || decide (65535 < p.secs) || decide (p.flags < 0) || decide (65535 < p.flags) || decide ((p.hw.length : Int) < 1) || decide ((16 : Int) < (p.hw.length : Int))) := by
  rw [Bool.eq_iff_iff]
  simp [headB, shortB]
  omega

/-- One reason why a packet may not be, in the order in which they are asked; or none. -/
theorem head_why (p : PktV) : (headB p = false ∧
    ((p.op != 1) = true ∧ (p.op != 2) = true ∨
    ((p.op != 1) = false ∨ (p.op != 1) = true ∧ (p.op != 2) = false) ∧
      (decide (p.secs < 0) = true ∨ decide (p.secs < 0) = false ∧
      (decide (65535 < p.secs) = true ∨ decide (65535 < p.secs) = false ∧
      (decide (p.flags < 0) = true ∨ decide (p.flags < 0) = false ∧
      (decide (65535 < p.flags) = true ∨ decide (65535 < p.flags) = false ∧
      (decide ((p.hw.length : Int) < 1) = true ∨ decide ((p.hw.length : Int) < 1) = false ∧ decide ((16 : Int) < (p.hw.length : Int)) = true))))))) ∨
    (headB p = true ∧ ((p.op != 1) = false ∨ (p.op != 1) = true ∧ (p.op != 2) = false) ∧ decide (p.secs < 0) = false ∧ decide (65535 < p.secs) = false ∧ decide (p.flags < 0) = false ∧ decide (65535 < p.flags) = false ∧ decide ((p.hw.length : Int) < 1) = false ∧ decide ((16 : Int) < (p.hw.length : Int)) = false) := by
  rw [head_eq]
  generalize (p.op != 1) = a
  generalize (p.op != 2) = b
  generalize decide (p.secs < 0) = c
  generalize decide (65535 < p.secs) = d
  generalize decide (p.flags < 0) = e
  generalize decide (65535 < p.flags) = f
  generalize decide ((p.hw.length : Int) < 1) = g
  generalize decide ((16 : Int) < (p.hw.length : Int)) = h
  cases a <;> cases b <;> cases c <;> cases d <;> cases e <;> cases f <;> cases g <;> cases h <;> simp

set_option maxRecDepth 100000 in
set_option maxHeartbeats 1000000 in
theorem rright_any (p : PktV) (w : World) (hp : Pk w w.heap.size p) (hL : p.L.length ≤ 100) (hdm : ∀ x ∈ p.L, x.data.length ≤ 1000) :
    Calls Try.prog 13 #[p.v] w fun e w' => e = .returned (.bool (rightB p)) ∧ Below w.heap.size w w' := by
  have hB0 : Below w.heap.size w (w.alloc (pbox p)) := (Below.refl _ _).alloc (Nat.le_refl _) _
  have HE := Lib.hid (rencode_any p.opA p.opC p.L (w.alloc (pbox p)) (hp.boxed (pbox p)).opt hL hdm)
  unfold rightB
  clear hp hdm
  rcases head_why p with ⟨hh, hwhy⟩ | ⟨hh, hop, h3, h4, h5, h6, h7, h8⟩
  · rw [hh]
    clear hh HE
    rcases hwhy with ⟨h1, h2⟩ | ⟨h1 | ⟨h1, h2⟩, h3 | ⟨h3, h4 | ⟨h4, h5 | ⟨h5, h6 | ⟨h6, h7 | ⟨h7, h8⟩⟩⟩⟩⟩⟩
    all_goals
      go_enter Try.func13, Try.ntmps13
      go_wp2
      go_ret
      exact ⟨by simp, hB0⟩
  · rw [hh]
    clear hh
    rcases hop with h1 | ⟨h1, h2⟩
    all_goals
      go_enter Try.func13, Try.ntmps13
      go_wp2_with fail
      refine HE.out.mono ?_
      rintro e w1 ⟨A, c, rfl, _, _, hB1⟩
      go_wp2
      go_ret
      exact ⟨by simp, hB0.trans (hB1.mono hB0.size)⟩

set_option maxRecDepth 100000 in
set_option maxHeartbeats 1000000 in
theorem rpencode_bad (p : PktV) (w : World) (hp : Pk w w.heap.size p) (hL : p.L.length ≤ 100) (hdm : ∀ x ∈ p.L, x.data.length ≤ 1000) (hr : rightB p = false) :
    Calls Try.prog 11 #[p.v] w (GivesB w [] 1) := by
  have hB0 : Below w.heap.size w (w.alloc (pbox p)) := (Below.refl _ _).alloc (Nat.le_refl _) _
  have HE := Lib.hid (rright_any p (w.alloc (pbox p)) (hp.boxed (pbox p)) hL hdm)
  rw [hr] at HE
  clear hr hp hdm
  go_enter Try.func11, Try.ntmps11
  go_wp2_with fail
  refine HE.out.mono ?_
  rintro e w1 ⟨rfl, hB1⟩
  go_wp2
  go_ret2
  exact ⟨none, 0, rfl, By.nil, Nat.le_refl _, hB0.trans (hB1.mono hB0.size)⟩

set_option maxRecDepth 100000 in
set_option maxHeartbeats 400000 in
theorem rpencode_ok (p : PktV) (w : World) (hp : Pk w w.heap.size p) (hR : PkR p) (hL : p.L.length ≤ 100) (hdm : ∀ x ∈ p.L, x.data.length ≤ 1000) (hr : rightB p = true) :
    Calls Try.prog 11 #[p.v] w (GivesB w (headL p.abs ++ (encL (absL p.L)).1) 0) := by
  obtain ⟨hq, hh⟩ := (right_iff p).1 hr
  obtain ⟨hop, hsecs, hflags, hlen1, hlen16⟩ := (head_iff p).1 hh
  obtain ⟨w0, hw0⟩ : ∃ w0, w0 = w.alloc (pbox p) := ⟨_, rfl⟩
  have HB0 : Hid (Below w.heap.size w w0) := Lib.hid (by rw [hw0]; exact (Below.refl _ _).alloc (Nat.le_refl _) _)
  have HX : Hid (PBox w0 w.heap.size p) := Lib.hid (by rw [hw0]; exact PBox.new w p)
  have HP : Hid (Pk w0 w0.heap.size p) := Lib.hid (hp.later HB0.out)
  have HE := Lib.hid (rright_any p w0 HP.out hL hdm)
  rw [hr] at HE
  have HDM := Lib.hid hdm
  have HQ := Lib.hid hq
  have hol := encL_len (absL p.L)
  clear hr hp hdm hq hh
  obtain ⟨ol, hole⟩ : ∃ ol, ol = (encL (absL p.L)).1 := ⟨_, rfl⟩
  rw [← hole] at hol
  rw [← hole]
  have HO := Lib.hid hole
  have HW := Lib.hid hw0
  clear hole hw0
  have HN1 : Hid (∀ W, Calls Try.prog 29 #[.int .i64 (p.xid : Int), .int .i64 4] W (GivesV W (beL p.xid 4))) := Lib.hid (fun W => rpnum_any p.xid 4 (by omega) (by omega) (by have := hR.xid; omega) W)
  have HN2 : Hid (∀ W, Calls Try.prog 29 #[.int .i64 (p.secs.toNat : Int), .int .i64 2] W (GivesV W (beL p.secs.toNat 2))) := Lib.hid (fun W => rpnum_any p.secs.toNat 2 (by omega) (by omega) (by omega) W)
  have HN3 : Hid (∀ W, Calls Try.prog 29 #[.int .i64 (p.flags.toNat : Int), .int .i64 2] W (GivesV W (beL p.flags.toNat 2))) := Lib.hid (fun W => rpnum_any p.flags.toNat 2 (by omega) (by omega) (by omega) W)
  have HN4 : Hid (∀ W, Calls Try.prog 29 #[.int .i64 (p.ci : Int), .int .i64 4] W (GivesV W (beL p.ci 4))) := Lib.hid (fun W => rpnum_any p.ci 4 (by omega) (by omega) (by have := hR.ci; omega) W)
  have HN5 : Hid (∀ W, Calls Try.prog 29 #[.int .i64 (p.yi : Int), .int .i64 4] W (GivesV W (beL p.yi 4))) := Lib.hid (fun W => rpnum_any p.yi 4 (by omega) (by omega) (by have := hR.yi; omega) W)
  have HN6 : Hid (∀ W, Calls Try.prog 29 #[.int .i64 (p.si : Int), .int .i64 4] W (GivesV W (beL p.si 4))) := Lib.hid (fun W => rpnum_any p.si 4 (by omega) (by omega) (by have := hR.si; omega) W)
  have HN7 : Hid (∀ W, Calls Try.prog 29 #[.int .i64 (p.gi : Int), .int .i64 4] W (GivesV W (beL p.gi 4))) := Lib.hid (fun W => rpnum_any p.gi 4 (by omega) (by omega) (by have := hR.gi; omega) W)
  rw [Int.toNat_of_nonneg hsecs.1] at HN2
  rw [Int.toNat_of_nonneg hflags.1] at HN3
  have hwo : IntKind.u8.wrap p.op = p.op := by simp [IntKind.wrap, IntKind.bits, IntKind.signed]; omega
  have hwl : IntKind.u8.wrap (p.hw.length : Int) = p.hw.length := by simp [IntKind.wrap, IntKind.bits, IntKind.signed]; omega
  have HOP := Lib.hid hop
  have HSE := Lib.hid hsecs
  have HFL := Lib.hid hflags
  have HRR := Lib.hid hR
  clear hop hsecs hflags hR
  go_enter Try.func11, Try.ntmps11
  go_wp2_with fail
  rw [← HW.out]
  refine HE.out.mono ?_
  rintro e w1 ⟨rfl, hB1⟩
  have HX1 := Lib.hid (HX.out.later hB1)
  have HP1 := Lib.hid (HP.out.later hB1)
  have HB1 := Lib.hid (HB0.out.trans (hB1.mono HB0.out.size))
  clear hB1
  have c0 := HX1.out.c0
  have c8 := HX1.out.c8
  have R0 : Row w1 (w1.alloc (.cells #[.int .u8 p.op, .int .u8 1, .int .u8 (p.hw.length : Int), .int .u8 0] 5)) (.slice (some ⟨w1.heap.size, 0, none⟩) 4 4) [UInt8.ofNat p.op.toNat, 1, UInt8.ofNat p.hw.length, 0] := by
    have e1 : ((UInt8.ofNat p.op.toNat).toNat : Int) = p.op := by
      have := HOP.out
      rw [UInt8.toNat_ofNat', Nat.mod_eq_of_lt (by omega)]; omega
    have e2 : (UInt8.ofNat p.hw.length).toNat = p.hw.length := by
      rw [UInt8.toNat_ofNat', Nat.mod_eq_of_lt (by omega)]
    have h := World.ownsRow_lit (base := w1.heap.size) (e := 5) (size := 1) w1 #[.int .u8 p.op, .int .u8 1, .int .u8 (p.hw.length : Int), .int .u8 0] 4 (Nat.le_refl _) (by unfold maxLen; omega) rfl
    refine ⟨?_, (Below.refl _ _).alloc (Nat.le_refl _) _⟩
    simp only [bcells, List.map_cons, List.map_nil, bV, e1, e2]
    exact h
  have c1 := (HX1.out.later R0.low).c1
  have hxid := HRR.out.xid
  have hci := HRR.out.ci
  have hyi := HRR.out.yi
  have hsi := HRR.out.si
  have hgi := HRR.out.gi
  go_wp2_with fail
  clear c0 c8 c1 hwo hwl
  refine (HN1.out _).mono ?_
  rintro e w5 ⟨A1, k1, rfl, hby1, hB5⟩
  have R1 := R0.later hB5
  clear R0 hB5
  go_wp2_with (at_builtin; refine wpList_row rfl (.tmp 20) (.tmp 24) rfl rfl R1 (beL p.xid 4) rfl rfl hby1 (by simp [beL_length]) ?_; intro v2 w6 R2 _; have c2 := (HX1.out.later R2.low).c2)
  clear hby1 R1
  refine (HN2.out _).mono ?_
  rintro e w7 ⟨A2, k2, rfl, hby2, hB7⟩
  have R2b := R2.later hB7
  clear R2 c2 hB7
  go_wp2_with (at_builtin; refine wpList_row rfl (.tmp 26) (.tmp 29) rfl rfl R2b (beL p.secs.toNat 2) rfl rfl hby2 (by simp [beL_length]) ?_; intro v3 w8 R3 _; have c3 := (HX1.out.later R3.low).c3)
  clear hby2 R2b
  refine (HN3.out _).mono ?_
  rintro e w9 ⟨A3, k3, rfl, hby3, hB9⟩
  have R3b := R3.later hB9
  clear R3 c3 hB9
  go_wp2_with (at_builtin; refine wpList_row rfl (.tmp 31) (.tmp 34) rfl rfl R3b (beL p.flags.toNat 2) rfl rfl hby3 (by simp [beL_length]) ?_; intro v4 w10 R4 _; have c4 := (HX1.out.later R4.low).c4)
  clear hby3 R3b
  refine (HN4.out _).mono ?_
  rintro e w11 ⟨A4, k4, rfl, hby4, hB11⟩
  have R4b := R4.later hB11
  clear R4 c4 hB11
  go_wp2_with (at_builtin; refine wpList_row rfl (.tmp 36) (.tmp 40) rfl rfl R4b (beL p.ci 4) rfl rfl hby4 (by simp [beL_length]) ?_; intro v5 w12 R5 _; have c5 := (HX1.out.later R5.low).c5)
  clear hby4 R4b
  refine (HN5.out _).mono ?_
  rintro e w13 ⟨A5, k5, rfl, hby5, hB13⟩
  have R5b := R5.later hB13
  clear R5 c5 hB13
  go_wp2_with (at_builtin; refine wpList_row rfl (.tmp 42) (.tmp 46) rfl rfl R5b (beL p.yi 4) rfl rfl hby5 (by simp [beL_length]) ?_; intro v6 w14 R6 _; have c6 := (HX1.out.later R6.low).c6)
  clear hby5 R5b
  refine (HN6.out _).mono ?_
  rintro e w15 ⟨A6, k6, rfl, hby6, hB15⟩
  have R6b := R6.later hB15
  clear R6 c6 hB15
  go_wp2_with (at_builtin; refine wpList_row rfl (.tmp 48) (.tmp 52) rfl rfl R6b (beL p.si 4) rfl rfl hby6 (by simp [beL_length]) ?_; intro v7 w16 R7 _; have c7 := (HX1.out.later R7.low).c7)
  clear hby6 R6b
  refine (HN7.out _).mono ?_
  rintro e w17 ⟨A7, k7, rfl, hby7, hB17⟩
  have R7b := R7.later hB17
  clear R7 c7 hB17
  obtain ⟨l7, hl7⟩ : ∃ l7, l7 = [UInt8.ofNat p.op.toNat, 1, UInt8.ofNat p.hw.length, 0] ++ beL p.xid 4 ++ beL p.secs.toNat 2 ++ beL p.flags.toNat 2 ++ beL p.ci 4 ++ beL p.yi 4 ++ beL p.si 4 := ⟨_, rfl⟩
  rw [← hl7] at R7b
  have hl7n : l7.length = 24 := by rw [hl7]; simp [beL_length]
  have HL7 := Lib.hid hl7
  clear hl7 hxid hci hyi hsi hgi
  have h8n : (l7 ++ beL p.gi 4).length = 28 := by rw [List.length_append, beL_length, hl7n]
  go_wp2_with (first
    | (at_builtin; refine wpList_row rfl (.tmp 54) (.tmp 58) rfl rfl R7b (beL p.gi 4) rfl rfl hby7 (by rw [beL_length]; omega) ?_; intro v8 w18 R8 _; have c8 := (HX1.out.later R8.low).c8; have hbh := HP1.out.hw.below R8.low)
    | (at_builtin; refine wpList_row rfl (.tmp 60) (.tmp 62) rfl rfl R8 p.hw rfl rfl hbh (by omega) ?_; intro v9 w19 R9 _; have d8 := (HX1.out.later R9.low).c8)
    | (at_builtin; refine wpList_rowZ rfl (.tmp 64) (.tmp 69) rfl rfl R9 (by rw [List.length_append]; omega) (16 - p.hw.length + 192) (by omega) rfl (by rw [List.length_append]; omega) ?_; intro v10 w20 R10 _; have R10b := R10.alloc (.cells #[.int .u8 99, .int .u8 130, .int .u8 83, .int .u8 99] 5); have hbm := mark_bytes w20 5)
    | (at_builtin; refine wpList_row rfl (.tmp 71) (.tmp 72) rfl rfl R10b [99, 130, 83, 99] rfl rfl hbm (by simp [beL_length]; omega) ?_; intro v11 w21 R11 _; have c9 := (HX1.out.later R11.low).c9))
  have HE2 := Lib.hid (rencode_any p.opA p.opC p.L w21 ((HP1.out.later R11.low).opt) hL HDM.out)
  rw [HQ.out, ← HO.out] at HE2
  refine HE2.out.mono ?_
  rintro e w22 ⟨A9, k9, rfl, hby9, _, hB22⟩
  have R12 := R11.later hB22
  clear c8 hbh d8 hbm c9 R8 R9 R10 R10b R11 hB22 R7b hby7
  obtain ⟨l12, hl12⟩ : ∃ l12, l12 = l7 ++ beL p.gi 4 ++ p.hw ++ List.replicate (16 - p.hw.length + 192) 0 ++ [99, 130, 83, 99] := ⟨_, rfl⟩
  rw [← hl12] at R12
  have hl12n : l12.length = 240 := by rw [hl12]; simp [beL_length]; omega
  have HL12 := Lib.hid hl12
  clear hl12
  go_wp2_with (at_builtin; refine wpList_row rfl (.tmp 80) (.tmp 81) rfl rfl R12 ol rfl rfl hby9 (by omega) ?_; intro v13 w23 R13 _)
  have hfin : l12 ++ ol = headL p.abs ++ ol := by
    rw [HL12.out, HL7.out]
    simp [headL, PktV.abs]
  rw [hfin] at R13
  obtain ⟨Af, cf, rfl, hcf, hbyf⟩ := R13.form
  go_ret2
  exact ⟨Af, cf, rfl, hbyf, hcf, HB1.out.trans (R13.low.mono HB1.out.size)⟩

theorem rpencode_any (p : PktV) (w : World) (hp : Pk w w.heap.size p) (hR : PkR p) (hL : p.L.length ≤ 100) (hdm : ∀ x ∈ p.L, x.data.length ≤ 1000) :
    Calls Try.prog 11 #[p.v] w (GivesB w (encP p.abs).1 (encP p.abs).2) := by
  cases hr : rightB p
  · rw [encP_bad (by rw [← right_abs]; exact hr)]
    exact rpencode_bad p w hp hL hdm hr
  · rw [encP_ok (by rw [← right_abs]; exact hr)]
    exact rpencode_ok p w hp hR hL hdm hr
end Go.Proofs.Ytmlckjccgdmknaa
