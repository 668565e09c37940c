/- The law DiskScripts. -/
import Derived.Test.YtofaapcfileojaaDskX
import Derived.Deep.RegionHeld3
namespace Go.Proofs.Ytofaapcfileojaa
open Go.RowKit

set_option maxRecDepth 100000 in
set_option maxHeartbeats 8000000 in
theorem law_scripts (room : Int) (A : Option Addr) (c : Nat) (L : List StV) (w : World) (hL : St w w.heap.size A L) (hlen : L.length ≤ 9223372036854775807) (hdl : ∀ x ∈ L, x.data.length ≤ 9223372036854775807) :
    Calls Try.prog 3 #[.int .i64 room, .slice A L.length c] w fun e w' => e = .returned (.bool true) ∧ Below w.heap.size w w' := by
  have HA := Lib.hid (awake_any w)
  have HL := Lib.hid hL
  have HLen := Lib.hid hlen
  have HDL := Lib.hid hdl
  clear hL hdl
  go_enter Try.func3, Try.ntmps3
  go_wp2_with fail
  refine HA.out.mono ?_
  rintro e w1 ⟨rfl, hb1⟩
  have HB1 := Lib.hid hb1
  have HLong := Lib.hid (long_any (c := c) (HL.out.below hb1) HLen.out HDL.out)
  have HN := Lib.hid (new_any w1 room)
  clear hb1
  obtain ⟨lb, hlb⟩ : ∃ lb, lb = longB L := ⟨_, rfl⟩
  rw [← hlb] at HLong
  have HLb := Lib.hid hlb
  clear hlb
  go_wp2_with fail
  refine HLong.out.mono ?_
  rintro e w1' ⟨rfl, rfl⟩
  go_wp2_with fail
  refine HN.out.mono ?_
  rintro e w2 (⟨k, rfl, hk0, hk1, rfl, h2, hb2, hz2⟩ | ⟨h0, rfl, rfl⟩)
  · obtain ⟨D, hD⟩ : ∃ D, D = w1.heap.size := ⟨_, rfl⟩
    have hlow : w.heap.size ≤ D := by rw [hD]; exact HB1.out.size
    rw [← hD] at h2 hb2 ⊢
    have HLow := Lib.hid hlow
    have H2 := Lib.hid h2
    have HB2 := Lib.hid (HB1.out.trans (hb2.mono hlow))
    have HR := Lib.hid (rnew_any w2 k)
    have HK := Lib.hid (And.intro hk0 hk1)
    clear hD hlow h2 hb2 hz2 hk0 hk1
    go_wp2_with fail
    refine HR.out.mono ?_
    rintro e w3 (⟨k', hkk, _, _, rfl, h3, hb3, _⟩ | ⟨h0, _⟩)
    · obtain rfl : k = k' := by omega
      obtain ⟨R, hR⟩ : ∃ R, R = w2.heap.size := ⟨_, rfl⟩
      have hlowR : w.heap.size ≤ R := by rw [hR]; exact HB2.out.size
      rw [← hR] at h3 ⊢
      have HLowR := Lib.hid hlowR
      have HT := Lib.hid (two_new rfl H2.out h3 hR hb3)
      have HB3 := Lib.hid (HB2.out.trans (hb3.mono HB2.out.size))
      clear hkk hR hlowR h3 hb3
      cases lb
      · have hlf := long_false HLb.out.symm
        have HLF := Lib.hid hlf
        clear hlf
        have hl120 : L.length ≤ 120 := HLF.out.1
        go_wp2
        go_loopw [11, 12] (fun i _ wr => ∃ j : Nat, j ≤ L.length ∧ i = .int .i64 j ∧ Two (R + 1) D R (runD k (L.take j)) wr ∧ Below w.heap.size w wr) (fun i _ _ => L.length - (intOf i).toNat)
        case atStart => exact ⟨0, Nat.zero_le _, rfl, HT.out, HB3.out⟩
        case round =>
          obtain ⟨j, hj, rfl, hT, hbj⟩ := hrel
          have HTj := Lib.hid hT
          have HBj := Lib.hid hbj
          clear hT hbj
          by_cases hlt : j < L.length
          · obtain ⟨x, hx⟩ : ∃ x, L[j]? = some x := ⟨_, List.getElem?_eq_getElem hlt⟩
            have HSt := Lib.hid (HL.out.below HBj.out)
            obtain ⟨b, o, rfl, _, c0, c1, c2⟩ := HSt.out.at_ j x hx
            have hmem := List.mem_of_getElem? hx
            have hnum : ∀ y ∈ L.take j, y.n ≤ 9223372036854775807 := fun y hy => HL.out.num y (List.mem_of_mem_take hy)
            have hok := runD_ok HK.out.1 HK.out.2 (L.take j) hnum
            have HS := Lib.hid (step_any HTj.out hok HLow.out HLowR.out x (HSt.out.data x hmem) (HLF.out.2 x hmem))
            rw [← runD_snoc, ← take_snoc_of _ _ _ hx] at HS
            have hok2 := runD_ok HK.out.1 HK.out.2 (L.take (j + 1)) (fun y hy => HL.out.num y (List.mem_of_mem_take hy))
            have HOk2 := Lib.hid hok2
            have HX := Lib.hid hx
            have Hlt := Lib.hid hlt
            clear hx hmem hnum hok hok2
            go_wp2_with fail
            refine HS.out.mono ?_
            rintro e w4 ⟨rfl, hT4, hb4⟩
            clear c0 c1 c2
            have HT4 := Lib.hid hT4
            have HB4 := Lib.hid (HBj.out.trans hb4)
            obtain ⟨v, u, hd4, hr4, _, _⟩ := hT4
            have HRd := Lib.hid (read_any hd4.drew HOk2.out)
            have HD4 := Lib.hid hd4
            have HR4 := Lib.hid hr4
            have hself := fun (a : List UInt8) => (beq_self_eq_true a)
            obtain ⟨s4, hs4⟩ : ∃ s4, s4 = runD k (L.take (j + 1)) := ⟨_, rfl⟩
            rw [← hs4] at HT4 HRd HD4 HR4
            have HS4 := Lib.hid hs4
            have hU0 := HR4.out
            obtain ⟨Au, cu, rfl, _, hbu⟩ := hU0.form
            have u1 := hU0.c1
            have u2 := hU0.c2
            have hcu : (convert 33 9 (.slice Au s4.bs.length cu)).run Try.prog w4.drew = .ok (.string ⟨s4.bs.toArray⟩) w4.drew := str_run cu hbu.drew
            have HBu := Lib.hid hbu
            obtain ⟨bl, hbl⟩ : ∃ bl, bl = s4.bs := ⟨_, rfl⟩
            obtain ⟨ll, hll⟩ : ∃ ll, ll = s4.last := ⟨_, rfl⟩
            rw [← hbl] at u1 hcu HBu HRd
            rw [← hll] at u2
            have HLL := Lib.hid hll
            clear hb4 hd4 hr4 hs4 hU0 hbu hbl hll
            go_upto_region 11 with fail
            refine wp_region_held_drew (S := (fun w' => w'.cell? ⟨R, 1, none⟩ = some (.slice Au bl.length cu) ∧ w'.cell? ⟨R, 2, none⟩ = some (.int .i64 (ll : Int)) ∧ (convert 33 9 (.slice Au bl.length cu)).run Try.prog w' = .ok (.string ⟨bl.toArray⟩) w')) (by kernel_rfl) ?hS (fun hHeld => ?_)
            case hS => (exact ⟨u1, u2, hcu⟩)
            refine wpAnyH_take (i := 0) (oi := { dst := some 64, op := Op.move (Operand.tmp 12), type := 4, pos := "law.go:72", after := #[], guard := none }) (v := ?v0) rfl (by kernel_rfl) (by kernel_rfl) (by kernel_rfl) (fun _ _ _ h => h) (Or.inl ⟨by rfl, ?hy0⟩) (by assumption) ?_
            case hy0 => (intro w hSw; (try dsimp only at hSw); go_simp; (try with_reducible rfl))
            try simp only [Act.put, List.setIfInBounds_toArray, List.set_cons_zero, List.set_cons_succ]
            refine wpAnyH_take (i := 1) (oi := { dst := some 65, op := Op.unOp UnOp.not 4 (Operand.tmp 64), type := 4, pos := "law.go:72", after := #[{ on := 0, ground := Ground.data }], guard := none }) (v := ?v1) rfl (by kernel_rfl) (by kernel_rfl) (by kernel_rfl) (fun _ _ _ h => h) (Or.inl ⟨by rfl, ?hy1⟩) (by assumption) ?_
            case hy1 => (intro w hSw; (try dsimp only at hSw); go_simp; (try with_reducible rfl))
            try simp only [Act.put, List.setIfInBounds_toArray, List.set_cons_zero, List.set_cons_succ]
            refine wpAnyH_take (i := 2) (oi := { dst := some 66, op := Op.move (Operand.tmp 65), type := 4, pos := "law.go:72", after := #[{ on := 1, ground := Ground.data }], guard := none }) (v := ?v2) rfl (by kernel_rfl) (by kernel_rfl) (by kernel_rfl) (fun _ _ _ h => h) (Or.inl ⟨by rfl, ?hy2⟩) (by assumption) ?_
            case hy2 => (intro w hSw; (try dsimp only at hSw); go_simp; (try with_reducible rfl))
            try simp only [Act.put, List.setIfInBounds_toArray, List.set_cons_zero, List.set_cons_succ]
            refine wpAnyH_take (i := 3) (oi := { dst := some 67, op := Op.move (Operand.tmp 7), type := 25, pos := "law.go:72", after := #[{ on := 2, ground := Ground.guard }], guard := some (2, false) }) (v := ?v3) rfl (by kernel_rfl) (by kernel_rfl) (by kernel_rfl) (fun _ _ _ h => h) (Or.inl ⟨by rfl, ?hy3⟩) (by assumption) ?_
            case hy3 => (intro w hSw; (try dsimp only at hSw); go_simp; (try with_reducible rfl))
            try simp only [Act.put, List.setIfInBounds_toArray, List.set_cons_zero, List.set_cons_succ]
            refine wpAnyH_take (i := 6) (oi := { dst := some 70, op := Op.move (Operand.tmp 9), type := 29, pos := "law.go:72", after := #[{ on := 2, ground := Ground.guard }], guard := some (2, false) }) (v := ?v6) rfl (by kernel_rfl) (by kernel_rfl) (by kernel_rfl) (fun _ _ _ h => h) (Or.inl ⟨by rfl, ?hy6⟩) (by assumption) ?_
            case hy6 => (intro w hSw; (try dsimp only at hSw); go_simp; (try with_reducible rfl))
            try simp only [Act.put, List.setIfInBounds_toArray, List.set_cons_zero, List.set_cons_succ]
            refine wpAnyH_take (i := 7) (oi := { dst := some 71, op := Op.nilCheck (Operand.tmp 70), type := 0, pos := "law.go:72", after := #[{ on := 6, ground := Ground.data }, { on := 2, ground := Ground.guard }], guard := some (2, false) }) (v := ?v7) rfl (by kernel_rfl) (by kernel_rfl) (by kernel_rfl) (fun _ _ _ h => h) (Or.inl ⟨by rfl, ?hy7⟩) (by assumption) ?_
            case hy7 => (intro w hSw; (try dsimp only at hSw); go_simp; (try with_reducible rfl))
            try simp only [Act.put, List.setIfInBounds_toArray, List.set_cons_zero, List.set_cons_succ]
            refine wpAnyH_take (i := 8) (oi := { dst := some 72, op := Op.fieldAddr 38 (Operand.tmp 71) 1, type := 0, pos := "law.go:72", after := #[{ on := 7, ground := Ground.data }, { on := 2, ground := Ground.guard }], guard := some (2, false) }) (v := ?v8) rfl (by kernel_rfl) (by kernel_rfl) (by kernel_rfl) (fun _ _ _ h => h) (Or.inl ⟨by rfl, ?hy8⟩) (by assumption) ?_
            case hy8 => (intro w hSw; (try dsimp only at hSw); go_simp; (try with_reducible rfl))
            try simp only [Act.put, List.setIfInBounds_toArray, List.set_cons_zero, List.set_cons_succ]
            refine wpAnyH_take (i := 9) (oi := { dst := some 73, op := Op.load 33 (Operand.tmp 72), type := 33, pos := "law.go:72", after := #[{ on := 8, ground := Ground.data }, { on := 2, ground := Ground.guard }], guard := some (2, false) }) (v := ?v9) rfl (by kernel_rfl) (by kernel_rfl) (by kernel_rfl) (fun _ _ _ h => h) (Or.inl ⟨by rfl, ?hy9⟩) (by assumption) ?_
            case hy9 => (intro w hSw; (try dsimp only at hSw); go_simp; (try with_reducible rfl))
            try simp only [Act.put, List.setIfInBounds_toArray, List.set_cons_zero, List.set_cons_succ]
            refine wpAnyH_take (i := 10) (oi := { dst := some 74, op := Op.convert 33 9 (Operand.tmp 73), type := 9, pos := "law.go:72", after := #[{ on := 9, ground := Ground.data }, { on := 2, ground := Ground.guard }], guard := some (2, false) }) (v := ?v10) rfl (by kernel_rfl) (by kernel_rfl) (by kernel_rfl) (fun _ _ _ h => h) (Or.inl ⟨by rfl, ?hy10⟩) (by assumption) ?_
            case hy10 => (intro w hSw; (try dsimp only at hSw); go_simp; (try with_reducible rfl))
            try simp only [Act.put, List.setIfInBounds_toArray, List.set_cons_zero, List.set_cons_succ]
            refine wpAnyH_ready (rs := [4]) (by kernel_rfl) (by simp) ?_
            refine AllReadyH.cons (o := { dst := some 68, op := Op.call { callee := Callee.value (Operand.func 13), args := #[Operand.tmp 67], argTypes := #[25] }, type := 33, pos := "law.go:72", after := #[{ on := 3, ground := Ground.data }, { on := 2, ground := Ground.chain }, { on := 2, ground := Ground.guard }], guard := some (2, false) }) rfl (fun K hK => ?_) AllReadyH.nil
            go_simp
            refine HRd.out.mono ?_
            intro e w6 hg6
            obtain ⟨A6, c6, rfl, _, hb6, hs6⟩ := give_str hg6
            have hsA := hs6 w6 (Below.refl _ _)
            have hsU : (convert 33 9 (.slice Au bl.length cu)).run Try.prog w6 = .ok (.string ⟨bl.toArray⟩) w6 := str_run cu (HBu.out.drew.later hb6)
            have k1 := (hb6.cell (p := ⟨R, 1, none⟩) HR4.out.dlt).trans u1
            have k2 := (hb6.cell (p := ⟨R, 2, none⟩) HR4.out.dlt).trans u2
            have HLa := Lib.hid (lasts_any (HD4.out.drew.below hb6))
            rw [← HLL.out] at HLa
            have HB6 := Lib.hid hb6
            clear hb6 hs6 hg6
            go_wp2_with fail
            clear hHeld
            refine hK.out _ _ ?hS4 (fun hHeld => ?_)
            case hS4 => (exact ⟨k1, k2, hsU⟩)
            clear hK K
            try simp only [Act.put, List.setIfInBounds_toArray, List.set_cons_zero, List.set_cons_succ]
            refine wpAnyH_ready (rs := [5]) (by kernel_rfl) (by simp) ?_
            refine AllReadyH.cons (o := { dst := some 69, op := Op.convert 33 9 (Operand.tmp 68), type := 9, pos := "law.go:72", after := #[{ on := 4, ground := Ground.data }, { on := 2, ground := Ground.guard }], guard := some (2, false) }) rfl (fun K hK => ?_) AllReadyH.nil
            go_simp
            clear hHeld
            refine hK.out _ _ ?hS5 (fun hHeld => ?_)
            case hS5 => (exact ⟨k1, k2, hsU⟩)
            clear hK K
            try simp only [Act.put, List.setIfInBounds_toArray, List.set_cons_zero, List.set_cons_succ]
            refine wpAnyH_take (i := 11) (oi := { dst := some 75, op := Op.binOp BinOp.neq 9 (Operand.tmp 69) (Operand.tmp 74) 9, type := 4, pos := "law.go:72", after := #[{ on := 5, ground := Ground.data }, { on := 10, ground := Ground.data }, { on := 2, ground := Ground.guard }], guard := some (2, false) }) (v := ?v11) rfl (by kernel_rfl) (by kernel_rfl) (by kernel_rfl) (fun _ _ _ h => h) (Or.inl ⟨by rfl, ?hy11⟩) (by assumption) ?_
            case hy11 => (intro w hSw; (try dsimp only at hSw); go_simp; (try with_reducible rfl))
            try simp only [Act.put, List.setIfInBounds_toArray, List.set_cons_zero, List.set_cons_succ]
            refine wpAnyH_take (i := 12) (oi := { dst := some 76, op := Op.pick (Operand.tmp 66) (Operand.const (Value.bool true)) (Operand.tmp 75), type := 4, pos := "law.go:72", after := #[{ on := 2, ground := Ground.data }, { on := 11, ground := Ground.data }], guard := none }) (v := ?v12) rfl (by kernel_rfl) (by kernel_rfl) (by kernel_rfl) (fun _ _ _ h => h) (Or.inl ⟨by rfl, ?hy12⟩) (by assumption) ?_
            case hy12 => (intro w hSw; (try dsimp only at hSw); go_simp; (try with_reducible rfl))
            try simp only [Act.put, List.setIfInBounds_toArray, List.set_cons_zero, List.set_cons_succ]
            refine wpAnyH_take (i := 13) (oi := { dst := some 77, op := Op.move (Operand.tmp 76), type := 4, pos := "law.go:72", after := #[{ on := 12, ground := Ground.data }, { on := 4, ground := Ground.chain }], guard := none }) (v := ?v13) rfl (by kernel_rfl) (by kernel_rfl) (by kernel_rfl) (fun _ _ _ h => h) (Or.inl ⟨by rfl, ?hy13⟩) (by assumption) ?_
            case hy13 => (intro w hSw; (try dsimp only at hSw); go_simp; (try with_reducible rfl))
            try simp only [Act.put, List.setIfInBounds_toArray, List.set_cons_zero, List.set_cons_succ]
            refine wpAnyH_take (i := 14) (oi := { dst := some 78, op := Op.move (Operand.tmp 7), type := 25, pos := "law.go:72", after := #[{ on := 13, ground := Ground.guard }], guard := some (13, false) }) (v := ?v14) rfl (by kernel_rfl) (by kernel_rfl) (by kernel_rfl) (fun _ _ _ h => h) (Or.inl ⟨by rfl, ?hy14⟩) (by assumption) ?_
            case hy14 => (intro w hSw; (try dsimp only at hSw); go_simp; (try with_reducible rfl))
            try simp only [Act.put, List.setIfInBounds_toArray, List.set_cons_zero, List.set_cons_succ]
            refine wpAnyH_take (i := 16) (oi := { dst := some 80, op := Op.move (Operand.tmp 9), type := 29, pos := "law.go:72", after := #[{ on := 13, ground := Ground.guard }], guard := some (13, false) }) (v := ?v16) rfl (by kernel_rfl) (by kernel_rfl) (by kernel_rfl) (fun _ _ _ h => h) (Or.inl ⟨by rfl, ?hy16⟩) (by assumption) ?_
            case hy16 => (intro w hSw; (try dsimp only at hSw); go_simp; (try with_reducible rfl))
            try simp only [Act.put, List.setIfInBounds_toArray, List.set_cons_zero, List.set_cons_succ]
            refine wpAnyH_take (i := 17) (oi := { dst := some 81, op := Op.nilCheck (Operand.tmp 80), type := 0, pos := "law.go:72", after := #[{ on := 16, ground := Ground.data }, { on := 13, ground := Ground.guard }], guard := some (13, false) }) (v := ?v17) rfl (by kernel_rfl) (by kernel_rfl) (by kernel_rfl) (fun _ _ _ h => h) (Or.inl ⟨by rfl, ?hy17⟩) (by assumption) ?_
            case hy17 => (intro w hSw; (try dsimp only at hSw); go_simp; (try with_reducible rfl))
            try simp only [Act.put, List.setIfInBounds_toArray, List.set_cons_zero, List.set_cons_succ]
            refine wpAnyH_take (i := 18) (oi := { dst := some 82, op := Op.fieldAddr 38 (Operand.tmp 81) 2, type := 0, pos := "law.go:72", after := #[{ on := 17, ground := Ground.data }, { on := 13, ground := Ground.guard }], guard := some (13, false) }) (v := ?v18) rfl (by kernel_rfl) (by kernel_rfl) (by kernel_rfl) (fun _ _ _ h => h) (Or.inl ⟨by rfl, ?hy18⟩) (by assumption) ?_
            case hy18 => (intro w hSw; (try dsimp only at hSw); go_simp; (try with_reducible rfl))
            try simp only [Act.put, List.setIfInBounds_toArray, List.set_cons_zero, List.set_cons_succ]
            refine wpAnyH_take (i := 19) (oi := { dst := some 83, op := Op.load 3 (Operand.tmp 82), type := 3, pos := "law.go:72", after := #[{ on := 18, ground := Ground.data }, { on := 13, ground := Ground.guard }], guard := some (13, false) }) (v := ?v19) rfl (by kernel_rfl) (by kernel_rfl) (by kernel_rfl) (fun _ _ _ h => h) (Or.inl ⟨by rfl, ?hy19⟩) (by assumption) ?_
            case hy19 => (intro w hSw; (try dsimp only at hSw); go_simp; (try with_reducible rfl))
            try simp only [Act.put, List.setIfInBounds_toArray, List.set_cons_zero, List.set_cons_succ]
            refine wpAnyH_ready (rs := [15]) (by kernel_rfl) (by simp) ?_
            refine AllReadyH.cons (o := { dst := some 79, op := Op.call { callee := Callee.value (Operand.func 14), args := #[Operand.tmp 78], argTypes := #[25] }, type := 3, pos := "law.go:72", after := #[{ on := 14, ground := Ground.data }, { on := 13, ground := Ground.chain }, { on := 13, ground := Ground.guard }], guard := some (13, false) }) rfl (fun K hK => ?_) AllReadyH.nil
            go_simp
            refine HLa.out.mono ?_
            rintro e w7 ⟨rfl, rfl⟩
            go_wp2_with fail
            clear hHeld
            refine hK.out _ _ ?hS15 (fun hHeld => ?_)
            case hS15 => (exact ⟨k1, k2, hsU⟩)
            clear hK K
            try simp only [Act.put, List.setIfInBounds_toArray, List.set_cons_zero, List.set_cons_succ]
            refine wpAnyH_take (i := 20) (oi := { dst := some 84, op := Op.binOp BinOp.neq 3 (Operand.tmp 79) (Operand.tmp 83) 3, type := 4, pos := "law.go:72", after := #[{ on := 15, ground := Ground.data }, { on := 19, ground := Ground.data }, { on := 13, ground := Ground.guard }], guard := some (13, false) }) (v := ?v20) rfl (by kernel_rfl) (by kernel_rfl) (by kernel_rfl) (fun _ _ _ h => h) (Or.inl ⟨by rfl, ?hy20⟩) (by assumption) ?_
            case hy20 => (intro w hSw; (try dsimp only at hSw); go_simp; (try with_reducible rfl))
            try simp only [Act.put, List.setIfInBounds_toArray, List.set_cons_zero, List.set_cons_succ]
            refine wpAnyH_take (i := 21) (oi := { dst := some 85, op := Op.pick (Operand.tmp 77) (Operand.const (Value.bool true)) (Operand.tmp 84), type := 4, pos := "law.go:72", after := #[{ on := 13, ground := Ground.data }, { on := 20, ground := Ground.data }], guard := none }) (v := ?v21) rfl (by kernel_rfl) (by kernel_rfl) (by kernel_rfl) (fun _ _ _ h => h) (Or.inl ⟨by rfl, ?hy21⟩) (by assumption) ?_
            case hy21 => (intro w hSw; (try dsimp only at hSw); go_simp; (try with_reducible rfl))
            try simp only [Act.put, List.setIfInBounds_toArray, List.set_cons_zero, List.set_cons_succ]
            refine wpAnyH_done (by kernel_rfl) ?_ _
            have hT6 : Two (R + 1) D R (runD k (L.take (j + 1))) w6 := by
              rw [← HS4.out]
              exact HT4.out.below ((Below.refl w4.heap.size w4).drew.trans HB6.out)
            have hB6 : Below w.heap.size w w6 := HB4.out.trans (((Below.refl w4.heap.size w4).drew.trans HB6.out).mono HB4.out.size)
            have HT6 := Lib.hid hT6
            have HB6' := Lib.hid hB6
            clear hT6 hB6 hsA hsU k1 k2 u1 u2 hcu
            go_wp2
            go_roundw
            case rel => exact ⟨j + 1, Hlt.out, by go_num, HT6.out, HB6'.out⟩
            case measure => have := Hlt.out; simp [intOf]; omega
          · obtain rfl : j = L.length := by omega
            go_wp2
            go_ret
            exact ⟨rfl, HBj.out⟩
      · go_wp2
        go_ret
        exact ⟨rfl, HB3.out⟩
    · exact absurd ⟨by have := HK.out; omega, by have := HK.out; omega⟩ h0
  · have HR := Lib.hid (rnew_any w2 room)
    have H0 := Lib.hid h0
    clear h0
    go_wp2_with fail
    refine HR.out.mono ?_
    rintro e w3 (⟨k', hkk, hk1, hk2, _⟩ | ⟨_, rfl, rfl⟩)
    · exact absurd ⟨by omega, by omega⟩ H0.out
    · cases lb
      · have hlf := long_false HLb.out.symm
        have hl120 : L.length ≤ 120 := hlf.1
        clear hlf
        go_wp2
        go_loopw [11, 12] (fun i _ wr => i = .int .i64 0 ∧ Below w.heap.size w wr) (fun _ _ _ => 0)
        case atStart => exact ⟨rfl, HB1.out⟩
        case round =>
          obtain ⟨rfl, hbr⟩ := hrel
          have HBr := Lib.hid hbr
          clear hbr
          by_cases hl0 : 0 < L.length
          · go_wp2
            go_ret
            exact ⟨rfl, HBr.out⟩
          · go_wp2
            go_ret
            exact ⟨rfl, HBr.out⟩
      · go_wp2
        go_ret
        exact ⟨rfl, HB1.out⟩

end Go.Proofs.Ytofaapcfileojaa
