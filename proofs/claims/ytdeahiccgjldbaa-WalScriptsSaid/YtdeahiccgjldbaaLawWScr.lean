/- The law WalScripts. -/
import Derived.Test.YtdeahiccgjldbaaWalW
import Derived.Deep.RegionHeld3
namespace Go.Proofs.Ytdeahiccgjldbaa
open Go.RowKit

set_option maxRecDepth 100000 in
set_option maxHeartbeats 8000000 in
theorem law_scripts (room : Int) (A : Option Addr) (c : Nat) (L : List StV) (w : World) (hL : St w w.heap.size A L) (hlen : L.length ≤ 9223372036854775807) (hdl : ∀ x ∈ L, x.data.length ≤ 9223372036854775807 ∧ x.rows.length ≤ 9223372036854775807) :
    Calls Try.prog 3 #[.int .i64 room, .slice A L.length c] w fun e w' => e = .returned (.bool true) ∧ Below w.heap.size w w' := by
  have HA := Lib.hid (awake_any w)
  have HL := Lib.hid hL
  have HLen := Lib.hid hlen
  have HDL := Lib.hid hdl
  clear hL hdl
  go_enter Try.func3, Try.ntmps3
  go_wp2_with fail
  refine HA.out.mono ?_
  rintro e w1 ⟨rfl, hb1⟩
  have HB1 := Lib.hid hb1
  have HLong := Lib.hid (long_any (c := c) (HL.out.below hb1) HLen.out HDL.out)
  have HN := Lib.hid (new_any w1 room)
  clear hb1
  obtain ⟨lb, hlb⟩ : ∃ lb, lb = longW L := ⟨_, rfl⟩
  rw [← hlb] at HLong
  have HLb := Lib.hid hlb
  clear hlb
  go_wp2_with fail
  refine HLong.out.mono ?_
  rintro e w1' ⟨rfl, rfl⟩
  go_wp2_with fail
  refine HN.out.mono ?_
  rintro e w2 (⟨k, rfl, hk0, hk1, rfl, h2, hb2, hz2⟩ | ⟨h0, rfl, rfl⟩)
  · obtain ⟨D, hD⟩ : ∃ D, D = w1.heap.size := ⟨_, rfl⟩
    have hlow : w.heap.size ≤ D := by rw [hD]; exact HB1.out.size
    rw [← hD] at h2 hb2 ⊢
    have HLow := Lib.hid hlow
    have H2 := Lib.hid h2
    have HB2 := Lib.hid (HB1.out.trans (hb2.mono hlow))
    have HR := Lib.hid (rnew_any w2 k)
    have HK := Lib.hid (And.intro hk0 hk1)
    clear hD hlow h2 hb2 hz2 hk0 hk1
    go_wp2_with fail
    refine HR.out.mono ?_
    rintro e w3 (⟨k', hkk, _, _, rfl, h3, hb3, _⟩ | ⟨h0, _⟩)
    · obtain rfl : k = k' := by omega
      obtain ⟨R, hR⟩ : ∃ R, R = w2.heap.size := ⟨_, rfl⟩
      have hlowR : w.heap.size ≤ R := by rw [hR]; exact HB2.out.size
      rw [← hR] at h3 ⊢
      have HLowR := Lib.hid hlowR
      have HT := Lib.hid (two_new rfl H2.out h3 hR hb3)
      have HB3 := Lib.hid (HB2.out.trans (hb3.mono HB2.out.size))
      have hok0 := ok_new HK.out.1 HK.out.2
      obtain ⟨v3, u3, hd3, hr3, ne3, ap3⟩ := HT.out
      have HD3 := Lib.hid hd3
      have HR3 := Lib.hid hr3
      have HNe := Lib.hid ne3
      have HAp := Lib.hid ap3
      have HOk0 := Lib.hid hok0
      have HO := Lib.hid (open_any hd3 hok0)
      rw [(Whl.new k 0 (-1)).open_] at HO
      clear hkk hR hlowR h3 hb3 hd3 hr3 ne3 ap3 hok0
      cases lb
      · have HLF := Lib.hid (longW_false HLb.out.symm)
        have hl80 : L.length ≤ 80 := HLF.out.1
        go_wp2_with fail
        refine HO.out.mono ?_
        rintro e w4 ⟨hd4, (⟨_, L4, rfl, hL4⟩ | ⟨hx, _⟩)⟩
        · have HB4 := Lib.hid (HB3.out.trans (Did.low HD3.out HLow.out hd4))
          obtain ⟨v4, h4, r4, a4⟩ := other HD3.out HR3.out HNe.out HAp.out hd4
          have H4 := Lib.hid h4
          have R4 := Lib.hid r4
          have A4 := Lib.hid a4
          have L4' := Lib.hid hL4
          have HO4 := Lib.hid (ropen_any r4 HOk0.out)
          rw [(Whl.new k 0 (-1)).open_] at HO4
          clear hd4 h4 r4 a4 hL4
          go_wp2_with fail
          refine HO4.out.mono ?_
          rintro e w5 ⟨hd5, (⟨_, M5, rfl, hM5⟩ | ⟨hx, _⟩)⟩
          · have HB5 := Lib.hid (HB4.out.trans (Did.low R4.out HLowR.out hd5))
            obtain ⟨u5, r5, h5, a5⟩ := other R4.out H4.out (fun e => HNe.out e.symm) A4.out.symm hd5
            have HT5 : Hid (TwoL (R + 1) D R L4 M5 (runW k (L.take 0)) w5) := Lib.hid ⟨⟨v4, u5, h5, r5, HNe.out, a5.symm⟩, L4'.out.did R4.out (by decide) (by decide) hd5, hM5⟩
            clear hd5 r5 h5 a5 hM5
            go_wp2
            go_loopw [11, 13, 15, 16, 17, 18, 19] (fun x y i _ _ _ _ wr => ∃ j Lg Mg : Nat, j ≤ L.length ∧ x = ptr Lg ∧ y = ptr Mg ∧ i = .int .i64 j ∧ TwoL (R + 1) D R Lg Mg (runW k (L.take j)) wr ∧ Below w.heap.size w wr) (fun _ _ i _ _ _ _ _ => L.length - (intOf i).toNat)
            case atStart => exact ⟨0, L4, M5, Nat.zero_le _, rfl, rfl, rfl, HT5.out, HB5.out⟩
            case round =>
              obtain ⟨j, Lg, Mg, hj, rfl, rfl, rfl, hT, hbj⟩ := hrel
              have HTj := Lib.hid hT
              have HBj := Lib.hid hbj
              clear hT hbj
              by_cases hlt : j < L.length
              · obtain ⟨x, hx⟩ : ∃ x, L[j]? = some x := ⟨_, List.getElem?_eq_getElem hlt⟩
                have HSt := Lib.hid (HL.out.below HBj.out)
                obtain ⟨b, o, rfl, _, c0, c1, c2, c3⟩ := HSt.out.at_ j x hx
                have hmem := List.mem_of_getElem? hx
                have hnum : ∀ y ∈ L.take j, y.n ≤ 9223372036854775807 := fun y hy => HL.out.num y (List.mem_of_mem_take hy)
                have hok := (runW_ok HK.out.1 HK.out.2 (L.take j) hnum).1
                have HS := Lib.hid (step_any HTj.out hok HLow.out HLowR.out x (HSt.out.data x hmem) (HSt.out.rows x hmem) (HLF.out.2 x hmem))
                have HSn := Lib.hid (show stepW (runW k (L.take j)) x = runW k (L.take (j + 1)) by rw [take_snoc_of _ _ _ hx, runW_snoc])
                have HOk2 := Lib.hid (runW_ok HK.out.1 HK.out.2 (L.take (j + 1)) fun y hy => HL.out.num y (List.mem_of_mem_take hy)).1
                have Hlt := Lib.hid hlt
                clear hmem hnum hok
                go_wp2_with fail
                refine HS.out.mono ?_
                rintro e w6 ⟨L6, M6, rfl, hT6, hb6⟩
                rw [HSn.out] at hT6
                have HB6 := Lib.hid (HBj.out.trans hb6)
                obtain ⟨s, hs⟩ : ∃ s, s = runW k (L.take (j + 1)) := ⟨_, rfl⟩
                rw [← hs] at hT6 HOk2
                have HS6 := Lib.hid hs
                have HT6 := Lib.hid hT6
                obtain ⟨⟨v, u, hd, hr, _, _⟩, hLg, hMg⟩ := hT6
                obtain ⟨Au, cu, rfl, hcu, hbu⟩ := hr.form
                have HD6 := Lib.hid hd
                have HR6 := Lib.hid hr
                have HL6 := Lib.hid hLg
                have HM6 := Lib.hid hMg
                have HRc := Lib.hid (records_any hd HOk2.out hLg)
                have hn : (scanL s.bs).length ≤ 1048576 := by
                  have h2 := scan_len s.bs
                  have := HOk2.out.len
                  have := HOk2.out.r1
                  omega
                have HN6 := Lib.hid hn
                clear hb6 c0 c1 c2 c3 hx hs hd hr hcu hbu hLg hMg hn
                go_wp2_with fail
                refine HRc.out.mono ?_
                rintro e w7 ⟨A7, c7, K7, rfl, hK7, hrow7⟩
                have HK7 := Lib.hid hK7
                have HRow7 := Lib.hid hrow7
                have HB7 := Lib.hid (HB6.out.trans (hrow7.low.mono HB6.out.size))
                have HT7 := Lib.hid (HT6.out.below hrow7.low)
                have HR7 := Lib.hid (HR6.out.below hrow7.low)
                have HRr := Lib.hid (rrecords_any HR7.out HOk2.out (HM6.out.below hrow7.low))
                clear hK7 hrow7
                go_wp2_with fail
                refine HRr.out.mono ?_
                rintro e w8 ⟨A8, c8, K8, rfl, hK8, hrow8⟩
                have HK8 := Lib.hid hK8
                have HB8 := Lib.hid (HB7.out.trans (hrow8.low.mono HB7.out.size))
                have HT8 := Lib.hid (HT7.out.below hrow8.low)
                have hdat : datas K7 = datas K8 := by rw [HK7.out, HK8.out]
                have hn7 : K7.length ≤ 1048576 := by rw [← datas_length, HK7.out]; exact HN6.out
                have HSame := Lib.hid (same_any _ _ A7 A8 c7 c8 K7 K8 w8 (HRow7.out.ls.1.later hrow8.low) hrow8.ls.1 hn7)
                rw [decide_eq_true hdat] at HSame
                clear hK8 hrow8 hdat hn7
                go_wp2_with fail
                refine HSame.out.mono ?_
                rintro e w9' ⟨rfl, n9, rfl⟩
                have HB9 : Hid (Below w.heap.size w (w8.drewN n9)) := Lib.hid (HB8.out.trans ((below_drewN w8 n9).mono HB8.out.size))
                have HT9 := Lib.hid (HT8.out.below (below_drewN w8 n9))
                clear HSame HRr HRc HRow7
                generalize w8.drewN n9 = w9 at HB9 HT9 ⊢
                have hT9 := HT9.out
                obtain ⟨⟨v9, u9, hd9, hr9, _, _⟩, hL9, hM9⟩ := hT9
                obtain ⟨Au, cu, rfl, hcu, hbu⟩ := hr9.form
                have HD9 := Lib.hid hd9.drew
                have HR9 := Lib.hid hr9.drew
                have HL9 : Hid (LAt LT w9.drew L6 D) := Lib.hid hL9
                have HM9 : Hid (LAt MT w9.drew M6 R) := Lib.hid hM9
                obtain ⟨bl, hbl⟩ : ∃ bl, bl = s.bs := ⟨_, rfl⟩
                obtain ⟨ll, hll⟩ : ∃ ll, ll = s.last := ⟨_, rfl⟩
                have u1 : w9.drew.cell? ⟨R, 1, none⟩ = some (.slice Au bl.length cu) := by rw [hbl]; exact HR9.out.c1
                have u2 : w9.drew.cell? ⟨R, 2, none⟩ = some (.int .i64 (ll : Int)) := by rw [hll]; exact HR9.out.c2
                have HBu := Lib.hid (show By w9.drew w9.drew.heap.size Au bl by rw [hbl]; exact hbu.drew)
                have hcu : (convert 40 9 (.slice Au bl.length cu)).run Try.prog w9.drew = .ok (.string ⟨bl.toArray⟩) w9.drew := str_run cu HBu.out
                have HBL := Lib.hid hbl
                have HLL := Lib.hid hll
                have HLn := Lib.hid (len_any HD9.out HOk2.out HL9.out)
                clear hd9 hr9 hL9 hM9 hbu hbl hll
                go_upto_region 22 with fail
                refine wp_region_held_drew (S := (fun w' => w'.cell? ⟨R, 1, none⟩ = some (.slice Au bl.length cu) ∧ w'.cell? ⟨R, 2, none⟩ = some (.int .i64 (ll : Int)) ∧ (convert 40 9 (.slice Au bl.length cu)).run Try.prog w' = .ok (.string ⟨bl.toArray⟩) w')) (by kernel_rfl) ?hSr1 (fun hHeld => ?_)
                case hSr1 => (exact ⟨u1, u2, hcu⟩)
                refine wpAnyH_take (i := 0) (oi := { dst := some 119, op := Op.move (Operand.tmp 19), type := 4, pos := "law.go:94", after := #[], guard := none }) (v := ?vr1x0) rfl (by kernel_rfl) (by kernel_rfl) (by kernel_rfl) (fun _ _ _ h => h) (Or.inl ⟨by rfl, ?hyr1x0⟩) (by assumption) ?_
                case hyr1x0 => (intro w hSw; (try dsimp only at hSw); go_simp; (try with_reducible rfl))
                try simp only [Act.put, List.setIfInBounds_toArray, List.set_cons_zero, List.set_cons_succ]
                refine wpAnyH_take (i := 1) (oi := { dst := some 120, op := Op.unOp UnOp.not 4 (Operand.tmp 119), type := 4, pos := "law.go:94", after := #[{ on := 0, ground := Ground.data }], guard := none }) (v := ?vr1x1) rfl (by kernel_rfl) (by kernel_rfl) (by kernel_rfl) (fun _ _ _ h => h) (Or.inl ⟨by rfl, ?hyr1x1⟩) (by assumption) ?_
                case hyr1x1 => (intro w hSw; (try dsimp only at hSw); go_simp; (try with_reducible rfl))
                try simp only [Act.put, List.setIfInBounds_toArray, List.set_cons_zero, List.set_cons_succ]
                refine wpAnyH_take (i := 2) (oi := { dst := some 121, op := Op.move (Operand.tmp 120), type := 4, pos := "law.go:94", after := #[{ on := 1, ground := Ground.data }], guard := none }) (v := ?vr1x2) rfl (by kernel_rfl) (by kernel_rfl) (by kernel_rfl) (fun _ _ _ h => h) (Or.inl ⟨by rfl, ?hyr1x2⟩) (by assumption) ?_
                case hyr1x2 => (intro w hSw; (try dsimp only at hSw); go_simp; (try with_reducible rfl))
                try simp only [Act.put, List.setIfInBounds_toArray, List.set_cons_zero, List.set_cons_succ]
                refine wpAnyH_take (i := 3) (oi := { dst := some 122, op := Op.move (Operand.tmp 11), type := 32, pos := "law.go:94", after := #[{ on := 2, ground := Ground.guard }], guard := some (2, false) }) (v := ?vr1x3) rfl (by kernel_rfl) (by kernel_rfl) (by kernel_rfl) (fun _ _ _ h => h) (Or.inl ⟨by rfl, ?hyr1x3⟩) (by assumption) ?_
                case hyr1x3 => (intro w hSw; (try dsimp only at hSw); go_simp; (try with_reducible rfl))
                try simp only [Act.put, List.setIfInBounds_toArray, List.set_cons_zero, List.set_cons_succ]
                refine wpAnyH_take (i := 5) (oi := { dst := some 124, op := Op.move (Operand.tmp 13), type := 35, pos := "law.go:94", after := #[{ on := 2, ground := Ground.guard }], guard := some (2, false) }) (v := ?vr1x5) rfl (by kernel_rfl) (by kernel_rfl) (by kernel_rfl) (fun _ _ _ h => h) (Or.inl ⟨by rfl, ?hyr1x5⟩) (by assumption) ?_
                case hyr1x5 => (intro w hSw; (try dsimp only at hSw); go_simp; (try with_reducible rfl))
                try simp only [Act.put, List.setIfInBounds_toArray, List.set_cons_zero, List.set_cons_succ]
                refine wpAnyH_ready (rs := [4]) (by kernel_rfl) (by simp) ?_
                refine AllReadyH.cons (o := { dst := some 123, op := Op.call { callee := Callee.value (Operand.func 19), args := #[Operand.tmp 122], argTypes := #[32] }, type := 3, pos := "law.go:94", after := #[{ on := 3, ground := Ground.data }, { on := 2, ground := Ground.chain }, { on := 2, ground := Ground.guard }], guard := some (2, false) }) rfl (fun K hK => ?_) AllReadyH.nil
                go_simp
                refine HLn.out.mono ?_
                rintro e wa ⟨rfl, hba⟩
                have HBt := Lib.hid hba
                have hsU : (convert 40 9 (.slice Au bl.length cu)).run Try.prog wa = .ok (.string ⟨bl.toArray⟩) wa := str_run cu (HBu.out.later HBt.out)
                have k1 := (HBt.out.cell (p := ⟨R, 1, none⟩) HR9.out.dlt).trans u1
                have k2 := (HBt.out.cell (p := ⟨R, 2, none⟩) HR9.out.dlt).trans u2
                have HRa := Lib.hid (rrecords_any (HR9.out.below hba) HOk2.out (HM9.out.below hba))
                clear hba
                go_wp2_with fail
                clear hHeld
                refine hK.out _ _ ?hSr1x4 (fun hHeld => ?_)
                case hSr1x4 => (exact ⟨k1, k2, hsU⟩)
                clear hK K
                try simp only [Act.put, List.setIfInBounds_toArray, List.set_cons_zero, List.set_cons_succ]
                refine wpAnyH_ready (rs := [6]) (by kernel_rfl) (by simp) ?_
                refine AllReadyH.cons (o := { dst := some 125, op := Op.call { callee := Callee.value (Operand.func 18), args := #[Operand.tmp 124], argTypes := #[35] }, type := 41, pos := "law.go:94", after := #[{ on := 5, ground := Ground.data }, { on := 4, ground := Ground.chain }, { on := 2, ground := Ground.guard }], guard := some (2, false) }) rfl (fun K hK => ?_) AllReadyH.nil
                go_simp
                refine HRa.out.mono ?_
                rintro e wb ⟨Ab, cb, Kb, rfl, hKb, hrowb⟩
                have HBt2 := Lib.hid (HBt.out.trans (hrowb.low.mono HBt.out.size))
                have hlb : (Kb.length : Int) = ((scanL s.bs).length : Int) := by rw [← hKb, datas_length]
                clear k1 k2 hsU HBt
                have HBt := HBt2
                clear HBt2 hKb hrowb
                have hsU : (convert 40 9 (.slice Au bl.length cu)).run Try.prog wb = .ok (.string ⟨bl.toArray⟩) wb := str_run cu (HBu.out.later HBt.out)
                have k1 := (HBt.out.cell (p := ⟨R, 1, none⟩) HR9.out.dlt).trans u1
                have k2 := (HBt.out.cell (p := ⟨R, 2, none⟩) HR9.out.dlt).trans u2
                have HRd := Lib.hid (read_any (HD9.out.below HBt.out) HOk2.out)
                go_wp2_with fail
                clear hHeld
                refine hK.out _ _ ?hSr1x6 (fun hHeld => ?_)
                case hSr1x6 => (exact ⟨k1, k2, hsU⟩)
                clear hK K
                try simp only [Act.put, List.setIfInBounds_toArray, List.set_cons_zero, List.set_cons_succ]
                refine wpAnyH_take (i := 7) (oi := { dst := some 126, op := Op.call { callee := Callee.builtin Builtin.len, args := #[Operand.tmp 125], argTypes := #[41] }, type := 3, pos := "law.go:94", after := #[{ on := 6, ground := Ground.data }, { on := 2, ground := Ground.guard }], guard := some (2, false) }) (v := ?vr1x7) rfl (by kernel_rfl) (by kernel_rfl) (by kernel_rfl) (fun _ _ _ h => h) (Or.inl ⟨by rfl, ?hyr1x7⟩) (by assumption) ?_
                case hyr1x7 => (intro w hSw; (try dsimp only at hSw); go_simp; (try with_reducible rfl))
                try simp only [Act.put, List.setIfInBounds_toArray, List.set_cons_zero, List.set_cons_succ]
                refine wpAnyH_take (i := 8) (oi := { dst := some 127, op := Op.binOp BinOp.neq 3 (Operand.tmp 123) (Operand.tmp 126) 3, type := 4, pos := "law.go:94", after := #[{ on := 4, ground := Ground.data }, { on := 7, ground := Ground.data }, { on := 2, ground := Ground.guard }], guard := some (2, false) }) (v := ?vr1x8) rfl (by kernel_rfl) (by kernel_rfl) (by kernel_rfl) (fun _ _ _ h => h) (Or.inl ⟨by rfl, ?hyr1x8⟩) (by assumption) ?_
                case hyr1x8 => (intro w hSw; (try dsimp only at hSw); go_simp; (try with_reducible rfl))
                try simp only [Act.put, List.setIfInBounds_toArray, List.set_cons_zero, List.set_cons_succ]
                refine wpAnyH_take (i := 9) (oi := { dst := some 128, op := Op.pick (Operand.tmp 121) (Operand.const (Value.bool true)) (Operand.tmp 127), type := 4, pos := "law.go:94", after := #[{ on := 2, ground := Ground.data }, { on := 8, ground := Ground.data }], guard := none }) (v := ?vr1x9) rfl (by kernel_rfl) (by kernel_rfl) (by kernel_rfl) (fun _ _ _ h => h) (Or.inl ⟨by rfl, ?hyr1x9⟩) (by assumption) ?_
                case hyr1x9 => (intro w hSw; (try dsimp only at hSw); go_simp; (try with_reducible rfl))
                try simp only [Act.put, List.setIfInBounds_toArray, List.set_cons_zero, List.set_cons_succ]
                refine wpAnyH_take (i := 10) (oi := { dst := some 129, op := Op.move (Operand.tmp 128), type := 4, pos := "law.go:94", after := #[{ on := 9, ground := Ground.data }, { on := 6, ground := Ground.chain }], guard := none }) (v := ?vr1x10) rfl (by kernel_rfl) (by kernel_rfl) (by kernel_rfl) (fun _ _ _ h => h) (Or.inl ⟨by rfl, ?hyr1x10⟩) (by assumption) ?_
                case hyr1x10 => (intro w hSw; (try dsimp only at hSw); go_simp; (try with_reducible rfl))
                try simp only [Act.put, List.setIfInBounds_toArray, List.set_cons_zero, List.set_cons_succ]
                refine wpAnyH_take (i := 11) (oi := { dst := some 130, op := Op.move (Operand.tmp 7), type := 25, pos := "law.go:94", after := #[{ on := 10, ground := Ground.guard }], guard := some (10, false) }) (v := ?vr1x11) rfl (by kernel_rfl) (by kernel_rfl) (by kernel_rfl) (fun _ _ _ h => h) (Or.inl ⟨by rfl, ?hyr1x11⟩) (by assumption) ?_
                case hyr1x11 => (intro w hSw; (try dsimp only at hSw); go_simp; (try with_reducible rfl))
                try simp only [Act.put, List.setIfInBounds_toArray, List.set_cons_zero, List.set_cons_succ]
                refine wpAnyH_take (i := 14) (oi := { dst := some 133, op := Op.move (Operand.tmp 9), type := 29, pos := "law.go:94", after := #[{ on := 10, ground := Ground.guard }], guard := some (10, false) }) (v := ?vr1x14) rfl (by kernel_rfl) (by kernel_rfl) (by kernel_rfl) (fun _ _ _ h => h) (Or.inl ⟨by rfl, ?hyr1x14⟩) (by assumption) ?_
                case hyr1x14 => (intro w hSw; (try dsimp only at hSw); go_simp; (try with_reducible rfl))
                try simp only [Act.put, List.setIfInBounds_toArray, List.set_cons_zero, List.set_cons_succ]
                refine wpAnyH_take (i := 15) (oi := { dst := some 134, op := Op.nilCheck (Operand.tmp 133), type := 0, pos := "law.go:94", after := #[{ on := 14, ground := Ground.data }, { on := 10, ground := Ground.guard }], guard := some (10, false) }) (v := ?vr1x15) rfl (by kernel_rfl) (by kernel_rfl) (by kernel_rfl) (fun _ _ _ h => h) (Or.inl ⟨by rfl, ?hyr1x15⟩) (by assumption) ?_
                case hyr1x15 => (intro w hSw; (try dsimp only at hSw); go_simp; (try with_reducible rfl))
                try simp only [Act.put, List.setIfInBounds_toArray, List.set_cons_zero, List.set_cons_succ]
                refine wpAnyH_take (i := 16) (oi := { dst := some 135, op := Op.fieldAddr 46 (Operand.tmp 134) 1, type := 0, pos := "law.go:94", after := #[{ on := 15, ground := Ground.data }, { on := 10, ground := Ground.guard }], guard := some (10, false) }) (v := ?vr1x16) rfl (by kernel_rfl) (by kernel_rfl) (by kernel_rfl) (fun _ _ _ h => h) (Or.inl ⟨by rfl, ?hyr1x16⟩) (by assumption) ?_
                case hyr1x16 => (intro w hSw; (try dsimp only at hSw); go_simp; (try with_reducible rfl))
                try simp only [Act.put, List.setIfInBounds_toArray, List.set_cons_zero, List.set_cons_succ]
                refine wpAnyH_take (i := 17) (oi := { dst := some 136, op := Op.load 40 (Operand.tmp 135), type := 40, pos := "law.go:94", after := #[{ on := 16, ground := Ground.data }, { on := 10, ground := Ground.guard }], guard := some (10, false) }) (v := ?vr1x17) rfl (by kernel_rfl) (by kernel_rfl) (by kernel_rfl) (fun _ _ _ h => h) (Or.inl ⟨by rfl, ?hyr1x17⟩) (by assumption) ?_
                case hyr1x17 => (intro w hSw; (try dsimp only at hSw); go_simp; (try with_reducible rfl))
                try simp only [Act.put, List.setIfInBounds_toArray, List.set_cons_zero, List.set_cons_succ]
                refine wpAnyH_take (i := 18) (oi := { dst := some 137, op := Op.convert 40 9 (Operand.tmp 136), type := 9, pos := "law.go:94", after := #[{ on := 17, ground := Ground.data }, { on := 10, ground := Ground.guard }], guard := some (10, false) }) (v := ?vr1x18) rfl (by kernel_rfl) (by kernel_rfl) (by kernel_rfl) (fun _ _ _ h => h) (Or.inl ⟨by rfl, ?hyr1x18⟩) (by assumption) ?_
                case hyr1x18 => (intro w hSw; (try dsimp only at hSw); go_simp; (try with_reducible rfl))
                try simp only [Act.put, List.setIfInBounds_toArray, List.set_cons_zero, List.set_cons_succ]
                refine wpAnyH_ready (rs := [12]) (by kernel_rfl) (by simp) ?_
                refine AllReadyH.cons (o := { dst := some 131, op := Op.call { callee := Callee.value (Operand.func 15), args := #[Operand.tmp 130], argTypes := #[25] }, type := 40, pos := "law.go:94", after := #[{ on := 11, ground := Ground.data }, { on := 10, ground := Ground.chain }, { on := 10, ground := Ground.guard }], guard := some (10, false) }) rfl (fun K hK => ?_) AllReadyH.nil
                go_simp
                refine HRd.out.mono ?_
                intro e wc hgc
                obtain ⟨Ac, cc, rfl, _, hbc, hsc⟩ := give_str hgc
                have hsA := hsc wc (Below.refl _ _)
                have HBt2 := Lib.hid (HBt.out.trans (hbc.mono HBt.out.size))
                clear k1 k2 hsU HBt
                have HBt := HBt2
                clear HBt2
                have hsU : (convert 40 9 (.slice Au bl.length cu)).run Try.prog wc = .ok (.string ⟨bl.toArray⟩) wc := str_run cu (HBu.out.later HBt.out)
                have k1 := (HBt.out.cell (p := ⟨R, 1, none⟩) HR9.out.dlt).trans u1
                have k2 := (HBt.out.cell (p := ⟨R, 2, none⟩) HR9.out.dlt).trans u2
                have HLa := Lib.hid (lasts_any (HD9.out.below HBt.out))
                rw [← HLL.out] at HLa
                rw [← HBL.out] at hsA ⊢
                clear hbc hsc hgc
                go_wp2_with fail
                clear hHeld
                refine hK.out _ _ ?hSr1x12 (fun hHeld => ?_)
                case hSr1x12 => (exact ⟨k1, k2, hsU⟩)
                clear hK K
                try simp only [Act.put, List.setIfInBounds_toArray, List.set_cons_zero, List.set_cons_succ]
                refine wpAnyH_ready (rs := [13]) (by kernel_rfl) (by simp) ?_
                refine AllReadyH.cons (o := { dst := some 132, op := Op.convert 40 9 (Operand.tmp 131), type := 9, pos := "law.go:94", after := #[{ on := 12, ground := Ground.data }, { on := 10, ground := Ground.guard }], guard := some (10, false) }) rfl (fun K hK => ?_) AllReadyH.nil
                go_simp
                clear hHeld
                refine hK.out _ _ ?hSr1x13 (fun hHeld => ?_)
                case hSr1x13 => (exact ⟨k1, k2, hsU⟩)
                clear hK K
                try simp only [Act.put, List.setIfInBounds_toArray, List.set_cons_zero, List.set_cons_succ]
                refine wpAnyH_take (i := 19) (oi := { dst := some 138, op := Op.binOp BinOp.neq 9 (Operand.tmp 132) (Operand.tmp 137) 9, type := 4, pos := "law.go:94", after := #[{ on := 13, ground := Ground.data }, { on := 18, ground := Ground.data }, { on := 10, ground := Ground.guard }], guard := some (10, false) }) (v := ?vr1x19) rfl (by kernel_rfl) (by kernel_rfl) (by kernel_rfl) (fun _ _ _ h => h) (Or.inl ⟨by rfl, ?hyr1x19⟩) (by assumption) ?_
                case hyr1x19 => (intro w hSw; (try dsimp only at hSw); go_simp; (try with_reducible rfl))
                try simp only [Act.put, List.setIfInBounds_toArray, List.set_cons_zero, List.set_cons_succ]
                refine wpAnyH_take (i := 20) (oi := { dst := some 139, op := Op.pick (Operand.tmp 129) (Operand.const (Value.bool true)) (Operand.tmp 138), type := 4, pos := "law.go:94", after := #[{ on := 10, ground := Ground.data }, { on := 19, ground := Ground.data }], guard := none }) (v := ?vr1x20) rfl (by kernel_rfl) (by kernel_rfl) (by kernel_rfl) (fun _ _ _ h => h) (Or.inl ⟨by rfl, ?hyr1x20⟩) (by assumption) ?_
                case hyr1x20 => (intro w hSw; (try dsimp only at hSw); go_simp; (try with_reducible rfl))
                try simp only [Act.put, List.setIfInBounds_toArray, List.set_cons_zero, List.set_cons_succ]
                refine wpAnyH_take (i := 21) (oi := { dst := some 140, op := Op.move (Operand.tmp 139), type := 4, pos := "law.go:94", after := #[{ on := 20, ground := Ground.data }, { on := 12, ground := Ground.chain }], guard := none }) (v := ?vr1x21) rfl (by kernel_rfl) (by kernel_rfl) (by kernel_rfl) (fun _ _ _ h => h) (Or.inl ⟨by rfl, ?hyr1x21⟩) (by assumption) ?_
                case hyr1x21 => (intro w hSw; (try dsimp only at hSw); go_simp; (try with_reducible rfl))
                try simp only [Act.put, List.setIfInBounds_toArray, List.set_cons_zero, List.set_cons_succ]
                refine wpAnyH_take (i := 22) (oi := { dst := some 141, op := Op.move (Operand.tmp 7), type := 25, pos := "law.go:94", after := #[{ on := 21, ground := Ground.guard }], guard := some (21, false) }) (v := ?vr1x22) rfl (by kernel_rfl) (by kernel_rfl) (by kernel_rfl) (fun _ _ _ h => h) (Or.inl ⟨by rfl, ?hyr1x22⟩) (by assumption) ?_
                case hyr1x22 => (intro w hSw; (try dsimp only at hSw); go_simp; (try with_reducible rfl))
                try simp only [Act.put, List.setIfInBounds_toArray, List.set_cons_zero, List.set_cons_succ]
                refine wpAnyH_take (i := 24) (oi := { dst := some 143, op := Op.move (Operand.tmp 9), type := 29, pos := "law.go:94", after := #[{ on := 21, ground := Ground.guard }], guard := some (21, false) }) (v := ?vr1x24) rfl (by kernel_rfl) (by kernel_rfl) (by kernel_rfl) (fun _ _ _ h => h) (Or.inl ⟨by rfl, ?hyr1x24⟩) (by assumption) ?_
                case hyr1x24 => (intro w hSw; (try dsimp only at hSw); go_simp; (try with_reducible rfl))
                try simp only [Act.put, List.setIfInBounds_toArray, List.set_cons_zero, List.set_cons_succ]
                refine wpAnyH_take (i := 25) (oi := { dst := some 144, op := Op.nilCheck (Operand.tmp 143), type := 0, pos := "law.go:94", after := #[{ on := 24, ground := Ground.data }, { on := 21, ground := Ground.guard }], guard := some (21, false) }) (v := ?vr1x25) rfl (by kernel_rfl) (by kernel_rfl) (by kernel_rfl) (fun _ _ _ h => h) (Or.inl ⟨by rfl, ?hyr1x25⟩) (by assumption) ?_
                case hyr1x25 => (intro w hSw; (try dsimp only at hSw); go_simp; (try with_reducible rfl))
                try simp only [Act.put, List.setIfInBounds_toArray, List.set_cons_zero, List.set_cons_succ]
                refine wpAnyH_take (i := 26) (oi := { dst := some 145, op := Op.fieldAddr 46 (Operand.tmp 144) 2, type := 0, pos := "law.go:94", after := #[{ on := 25, ground := Ground.data }, { on := 21, ground := Ground.guard }], guard := some (21, false) }) (v := ?vr1x26) rfl (by kernel_rfl) (by kernel_rfl) (by kernel_rfl) (fun _ _ _ h => h) (Or.inl ⟨by rfl, ?hyr1x26⟩) (by assumption) ?_
                case hyr1x26 => (intro w hSw; (try dsimp only at hSw); go_simp; (try with_reducible rfl))
                try simp only [Act.put, List.setIfInBounds_toArray, List.set_cons_zero, List.set_cons_succ]
                refine wpAnyH_take (i := 27) (oi := { dst := some 146, op := Op.load 3 (Operand.tmp 145), type := 3, pos := "law.go:94", after := #[{ on := 26, ground := Ground.data }, { on := 21, ground := Ground.guard }], guard := some (21, false) }) (v := ?vr1x27) rfl (by kernel_rfl) (by kernel_rfl) (by kernel_rfl) (fun _ _ _ h => h) (Or.inl ⟨by rfl, ?hyr1x27⟩) (by assumption) ?_
                case hyr1x27 => (intro w hSw; (try dsimp only at hSw); go_simp; (try with_reducible rfl))
                try simp only [Act.put, List.setIfInBounds_toArray, List.set_cons_zero, List.set_cons_succ]
                refine wpAnyH_ready (rs := [23]) (by kernel_rfl) (by simp) ?_
                refine AllReadyH.cons (o := { dst := some 142, op := Op.call { callee := Callee.value (Operand.func 20), args := #[Operand.tmp 141], argTypes := #[25] }, type := 3, pos := "law.go:94", after := #[{ on := 22, ground := Ground.data }, { on := 21, ground := Ground.chain }, { on := 21, ground := Ground.guard }], guard := some (21, false) }) rfl (fun K hK => ?_) AllReadyH.nil
                go_simp
                refine HLa.out.mono ?_
                rintro e wd ⟨rfl, rfl⟩
                go_wp2_with fail
                clear hHeld
                refine hK.out _ _ ?hSr1x23 (fun hHeld => ?_)
                case hSr1x23 => (exact ⟨k1, k2, hsU⟩)
                clear hK K
                try simp only [Act.put, List.setIfInBounds_toArray, List.set_cons_zero, List.set_cons_succ]
                refine wpAnyH_take (i := 28) (oi := { dst := some 147, op := Op.binOp BinOp.neq 3 (Operand.tmp 142) (Operand.tmp 146) 3, type := 4, pos := "law.go:94", after := #[{ on := 23, ground := Ground.data }, { on := 27, ground := Ground.data }, { on := 21, ground := Ground.guard }], guard := some (21, false) }) (v := ?vr1x28) rfl (by kernel_rfl) (by kernel_rfl) (by kernel_rfl) (fun _ _ _ h => h) (Or.inl ⟨by rfl, ?hyr1x28⟩) (by assumption) ?_
                case hyr1x28 => (intro w hSw; (try dsimp only at hSw); go_simp; (try with_reducible rfl))
                try simp only [Act.put, List.setIfInBounds_toArray, List.set_cons_zero, List.set_cons_succ]
                refine wpAnyH_take (i := 29) (oi := { dst := some 148, op := Op.pick (Operand.tmp 140) (Operand.const (Value.bool true)) (Operand.tmp 147), type := 4, pos := "law.go:94", after := #[{ on := 21, ground := Ground.data }, { on := 28, ground := Ground.data }], guard := none }) (v := ?vr1x29) rfl (by kernel_rfl) (by kernel_rfl) (by kernel_rfl) (fun _ _ _ h => h) (Or.inl ⟨by rfl, ?hyr1x29⟩) (by assumption) ?_
                case hyr1x29 => (intro w hSw; (try dsimp only at hSw); go_simp; (try with_reducible rfl))
                try simp only [Act.put, List.setIfInBounds_toArray, List.set_cons_zero, List.set_cons_succ]
                refine wpAnyH_done (by kernel_rfl) ?_ _
                have HT6' := Lib.hid (HT9.out.below ((Below.refl w9.heap.size w9).drew.trans HBt.out))
                have HB6' := Lib.hid (HB9.out.trans (((Below.refl w9.heap.size w9).drew.trans HBt.out).mono HB9.out.size))
                rw [HS6.out] at HT6'
                clear hsA hsU k1 k2 u1 u2 hcu
                go_wp2
                go_roundw
                case rel => exact ⟨j + 1, L6, M6, Hlt.out, rfl, rfl, by go_num, HT6'.out, HB6'.out⟩
                case measure => have := Hlt.out; simp [intOf]; omega
              · obtain rfl : j = L.length := by omega
                go_wp2
                go_ret
                exact ⟨rfl, HBj.out⟩
          · exact absurd rfl hx
        · exact absurd rfl hx
      · go_wp2
        go_ret
        exact ⟨rfl, HB3.out⟩
    · exact absurd ⟨by have := HK.out; omega, by have := HK.out; omega⟩ h0
  · have HR := Lib.hid (rnew_any w2 room)
    have H0 := Lib.hid h0
    clear h0
    go_wp2_with fail
    refine HR.out.mono ?_
    rintro e w3 (⟨k', hkk, hk1, hk2, _⟩ | ⟨_, rfl, rfl⟩)
    · exact absurd ⟨by omega, by omega⟩ H0.out
    · cases lb
      · go_wp2
        go_ret
        exact ⟨rfl, HB1.out⟩
      · go_wp2
        go_ret
        exact ⟨rfl, HB1.out⟩

end Go.Proofs.Ytdeahiccgjldbaa
