/- The law DiskSwaps. -/
import Derived.Test.YtofaapcfileojaaDskX
import Derived.Deep.RegionHeld3
namespace Go.Proofs.Ytofaapcfileojaa
open Go.RowKit

theorem swap_three (s : DS) (b : List UInt8) : swapD s b = (7, s) ∨ (s.room < b.length ∧ swapD s b = (3, s.count)) ∨ swapD s b = (0, { s.count with bs := b, last := b.length }) := by
  unfold swapD
  split
  · exact .inl rfl
  · split
    · rename_i h
      exact .inr (.inl ⟨h, rfl⟩)
    · exact .inr (.inr rfl)
theorem crash_all (s : DS) (b : List UInt8) : crashD { s.count with bs := b, last := b.length } 0 = { { s.count with bs := b, last := b.length } with left := -1 } := by
  have hk : kept { s.count with bs := b, last := b.length } 0 = 0 := by unfold kept; rw [if_pos (by omega)]
  unfold crashD
  rw [hk]
  simp only [Nat.add_zero, List.take_length]

set_option maxRecDepth 100000 in
set_option maxHeartbeats 8000000 in
theorem law_swaps (room : Int) (A A2 : Option Addr) (c c2 : Nat) (bb : List UInt8) (L : List StV) (w : World) (hL : St w w.heap.size A L) (hlen : L.length ≤ 9223372036854775807) (hdl : ∀ x ∈ L, x.data.length ≤ 9223372036854775807) (hb : By w w.heap.size A2 bb) :
    Calls Try.prog 7 #[.int .i64 room, .slice A L.length c, .slice A2 bb.length c2] w fun e w' => e = .returned (.bool true) ∧ Below w.heap.size w w' := by
  have HA := Lib.hid (awake_any w)
  have HL := Lib.hid hL
  have HLen := Lib.hid hlen
  have HDL := Lib.hid hdl
  have HBb := Lib.hid hb
  clear hL hdl hb
  go_enter Try.func7, Try.ntmps7
  go_wp2_with fail
  refine HA.out.mono ?_
  rintro e w1 ⟨rfl, hb1⟩
  have HB1 := Lib.hid hb1
  have HLong := Lib.hid (long_any (c := c) (HL.out.below hb1) HLen.out HDL.out)
  have HN := Lib.hid (new_any w1 room)
  clear hb1
  obtain ⟨lb, hlb⟩ : ∃ lb, lb = longB L := ⟨_, rfl⟩
  rw [← hlb] at HLong
  have HLb := Lib.hid hlb
  clear hlb
  go_wp2_with fail
  refine HLong.out.mono ?_
  rintro e w1' ⟨rfl, rfl⟩
  go_wp2_with fail
  refine HN.out.mono ?_
  rintro e w2 (⟨k, rfl, hk0, hk1, rfl, h2, hb2, hz2⟩ | ⟨h0, rfl, rfl⟩)
  · obtain ⟨D, hD⟩ : ∃ D, D = w1.heap.size := ⟨_, rfl⟩
    have hlow : w.heap.size ≤ D := by rw [hD]; exact HB1.out.size
    rw [← hD] at h2 hb2 ⊢
    have HLow := Lib.hid hlow
    have H2 := Lib.hid h2
    have HB2 := Lib.hid (HB1.out.trans (hb2.mono hlow))
    have HR := Lib.hid (rnew_any w2 k)
    have HK := Lib.hid (And.intro hk0 hk1)
    clear hD hlow h2 hb2 hz2 hk0 hk1
    by_cases hb2 : 200 < bb.length
    · cases lb <;> (go_wp2; go_ret; exact ⟨rfl, HB2.out⟩)
    cases lb
    · have HLF := Lib.hid (long_false HLb.out.symm)
      have hl120 : L.length ≤ 120 := HLF.out.1
      have HBl := Lib.hid hb2
      go_wp2_with fail
      refine HR.out.mono ?_
      rintro e w3 (⟨k', hkk, _, _, rfl, h3, hb3, _⟩ | ⟨h0, _⟩)
      · obtain rfl : k = k' := by omega
        obtain ⟨R, hR⟩ : ∃ R, R = w2.heap.size := ⟨_, rfl⟩
        have hlowR : w.heap.size ≤ R := by rw [hR]; exact HB2.out.size
        rw [← hR] at h3 ⊢
        have HLowR := Lib.hid hlowR
        have HT := Lib.hid (two_new rfl H2.out h3 hR hb3)
        have HB3 := Lib.hid (HB2.out.trans (hb3.mono HB2.out.size))
        clear hkk hR hlowR h3 hb3
        go_wp2
        go_loopw [13] (fun i wr => ∃ j : Nat, j ≤ L.length ∧ i = .int .i64 j ∧ Two (R + 1) D R (runD k (L.take j)) wr ∧ Below w.heap.size w wr) (fun i _ => L.length - (intOf i).toNat)
        case atStart => exact ⟨0, Nat.zero_le _, rfl, HT.out, HB3.out⟩
        case round =>
          obtain ⟨j, hj, rfl, hT, hbj⟩ := hrel
          have HTj := Lib.hid hT
          have HBj := Lib.hid hbj
          clear hT hbj
          by_cases hlt : j < L.length
          · obtain ⟨x, hx⟩ : ∃ x, L[j]? = some x := ⟨_, List.getElem?_eq_getElem hlt⟩
            have HSt := Lib.hid (HL.out.below HBj.out)
            obtain ⟨b, o, rfl, _, c0, c1, c2⟩ := HSt.out.at_ j x hx
            have hmem := List.mem_of_getElem? hx
            have hnum : ∀ y ∈ L.take j, y.n ≤ 9223372036854775807 := fun y hy => HL.out.num y (List.mem_of_mem_take hy)
            have hok := runD_ok HK.out.1 HK.out.2 (L.take j) hnum
            have HS := Lib.hid (step_any HTj.out hok HLow.out HLowR.out x (HSt.out.data x hmem) (HLF.out.2 x hmem))
            rw [← runD_snoc, ← take_snoc_of _ _ _ hx] at HS
            have Hlt := Lib.hid hlt
            clear hx hmem hnum hok
            go_wp2_with fail
            refine HS.out.mono ?_
            rintro e w4 ⟨rfl, hT4, hb4⟩
            have HT4 := Lib.hid hT4
            have HB4 := Lib.hid (HBj.out.trans hb4)
            clear hT4 hb4 c0 c1 c2
            go_wp2
            go_roundw
            case rel => exact ⟨j + 1, Hlt.out, by go_num, HT4.out, HB4.out⟩
            case measure => have := Hlt.out; simp [intOf]; omega
          · obtain rfl : j = L.length := by omega
            rw [List.take_length] at HTj
            have hok := runD_ok HK.out.1 HK.out.2 L HL.out.num
            obtain ⟨s, hs⟩ : ∃ s, s = runD k L := ⟨_, rfl⟩
            rw [← hs] at HTj hok
            have HOk := Lib.hid hok
            obtain ⟨v, u, hd, _, _, _⟩ := HTj.out
            have HD := Lib.hid hd
            have HRd := Lib.hid (read_any hd hok)
            have HOkS := Lib.hid (swap_ok hok bb)
            have HSr := Lib.hid hs
            clear hs hd hok
            go_wp2_with fail
            refine HRd.out.mono ?_
            intro e w4 hg4
            obtain ⟨A4, c4, rfl, _, hby4, hb4⟩ := give_apart HD.out hg4
            have HBy4 := Lib.hid hby4
            have HD4 := Lib.hid (HD.out.below hb4)
            have HW4 : Hid (Below w.heap.size w w4) := Lib.hid (HBj.out.trans (hb4.mono HBj.out.size))
            have HLa := Lib.hid (lasts_any HD4.out)
            clear hg4 hby4 hb4
            go_wp2_with fail
            refine HLa.out.mono ?_
            rintro e w5 ⟨rfl, rfl⟩
            have HSw := Lib.hid (swap_any (c := c2) HD4.out HOk.out (ByO.of (HBb.out.below HW4.out) (Oth.low HD4.out HLow.out)))
            obtain ⟨l1, hl1⟩ : ∃ l1, l1 = s.bs.length := ⟨_, rfl⟩
            obtain ⟨n1, hn1⟩ : ∃ n1, n1 = s.last := ⟨_, rfl⟩
            rw [← hl1, ← hn1]
            have HL1 := Lib.hid hl1
            have HN1 := Lib.hid hn1
            clear hl1 hn1
            obtain ⟨f0, hf0⟩ : ∃ f0, f0 = swapD s bb := ⟨_, rfl⟩
            rw [← hf0] at HSw HOkS
            rcases (hf0 ▸ swap_three s bb : f0 = (7, s) ∨ (s.room < bb.length ∧ f0 = (3, s.count)) ∨ f0 = (0, { s.count with bs := bb, last := bb.length })) with hr | ⟨hroom, hr⟩ | hr
            · subst hr
              have HF0 := Lib.hid hf0
              clear hf0
              go_wp2_with fail
              refine HSw.out.mono ?_
              rintro e w6 ⟨rfl, hd6⟩
              have HW6 : Hid (Below w.heap.size w w6) := Lib.hid (HW4.out.trans ((Did.low HD4.out (Nat.le_refl _) hd6).mono HLow.out))
              have HBy6 : Hid (By w6 w6.heap.size A4 s.bs) := Lib.hid (by
                obtain ⟨_, _, hk6, _⟩ := hd6
                exact (HBy4.out.kp hk6).by_)
              obtain ⟨v6, h6, _, _⟩ := hd6
              have h6 : DAt DT (R + 1) w6 D s v6 := h6
              have H6 := Lib.hid h6
              have hRd6 := read_any h6.drew HOkS.out
              have HRd6 : Hid (Calls Try.prog 13 #[ptr D] w6.drew (GiveB w6.drew s.bs)) := Lib.hid hRd6
              have hLa6 : ∀ W, Below w6.drew.heap.size w6.drew W → Calls Try.prog 14 #[ptr D] W fun e w' => e = .returned (.int .i64 (n1 : Int)) ∧ W = w' := fun W hW => by
                rw [HN1.out]
                exact lasts_any (s := s) (H6.out.drew.below hW)
              have HLa6 := Lib.hid hLa6
              have hcv : (convert 33 9 (.slice A4 l1 c4)).run Try.prog w6.drew = .ok (.string ⟨s.bs.toArray⟩) w6.drew := by
                rw [HL1.out]
                exact str_run c4 HBy6.out.drew
              have hself : (s.bs == s.bs) = true := by simp
              have hself2 : ((n1 : Int) == (n1 : Int)) = true := by simp
              clear h6 hRd6 hLa6
              go_upto_region 15 with fail
              refine wp_region_held_drew (S := (fun w' => (convert 33 9 (.slice A4 l1 c4)).run Try.prog w' = .ok (.string ⟨s.bs.toArray⟩) w')) (by kernel_rfl) ?hSr1 (fun hHeld => ?_)
              case hSr1 => (exact hcv)
              refine wpAnyH_take (i := 0) (oi := { dst := some 71, op := Op.move (Operand.tmp 9), type := 25, pos := "more.go:25", after := #[], guard := none }) (v := ?vr1x0) rfl (by kernel_rfl) (by kernel_rfl) (by kernel_rfl) (fun _ _ _ h => h) (Or.inl ⟨by rfl, ?hyr1x0⟩) (by assumption) ?_
              case hyr1x0 => (intro w hSw; (try dsimp only at hSw); go_simp; (try with_reducible rfl))
              try simp only [Act.put, List.setIfInBounds_toArray, List.set_cons_zero, List.set_cons_succ]
              refine wpAnyH_take (i := 3) (oi := { dst := some 74, op := Op.move (Operand.tmp 14), type := 33, pos := "more.go:25", after := #[], guard := none }) (v := ?vr1x3) rfl (by kernel_rfl) (by kernel_rfl) (by kernel_rfl) (fun _ _ _ h => h) (Or.inl ⟨by rfl, ?hyr1x3⟩) (by assumption) ?_
              case hyr1x3 => (intro w hSw; (try dsimp only at hSw); go_simp; (try with_reducible rfl))
              try simp only [Act.put, List.setIfInBounds_toArray, List.set_cons_zero, List.set_cons_succ]
              refine wpAnyH_take (i := 4) (oi := { dst := some 75, op := Op.convert 33 9 (Operand.tmp 74), type := 9, pos := "more.go:25", after := #[{ on := 3, ground := Ground.data }], guard := none }) (v := ?vr1x4) rfl (by kernel_rfl) (by kernel_rfl) (by kernel_rfl) (fun _ _ _ h => h) (Or.inl ⟨by rfl, ?hyr1x4⟩) (by assumption) ?_
              case hyr1x4 => (intro w hSw; (try dsimp only at hSw); go_simp; (try with_reducible rfl))
              try simp only [Act.put, List.setIfInBounds_toArray, List.set_cons_zero, List.set_cons_succ]
              refine wpAnyH_ready (rs := [1]) (by kernel_rfl) (by simp) ?_
              refine AllReadyH.cons (o := { dst := some 72, op := Op.call { callee := Callee.value (Operand.func 13), args := #[Operand.tmp 71], argTypes := #[25] }, type := 33, pos := "more.go:25", after := #[{ on := 0, ground := Ground.data }], guard := none }) rfl (fun K hK => ?_) AllReadyH.nil
              go_simp
              refine HRd6.out.mono ?_
              intro e w7 hg7
              obtain ⟨A7, c7, rfl, _, hb7, hs7⟩ := give_str hg7
              have hsA := hs7 w7 (Below.refl _ _)
              have hcv7 : (convert 33 9 (.slice A4 l1 c4)).run Try.prog w7 = .ok (.string ⟨s.bs.toArray⟩) w7 := by
                rw [HL1.out]
                exact str_run c4 (HBy6.out.drew.later hb7)
              have HLa7 := Lib.hid (HLa6.out w7 hb7)
              have HB7 := Lib.hid hb7
              clear hb7 hs7 hg7 hcv
              go_wp2_with fail
              clear hHeld
              refine hK.out _ _ ?hSr1x1 (fun hHeld => ?_)
              case hSr1x1 => (exact hcv7)
              clear hK K
              try simp only [Act.put, List.setIfInBounds_toArray, List.set_cons_zero, List.set_cons_succ]
              refine wpAnyH_ready (rs := [2]) (by kernel_rfl) (by simp) ?_
              refine AllReadyH.cons (o := { dst := some 73, op := Op.convert 33 9 (Operand.tmp 72), type := 9, pos := "more.go:25", after := #[{ on := 1, ground := Ground.data }], guard := none }) rfl (fun K hK => ?_) AllReadyH.nil
              go_simp
              clear hHeld
              refine hK.out _ _ ?hSr1x2 (fun hHeld => ?_)
              case hSr1x2 => (exact hcv7)
              clear hK K
              try simp only [Act.put, List.setIfInBounds_toArray, List.set_cons_zero, List.set_cons_succ]
              refine wpAnyH_take (i := 5) (oi := { dst := some 76, op := Op.binOp BinOp.eql 9 (Operand.tmp 73) (Operand.tmp 75) 9, type := 4, pos := "more.go:25", after := #[{ on := 2, ground := Ground.data }, { on := 4, ground := Ground.data }], guard := none }) (v := ?vr1x5) rfl (by kernel_rfl) (by kernel_rfl) (by kernel_rfl) (fun _ _ _ h => h) (Or.inl ⟨by rfl, ?hyr1x5⟩) (by assumption) ?_
              case hyr1x5 => (intro w hSw; (try dsimp only at hSw); go_simp; (try with_reducible rfl))
              try simp only [Act.put, List.setIfInBounds_toArray, List.set_cons_zero, List.set_cons_succ]
              refine wpAnyH_take (i := 6) (oi := { dst := some 77, op := Op.move (Operand.tmp 76), type := 4, pos := "more.go:25", after := #[{ on := 5, ground := Ground.data }, { on := 1, ground := Ground.chain }], guard := none }) (v := ?vr1x6) rfl (by kernel_rfl) (by kernel_rfl) (by kernel_rfl) (fun _ _ _ h => h) (Or.inl ⟨by rfl, ?hyr1x6⟩) (by assumption) ?_
              case hyr1x6 => (intro w hSw; (try dsimp only at hSw); go_simp; (try with_reducible rfl))
              try simp only [Act.put, List.setIfInBounds_toArray, List.set_cons_zero, List.set_cons_succ]
              refine wpAnyH_take (i := 7) (oi := { dst := some 78, op := Op.move (Operand.tmp 9), type := 25, pos := "more.go:25", after := #[{ on := 6, ground := Ground.guard }], guard := some (6, true) }) (v := ?vr1x7) rfl (by kernel_rfl) (by kernel_rfl) (by kernel_rfl) (fun _ _ _ h => h) (Or.inl ⟨by rfl, ?hyr1x7⟩) (by assumption) ?_
              case hyr1x7 => (intro w hSw; (try dsimp only at hSw); go_simp; (try with_reducible rfl))
              try simp only [Act.put, List.setIfInBounds_toArray, List.set_cons_zero, List.set_cons_succ]
              refine wpAnyH_take (i := 9) (oi := { dst := some 80, op := Op.move (Operand.tmp 15), type := 3, pos := "more.go:25", after := #[{ on := 6, ground := Ground.guard }], guard := some (6, true) }) (v := ?vr1x9) rfl (by kernel_rfl) (by kernel_rfl) (by kernel_rfl) (fun _ _ _ h => h) (Or.inl ⟨by rfl, ?hyr1x9⟩) (by assumption) ?_
              case hyr1x9 => (intro w hSw; (try dsimp only at hSw); go_simp; (try with_reducible rfl))
              try simp only [Act.put, List.setIfInBounds_toArray, List.set_cons_zero, List.set_cons_succ]
              refine wpAnyH_ready (rs := [8]) (by kernel_rfl) (by simp) ?_
              refine AllReadyH.cons (o := { dst := some 79, op := Op.call { callee := Callee.value (Operand.func 14), args := #[Operand.tmp 78], argTypes := #[25] }, type := 3, pos := "more.go:25", after := #[{ on := 7, ground := Ground.data }, { on := 6, ground := Ground.chain }, { on := 6, ground := Ground.guard }], guard := some (6, true) }) rfl (fun K hK => ?_) AllReadyH.nil
              go_simp
              refine HLa7.out.mono ?_
              rintro e w8 ⟨rfl, rfl⟩
              go_wp2_with fail
              clear hHeld
              refine hK.out _ _ ?hSr1x8 (fun hHeld => ?_)
              case hSr1x8 => (exact hcv7)
              clear hK K
              try simp only [Act.put, List.setIfInBounds_toArray, List.set_cons_zero, List.set_cons_succ]
              refine wpAnyH_take (i := 10) (oi := { dst := some 81, op := Op.binOp BinOp.eql 3 (Operand.tmp 79) (Operand.tmp 80) 3, type := 4, pos := "more.go:25", after := #[{ on := 8, ground := Ground.data }, { on := 9, ground := Ground.data }, { on := 6, ground := Ground.guard }], guard := some (6, true) }) (v := ?vr1x10) rfl (by kernel_rfl) (by kernel_rfl) (by kernel_rfl) (fun _ _ _ h => h) (Or.inl ⟨by rfl, ?hyr1x10⟩) (by assumption) ?_
              case hyr1x10 => (intro w hSw; (try dsimp only at hSw); go_simp; (try with_reducible rfl))
              try simp only [Act.put, List.setIfInBounds_toArray, List.set_cons_zero, List.set_cons_succ]
              refine wpAnyH_take (i := 11) (oi := { dst := some 82, op := Op.pick (Operand.tmp 77) (Operand.tmp 81) (Operand.const (Value.bool false)), type := 4, pos := "more.go:25", after := #[{ on := 6, ground := Ground.data }, { on := 10, ground := Ground.data }], guard := none }) (v := ?vr1x11) rfl (by kernel_rfl) (by kernel_rfl) (by kernel_rfl) (fun _ _ _ h => h) (Or.inl ⟨by rfl, ?hyr1x11⟩) (by assumption) ?_
              case hyr1x11 => (intro w hSw; (try dsimp only at hSw); go_simp; (try with_reducible rfl))
              try simp only [Act.put, List.setIfInBounds_toArray, List.set_cons_zero, List.set_cons_succ]
              refine wpAnyH_take (i := 12) (oi := { dst := some 83, op := Op.move (Operand.tmp 82), type := 4, pos := "more.go:25", after := #[{ on := 11, ground := Ground.data }, { on := 8, ground := Ground.chain }], guard := none }) (v := ?vr1x12) rfl (by kernel_rfl) (by kernel_rfl) (by kernel_rfl) (fun _ _ _ h => h) (Or.inl ⟨by rfl, ?hyr1x12⟩) (by assumption) ?_
              case hyr1x12 => (intro w hSw; (try dsimp only at hSw); go_simp; (try with_reducible rfl))
              try simp only [Act.put, List.setIfInBounds_toArray, List.set_cons_zero, List.set_cons_succ]
              refine wpAnyH_take (i := 13) (oi := { dst := some 84, op := Op.move (Operand.tmp 16), type := 26, pos := "more.go:25", after := #[{ on := 12, ground := Ground.guard }], guard := some (12, true) }) (v := ?vr1x13) rfl (by kernel_rfl) (by kernel_rfl) (by kernel_rfl) (fun _ _ _ h => h) (Or.inl ⟨by rfl, ?hyr1x13⟩) (by assumption) ?_
              case hyr1x13 => (intro w hSw; (try dsimp only at hSw); go_simp; (try with_reducible rfl))
              try simp only [Act.put, List.setIfInBounds_toArray, List.set_cons_zero, List.set_cons_succ]
              refine wpAnyH_take (i := 14) (oi := { dst := some 85, op := Op.binOp BinOp.eql 26 (Operand.tmp 84) (Operand.const (Value.int IntKind.i64 7)) 26, type := 4, pos := "more.go:25", after := #[{ on := 13, ground := Ground.data }, { on := 12, ground := Ground.guard }], guard := some (12, true) }) (v := ?vr1x14) rfl (by kernel_rfl) (by kernel_rfl) (by kernel_rfl) (fun _ _ _ h => h) (Or.inl ⟨by rfl, ?hyr1x14⟩) (by assumption) ?_
              case hyr1x14 => (intro w hSw; (try dsimp only at hSw); go_simp; (try with_reducible rfl))
              try simp only [Act.put, List.setIfInBounds_toArray, List.set_cons_zero, List.set_cons_succ]
              refine wpAnyH_take (i := 15) (oi := { dst := some 86, op := Op.move (Operand.tmp 85), type := 4, pos := "more.go:25", after := #[{ on := 14, ground := Ground.data }, { on := 12, ground := Ground.chain }, { on := 12, ground := Ground.guard }], guard := some (12, true) }) (v := ?vr1x15) rfl (by kernel_rfl) (by kernel_rfl) (by kernel_rfl) (fun _ _ _ h => h) (Or.inl ⟨by rfl, ?hyr1x15⟩) (by assumption) ?_
              case hyr1x15 => (intro w hSw; (try dsimp only at hSw); go_simp; (try with_reducible rfl))
              try simp only [Act.put, List.setIfInBounds_toArray, List.set_cons_zero, List.set_cons_succ]
              refine wpAnyH_take (i := 16) (oi := { dst := some 87, op := Op.move (Operand.tmp 16), type := 26, pos := "more.go:25", after := #[{ on := 15, ground := Ground.guard }], guard := some (15, false) }) (v := undef) rfl (by kernel_rfl) (by kernel_rfl) (by kernel_rfl) (fun _ _ _ h => h) (Or.inr ⟨by rfl, rfl⟩) (by assumption) ?_
              try simp only [Act.put, List.setIfInBounds_toArray, List.set_cons_zero, List.set_cons_succ]
              refine wpAnyH_take (i := 17) (oi := { dst := some 88, op := Op.binOp BinOp.eql 26 (Operand.tmp 87) (Operand.const (Value.int IntKind.i64 3)) 26, type := 4, pos := "more.go:25", after := #[{ on := 16, ground := Ground.data }, { on := 15, ground := Ground.guard }], guard := some (15, false) }) (v := undef) rfl (by kernel_rfl) (by kernel_rfl) (by kernel_rfl) (fun _ _ _ h => h) (Or.inr ⟨by rfl, rfl⟩) (by assumption) ?_
              try simp only [Act.put, List.setIfInBounds_toArray, List.set_cons_zero, List.set_cons_succ]
              refine wpAnyH_take (i := 18) (oi := { dst := some 89, op := Op.move (Operand.tmp 88), type := 4, pos := "more.go:25", after := #[{ on := 17, ground := Ground.data }, { on := 15, ground := Ground.chain }, { on := 15, ground := Ground.guard }], guard := some (15, false) }) (v := undef) rfl (by kernel_rfl) (by kernel_rfl) (by kernel_rfl) (fun _ _ _ h => h) (Or.inr ⟨by rfl, rfl⟩) (by assumption) ?_
              try simp only [Act.put, List.setIfInBounds_toArray, List.set_cons_zero, List.set_cons_succ]
              refine wpAnyH_take (i := 19) (oi := { dst := some 90, op := Op.move (Operand.tmp 2), type := 33, pos := "more.go:25", after := #[{ on := 18, ground := Ground.guard }], guard := some (18, true) }) (v := undef) rfl (by kernel_rfl) (by kernel_rfl) (by kernel_rfl) (fun _ _ _ h => h) (Or.inr ⟨by rfl, rfl⟩) (by assumption) ?_
              try simp only [Act.put, List.setIfInBounds_toArray, List.set_cons_zero, List.set_cons_succ]
              refine wpAnyH_take (i := 20) (oi := { dst := some 91, op := Op.call { callee := Callee.builtin Builtin.len, args := #[Operand.tmp 90], argTypes := #[33] }, type := 3, pos := "more.go:25", after := #[{ on := 19, ground := Ground.data }, { on := 18, ground := Ground.guard }], guard := some (18, true) }) (v := undef) rfl (by kernel_rfl) (by kernel_rfl) (by kernel_rfl) (fun _ _ _ h => h) (Or.inr ⟨by rfl, rfl⟩) (by assumption) ?_
              try simp only [Act.put, List.setIfInBounds_toArray, List.set_cons_zero, List.set_cons_succ]
              refine wpAnyH_take (i := 21) (oi := { dst := some 92, op := Op.move (Operand.tmp 0), type := 3, pos := "more.go:25", after := #[{ on := 18, ground := Ground.guard }], guard := some (18, true) }) (v := undef) rfl (by kernel_rfl) (by kernel_rfl) (by kernel_rfl) (fun _ _ _ h => h) (Or.inr ⟨by rfl, rfl⟩) (by assumption) ?_
              try simp only [Act.put, List.setIfInBounds_toArray, List.set_cons_zero, List.set_cons_succ]
              refine wpAnyH_take (i := 22) (oi := { dst := some 93, op := Op.binOp BinOp.gtr 3 (Operand.tmp 91) (Operand.tmp 92) 3, type := 4, pos := "more.go:25", after := #[{ on := 20, ground := Ground.data }, { on := 21, ground := Ground.data }, { on := 18, ground := Ground.guard }], guard := some (18, true) }) (v := undef) rfl (by kernel_rfl) (by kernel_rfl) (by kernel_rfl) (fun _ _ _ h => h) (Or.inr ⟨by rfl, rfl⟩) (by assumption) ?_
              try simp only [Act.put, List.setIfInBounds_toArray, List.set_cons_zero, List.set_cons_succ]
              refine wpAnyH_take (i := 23) (oi := { dst := some 94, op := Op.pick (Operand.tmp 89) (Operand.tmp 93) (Operand.const (Value.bool false)), type := 4, pos := "more.go:25", after := #[{ on := 18, ground := Ground.data }, { on := 22, ground := Ground.data }, { on := 15, ground := Ground.guard }], guard := some (15, false) }) (v := undef) rfl (by kernel_rfl) (by kernel_rfl) (by kernel_rfl) (fun _ _ _ h => h) (Or.inr ⟨by rfl, rfl⟩) (by assumption) ?_
              try simp only [Act.put, List.setIfInBounds_toArray, List.set_cons_zero, List.set_cons_succ]
              refine wpAnyH_take (i := 24) (oi := { dst := some 95, op := Op.pick (Operand.tmp 86) (Operand.const (Value.bool true)) (Operand.tmp 94), type := 4, pos := "more.go:25", after := #[{ on := 15, ground := Ground.data }, { on := 23, ground := Ground.data }, { on := 12, ground := Ground.guard }], guard := some (12, true) }) (v := ?vr1x24) rfl (by kernel_rfl) (by kernel_rfl) (by kernel_rfl) (fun _ _ _ h => h) (Or.inl ⟨by rfl, ?hyr1x24⟩) (by assumption) ?_
              case hyr1x24 => (intro w hSw; (try dsimp only at hSw); go_simp; (try with_reducible rfl))
              try simp only [Act.put, List.setIfInBounds_toArray, List.set_cons_zero, List.set_cons_succ]
              refine wpAnyH_take (i := 25) (oi := { dst := some 96, op := Op.pick (Operand.tmp 83) (Operand.tmp 95) (Operand.const (Value.bool false)), type := 4, pos := "more.go:25", after := #[{ on := 12, ground := Ground.data }, { on := 24, ground := Ground.data }], guard := none }) (v := ?vr1x25) rfl (by kernel_rfl) (by kernel_rfl) (by kernel_rfl) (fun _ _ _ h => h) (Or.inl ⟨by rfl, ?hyr1x25⟩) (by assumption) ?_
              case hyr1x25 => (intro w hSw; (try dsimp only at hSw); go_simp; (try with_reducible rfl))
              try simp only [Act.put, List.setIfInBounds_toArray, List.set_cons_zero, List.set_cons_succ]
              refine wpAnyH_take (i := 26) (oi := { dst := some 6, op := Op.assign (Operand.tmp 96), type := 4, pos := "more.go:25", after := #[{ on := 25, ground := Ground.data }, { on := 18, ground := Ground.chain }, { on := 0, ground := Ground.phase }, { on := 1, ground := Ground.phase }, { on := 2, ground := Ground.phase }, { on := 3, ground := Ground.phase }, { on := 4, ground := Ground.phase }, { on := 5, ground := Ground.phase }, { on := 6, ground := Ground.phase }, { on := 7, ground := Ground.phase }, { on := 8, ground := Ground.phase }, { on := 9, ground := Ground.phase }, { on := 10, ground := Ground.phase }, { on := 11, ground := Ground.phase }, { on := 12, ground := Ground.phase }, { on := 13, ground := Ground.phase }, { on := 14, ground := Ground.phase }, { on := 15, ground := Ground.phase }, { on := 16, ground := Ground.phase }, { on := 17, ground := Ground.phase }, { on := 18, ground := Ground.phase }, { on := 19, ground := Ground.phase }, { on := 20, ground := Ground.phase }, { on := 21, ground := Ground.phase }, { on := 22, ground := Ground.phase }, { on := 23, ground := Ground.phase }, { on := 24, ground := Ground.phase }, { on := 25, ground := Ground.phase }], guard := none }) (v := ?vr1x26) rfl (by kernel_rfl) (by kernel_rfl) (by kernel_rfl) (fun _ _ _ h => h) (Or.inl ⟨by rfl, ?hyr1x26⟩) (by assumption) ?_
              case hyr1x26 => (intro w hSw; (try dsimp only at hSw); go_simp; (try with_reducible rfl))
              try simp only [Act.put, List.setIfInBounds_toArray, List.set_cons_zero, List.set_cons_succ]
              refine wpAnyH_done (by kernel_rfl) ?_ _
              clear hsA hcv7 hHeld
              go_wp2
              go_ret
              exact ⟨rfl, HW6.out.trans (((Below.refl w6.heap.size w6).drew.trans HB7.out).mono HW6.out.size)⟩
            · subst hr
              have HF0 := Lib.hid hf0
              clear hf0
              have hroom2 : k < bb.length := by
                have h2 : s.room = k := by rw [HSr.out, runD_room]
                omega
              go_wp2_with fail
              refine HSw.out.mono ?_
              rintro e w6 ⟨rfl, hd6⟩
              have HW6 : Hid (Below w.heap.size w w6) := Lib.hid (HW4.out.trans ((Did.low HD4.out (Nat.le_refl _) hd6).mono HLow.out))
              have HBy6 : Hid (By w6 w6.heap.size A4 s.bs) := Lib.hid (by
                obtain ⟨_, _, hk6, _⟩ := hd6
                exact (HBy4.out.kp hk6).by_)
              obtain ⟨v6, h6, _, _⟩ := hd6
              have h6 : DAt DT (R + 1) w6 D s.count v6 := h6
              have H6 := Lib.hid h6
              have hRd6 := read_any h6.drew HOkS.out
              have HRd6 : Hid (Calls Try.prog 13 #[ptr D] w6.drew (GiveB w6.drew s.bs)) := Lib.hid hRd6
              have hLa6 : ∀ W, Below w6.drew.heap.size w6.drew W → Calls Try.prog 14 #[ptr D] W fun e w' => e = .returned (.int .i64 (n1 : Int)) ∧ W = w' := fun W hW => by
                rw [HN1.out]
                exact lasts_any (s := s.count) (H6.out.drew.below hW)
              have HLa6 := Lib.hid hLa6
              have hcv : (convert 33 9 (.slice A4 l1 c4)).run Try.prog w6.drew = .ok (.string ⟨s.bs.toArray⟩) w6.drew := by
                rw [HL1.out]
                exact str_run c4 HBy6.out.drew
              have hself : (s.bs == s.bs) = true := by simp
              have hself2 : ((n1 : Int) == (n1 : Int)) = true := by simp
              clear h6 hRd6 hLa6
              go_upto_region 15 with fail
              refine wp_region_held_drew (S := (fun w' => (convert 33 9 (.slice A4 l1 c4)).run Try.prog w' = .ok (.string ⟨s.bs.toArray⟩) w')) (by kernel_rfl) ?hSr2 (fun hHeld => ?_)
              case hSr2 => (exact hcv)
              refine wpAnyH_take (i := 0) (oi := { dst := some 71, op := Op.move (Operand.tmp 9), type := 25, pos := "more.go:25", after := #[], guard := none }) (v := ?vr2x0) rfl (by kernel_rfl) (by kernel_rfl) (by kernel_rfl) (fun _ _ _ h => h) (Or.inl ⟨by rfl, ?hyr2x0⟩) (by assumption) ?_
              case hyr2x0 => (intro w hSw; (try dsimp only at hSw); go_simp; (try with_reducible rfl))
              try simp only [Act.put, List.setIfInBounds_toArray, List.set_cons_zero, List.set_cons_succ]
              refine wpAnyH_take (i := 3) (oi := { dst := some 74, op := Op.move (Operand.tmp 14), type := 33, pos := "more.go:25", after := #[], guard := none }) (v := ?vr2x3) rfl (by kernel_rfl) (by kernel_rfl) (by kernel_rfl) (fun _ _ _ h => h) (Or.inl ⟨by rfl, ?hyr2x3⟩) (by assumption) ?_
              case hyr2x3 => (intro w hSw; (try dsimp only at hSw); go_simp; (try with_reducible rfl))
              try simp only [Act.put, List.setIfInBounds_toArray, List.set_cons_zero, List.set_cons_succ]
              refine wpAnyH_take (i := 4) (oi := { dst := some 75, op := Op.convert 33 9 (Operand.tmp 74), type := 9, pos := "more.go:25", after := #[{ on := 3, ground := Ground.data }], guard := none }) (v := ?vr2x4) rfl (by kernel_rfl) (by kernel_rfl) (by kernel_rfl) (fun _ _ _ h => h) (Or.inl ⟨by rfl, ?hyr2x4⟩) (by assumption) ?_
              case hyr2x4 => (intro w hSw; (try dsimp only at hSw); go_simp; (try with_reducible rfl))
              try simp only [Act.put, List.setIfInBounds_toArray, List.set_cons_zero, List.set_cons_succ]
              refine wpAnyH_ready (rs := [1]) (by kernel_rfl) (by simp) ?_
              refine AllReadyH.cons (o := { dst := some 72, op := Op.call { callee := Callee.value (Operand.func 13), args := #[Operand.tmp 71], argTypes := #[25] }, type := 33, pos := "more.go:25", after := #[{ on := 0, ground := Ground.data }], guard := none }) rfl (fun K hK => ?_) AllReadyH.nil
              go_simp
              refine HRd6.out.mono ?_
              intro e w7 hg7
              obtain ⟨A7, c7, rfl, _, hb7, hs7⟩ := give_str hg7
              have hsA := hs7 w7 (Below.refl _ _)
              have hcv7 : (convert 33 9 (.slice A4 l1 c4)).run Try.prog w7 = .ok (.string ⟨s.bs.toArray⟩) w7 := by
                rw [HL1.out]
                exact str_run c4 (HBy6.out.drew.later hb7)
              have HLa7 := Lib.hid (HLa6.out w7 hb7)
              have HB7 := Lib.hid hb7
              clear hb7 hs7 hg7 hcv
              go_wp2_with fail
              clear hHeld
              refine hK.out _ _ ?hSr2x1 (fun hHeld => ?_)
              case hSr2x1 => (exact hcv7)
              clear hK K
              try simp only [Act.put, List.setIfInBounds_toArray, List.set_cons_zero, List.set_cons_succ]
              refine wpAnyH_ready (rs := [2]) (by kernel_rfl) (by simp) ?_
              refine AllReadyH.cons (o := { dst := some 73, op := Op.convert 33 9 (Operand.tmp 72), type := 9, pos := "more.go:25", after := #[{ on := 1, ground := Ground.data }], guard := none }) rfl (fun K hK => ?_) AllReadyH.nil
              go_simp
              clear hHeld
              refine hK.out _ _ ?hSr2x2 (fun hHeld => ?_)
              case hSr2x2 => (exact hcv7)
              clear hK K
              try simp only [Act.put, List.setIfInBounds_toArray, List.set_cons_zero, List.set_cons_succ]
              refine wpAnyH_take (i := 5) (oi := { dst := some 76, op := Op.binOp BinOp.eql 9 (Operand.tmp 73) (Operand.tmp 75) 9, type := 4, pos := "more.go:25", after := #[{ on := 2, ground := Ground.data }, { on := 4, ground := Ground.data }], guard := none }) (v := ?vr2x5) rfl (by kernel_rfl) (by kernel_rfl) (by kernel_rfl) (fun _ _ _ h => h) (Or.inl ⟨by rfl, ?hyr2x5⟩) (by assumption) ?_
              case hyr2x5 => (intro w hSw; (try dsimp only at hSw); go_simp; (try with_reducible rfl))
              try simp only [Act.put, List.setIfInBounds_toArray, List.set_cons_zero, List.set_cons_succ]
              refine wpAnyH_take (i := 6) (oi := { dst := some 77, op := Op.move (Operand.tmp 76), type := 4, pos := "more.go:25", after := #[{ on := 5, ground := Ground.data }, { on := 1, ground := Ground.chain }], guard := none }) (v := ?vr2x6) rfl (by kernel_rfl) (by kernel_rfl) (by kernel_rfl) (fun _ _ _ h => h) (Or.inl ⟨by rfl, ?hyr2x6⟩) (by assumption) ?_
              case hyr2x6 => (intro w hSw; (try dsimp only at hSw); go_simp; (try with_reducible rfl))
              try simp only [Act.put, List.setIfInBounds_toArray, List.set_cons_zero, List.set_cons_succ]
              refine wpAnyH_take (i := 7) (oi := { dst := some 78, op := Op.move (Operand.tmp 9), type := 25, pos := "more.go:25", after := #[{ on := 6, ground := Ground.guard }], guard := some (6, true) }) (v := ?vr2x7) rfl (by kernel_rfl) (by kernel_rfl) (by kernel_rfl) (fun _ _ _ h => h) (Or.inl ⟨by rfl, ?hyr2x7⟩) (by assumption) ?_
              case hyr2x7 => (intro w hSw; (try dsimp only at hSw); go_simp; (try with_reducible rfl))
              try simp only [Act.put, List.setIfInBounds_toArray, List.set_cons_zero, List.set_cons_succ]
              refine wpAnyH_take (i := 9) (oi := { dst := some 80, op := Op.move (Operand.tmp 15), type := 3, pos := "more.go:25", after := #[{ on := 6, ground := Ground.guard }], guard := some (6, true) }) (v := ?vr2x9) rfl (by kernel_rfl) (by kernel_rfl) (by kernel_rfl) (fun _ _ _ h => h) (Or.inl ⟨by rfl, ?hyr2x9⟩) (by assumption) ?_
              case hyr2x9 => (intro w hSw; (try dsimp only at hSw); go_simp; (try with_reducible rfl))
              try simp only [Act.put, List.setIfInBounds_toArray, List.set_cons_zero, List.set_cons_succ]
              refine wpAnyH_ready (rs := [8]) (by kernel_rfl) (by simp) ?_
              refine AllReadyH.cons (o := { dst := some 79, op := Op.call { callee := Callee.value (Operand.func 14), args := #[Operand.tmp 78], argTypes := #[25] }, type := 3, pos := "more.go:25", after := #[{ on := 7, ground := Ground.data }, { on := 6, ground := Ground.chain }, { on := 6, ground := Ground.guard }], guard := some (6, true) }) rfl (fun K hK => ?_) AllReadyH.nil
              go_simp
              refine HLa7.out.mono ?_
              rintro e w8 ⟨rfl, rfl⟩
              go_wp2_with fail
              clear hHeld
              refine hK.out _ _ ?hSr2x8 (fun hHeld => ?_)
              case hSr2x8 => (exact hcv7)
              clear hK K
              try simp only [Act.put, List.setIfInBounds_toArray, List.set_cons_zero, List.set_cons_succ]
              refine wpAnyH_take (i := 10) (oi := { dst := some 81, op := Op.binOp BinOp.eql 3 (Operand.tmp 79) (Operand.tmp 80) 3, type := 4, pos := "more.go:25", after := #[{ on := 8, ground := Ground.data }, { on := 9, ground := Ground.data }, { on := 6, ground := Ground.guard }], guard := some (6, true) }) (v := ?vr2x10) rfl (by kernel_rfl) (by kernel_rfl) (by kernel_rfl) (fun _ _ _ h => h) (Or.inl ⟨by rfl, ?hyr2x10⟩) (by assumption) ?_
              case hyr2x10 => (intro w hSw; (try dsimp only at hSw); go_simp; (try with_reducible rfl))
              try simp only [Act.put, List.setIfInBounds_toArray, List.set_cons_zero, List.set_cons_succ]
              refine wpAnyH_take (i := 11) (oi := { dst := some 82, op := Op.pick (Operand.tmp 77) (Operand.tmp 81) (Operand.const (Value.bool false)), type := 4, pos := "more.go:25", after := #[{ on := 6, ground := Ground.data }, { on := 10, ground := Ground.data }], guard := none }) (v := ?vr2x11) rfl (by kernel_rfl) (by kernel_rfl) (by kernel_rfl) (fun _ _ _ h => h) (Or.inl ⟨by rfl, ?hyr2x11⟩) (by assumption) ?_
              case hyr2x11 => (intro w hSw; (try dsimp only at hSw); go_simp; (try with_reducible rfl))
              try simp only [Act.put, List.setIfInBounds_toArray, List.set_cons_zero, List.set_cons_succ]
              refine wpAnyH_take (i := 12) (oi := { dst := some 83, op := Op.move (Operand.tmp 82), type := 4, pos := "more.go:25", after := #[{ on := 11, ground := Ground.data }, { on := 8, ground := Ground.chain }], guard := none }) (v := ?vr2x12) rfl (by kernel_rfl) (by kernel_rfl) (by kernel_rfl) (fun _ _ _ h => h) (Or.inl ⟨by rfl, ?hyr2x12⟩) (by assumption) ?_
              case hyr2x12 => (intro w hSw; (try dsimp only at hSw); go_simp; (try with_reducible rfl))
              try simp only [Act.put, List.setIfInBounds_toArray, List.set_cons_zero, List.set_cons_succ]
              refine wpAnyH_take (i := 13) (oi := { dst := some 84, op := Op.move (Operand.tmp 16), type := 26, pos := "more.go:25", after := #[{ on := 12, ground := Ground.guard }], guard := some (12, true) }) (v := ?vr2x13) rfl (by kernel_rfl) (by kernel_rfl) (by kernel_rfl) (fun _ _ _ h => h) (Or.inl ⟨by rfl, ?hyr2x13⟩) (by assumption) ?_
              case hyr2x13 => (intro w hSw; (try dsimp only at hSw); go_simp; (try with_reducible rfl))
              try simp only [Act.put, List.setIfInBounds_toArray, List.set_cons_zero, List.set_cons_succ]
              refine wpAnyH_take (i := 14) (oi := { dst := some 85, op := Op.binOp BinOp.eql 26 (Operand.tmp 84) (Operand.const (Value.int IntKind.i64 7)) 26, type := 4, pos := "more.go:25", after := #[{ on := 13, ground := Ground.data }, { on := 12, ground := Ground.guard }], guard := some (12, true) }) (v := ?vr2x14) rfl (by kernel_rfl) (by kernel_rfl) (by kernel_rfl) (fun _ _ _ h => h) (Or.inl ⟨by rfl, ?hyr2x14⟩) (by assumption) ?_
              case hyr2x14 => (intro w hSw; (try dsimp only at hSw); go_simp; (try with_reducible rfl))
              try simp only [Act.put, List.setIfInBounds_toArray, List.set_cons_zero, List.set_cons_succ]
              refine wpAnyH_take (i := 15) (oi := { dst := some 86, op := Op.move (Operand.tmp 85), type := 4, pos := "more.go:25", after := #[{ on := 14, ground := Ground.data }, { on := 12, ground := Ground.chain }, { on := 12, ground := Ground.guard }], guard := some (12, true) }) (v := ?vr2x15) rfl (by kernel_rfl) (by kernel_rfl) (by kernel_rfl) (fun _ _ _ h => h) (Or.inl ⟨by rfl, ?hyr2x15⟩) (by assumption) ?_
              case hyr2x15 => (intro w hSw; (try dsimp only at hSw); go_simp; (try with_reducible rfl))
              try simp only [Act.put, List.setIfInBounds_toArray, List.set_cons_zero, List.set_cons_succ]
              refine wpAnyH_take (i := 16) (oi := { dst := some 87, op := Op.move (Operand.tmp 16), type := 26, pos := "more.go:25", after := #[{ on := 15, ground := Ground.guard }], guard := some (15, false) }) (v := ?vr2x16) rfl (by kernel_rfl) (by kernel_rfl) (by kernel_rfl) (fun _ _ _ h => h) (Or.inl ⟨by rfl, ?hyr2x16⟩) (by assumption) ?_
              case hyr2x16 => (intro w hSw; (try dsimp only at hSw); go_simp; (try with_reducible rfl))
              try simp only [Act.put, List.setIfInBounds_toArray, List.set_cons_zero, List.set_cons_succ]
              refine wpAnyH_take (i := 17) (oi := { dst := some 88, op := Op.binOp BinOp.eql 26 (Operand.tmp 87) (Operand.const (Value.int IntKind.i64 3)) 26, type := 4, pos := "more.go:25", after := #[{ on := 16, ground := Ground.data }, { on := 15, ground := Ground.guard }], guard := some (15, false) }) (v := ?vr2x17) rfl (by kernel_rfl) (by kernel_rfl) (by kernel_rfl) (fun _ _ _ h => h) (Or.inl ⟨by rfl, ?hyr2x17⟩) (by assumption) ?_
              case hyr2x17 => (intro w hSw; (try dsimp only at hSw); go_simp; (try with_reducible rfl))
              try simp only [Act.put, List.setIfInBounds_toArray, List.set_cons_zero, List.set_cons_succ]
              refine wpAnyH_take (i := 18) (oi := { dst := some 89, op := Op.move (Operand.tmp 88), type := 4, pos := "more.go:25", after := #[{ on := 17, ground := Ground.data }, { on := 15, ground := Ground.chain }, { on := 15, ground := Ground.guard }], guard := some (15, false) }) (v := ?vr2x18) rfl (by kernel_rfl) (by kernel_rfl) (by kernel_rfl) (fun _ _ _ h => h) (Or.inl ⟨by rfl, ?hyr2x18⟩) (by assumption) ?_
              case hyr2x18 => (intro w hSw; (try dsimp only at hSw); go_simp; (try with_reducible rfl))
              try simp only [Act.put, List.setIfInBounds_toArray, List.set_cons_zero, List.set_cons_succ]
              refine wpAnyH_take (i := 19) (oi := { dst := some 90, op := Op.move (Operand.tmp 2), type := 33, pos := "more.go:25", after := #[{ on := 18, ground := Ground.guard }], guard := some (18, true) }) (v := ?vr2x19) rfl (by kernel_rfl) (by kernel_rfl) (by kernel_rfl) (fun _ _ _ h => h) (Or.inl ⟨by rfl, ?hyr2x19⟩) (by assumption) ?_
              case hyr2x19 => (intro w hSw; (try dsimp only at hSw); go_simp; (try with_reducible rfl))
              try simp only [Act.put, List.setIfInBounds_toArray, List.set_cons_zero, List.set_cons_succ]
              refine wpAnyH_take (i := 20) (oi := { dst := some 91, op := Op.call { callee := Callee.builtin Builtin.len, args := #[Operand.tmp 90], argTypes := #[33] }, type := 3, pos := "more.go:25", after := #[{ on := 19, ground := Ground.data }, { on := 18, ground := Ground.guard }], guard := some (18, true) }) (v := ?vr2x20) rfl (by kernel_rfl) (by kernel_rfl) (by kernel_rfl) (fun _ _ _ h => h) (Or.inl ⟨by rfl, ?hyr2x20⟩) (by assumption) ?_
              case hyr2x20 => (intro w hSw; (try dsimp only at hSw); go_simp; (try with_reducible rfl))
              try simp only [Act.put, List.setIfInBounds_toArray, List.set_cons_zero, List.set_cons_succ]
              refine wpAnyH_take (i := 21) (oi := { dst := some 92, op := Op.move (Operand.tmp 0), type := 3, pos := "more.go:25", after := #[{ on := 18, ground := Ground.guard }], guard := some (18, true) }) (v := ?vr2x21) rfl (by kernel_rfl) (by kernel_rfl) (by kernel_rfl) (fun _ _ _ h => h) (Or.inl ⟨by rfl, ?hyr2x21⟩) (by assumption) ?_
              case hyr2x21 => (intro w hSw; (try dsimp only at hSw); go_simp; (try with_reducible rfl))
              try simp only [Act.put, List.setIfInBounds_toArray, List.set_cons_zero, List.set_cons_succ]
              refine wpAnyH_take (i := 22) (oi := { dst := some 93, op := Op.binOp BinOp.gtr 3 (Operand.tmp 91) (Operand.tmp 92) 3, type := 4, pos := "more.go:25", after := #[{ on := 20, ground := Ground.data }, { on := 21, ground := Ground.data }, { on := 18, ground := Ground.guard }], guard := some (18, true) }) (v := ?vr2x22) rfl (by kernel_rfl) (by kernel_rfl) (by kernel_rfl) (fun _ _ _ h => h) (Or.inl ⟨by rfl, ?hyr2x22⟩) (by assumption) ?_
              case hyr2x22 => (intro w hSw; (try dsimp only at hSw); go_simp; (try with_reducible rfl))
              try simp only [Act.put, List.setIfInBounds_toArray, List.set_cons_zero, List.set_cons_succ]
              refine wpAnyH_take (i := 23) (oi := { dst := some 94, op := Op.pick (Operand.tmp 89) (Operand.tmp 93) (Operand.const (Value.bool false)), type := 4, pos := "more.go:25", after := #[{ on := 18, ground := Ground.data }, { on := 22, ground := Ground.data }, { on := 15, ground := Ground.guard }], guard := some (15, false) }) (v := ?vr2x23) rfl (by kernel_rfl) (by kernel_rfl) (by kernel_rfl) (fun _ _ _ h => h) (Or.inl ⟨by rfl, ?hyr2x23⟩) (by assumption) ?_
              case hyr2x23 => (intro w hSw; (try dsimp only at hSw); go_simp; (try with_reducible rfl))
              try simp only [Act.put, List.setIfInBounds_toArray, List.set_cons_zero, List.set_cons_succ]
              refine wpAnyH_take (i := 24) (oi := { dst := some 95, op := Op.pick (Operand.tmp 86) (Operand.const (Value.bool true)) (Operand.tmp 94), type := 4, pos := "more.go:25", after := #[{ on := 15, ground := Ground.data }, { on := 23, ground := Ground.data }, { on := 12, ground := Ground.guard }], guard := some (12, true) }) (v := ?vr2x24) rfl (by kernel_rfl) (by kernel_rfl) (by kernel_rfl) (fun _ _ _ h => h) (Or.inl ⟨by rfl, ?hyr2x24⟩) (by assumption) ?_
              case hyr2x24 => (intro w hSw; (try dsimp only at hSw); go_simp; (try with_reducible rfl))
              try simp only [Act.put, List.setIfInBounds_toArray, List.set_cons_zero, List.set_cons_succ]
              refine wpAnyH_take (i := 25) (oi := { dst := some 96, op := Op.pick (Operand.tmp 83) (Operand.tmp 95) (Operand.const (Value.bool false)), type := 4, pos := "more.go:25", after := #[{ on := 12, ground := Ground.data }, { on := 24, ground := Ground.data }], guard := none }) (v := ?vr2x25) rfl (by kernel_rfl) (by kernel_rfl) (by kernel_rfl) (fun _ _ _ h => h) (Or.inl ⟨by rfl, ?hyr2x25⟩) (by assumption) ?_
              case hyr2x25 => (intro w hSw; (try dsimp only at hSw); go_simp; (try with_reducible rfl))
              try simp only [Act.put, List.setIfInBounds_toArray, List.set_cons_zero, List.set_cons_succ]
              refine wpAnyH_take (i := 26) (oi := { dst := some 6, op := Op.assign (Operand.tmp 96), type := 4, pos := "more.go:25", after := #[{ on := 25, ground := Ground.data }, { on := 18, ground := Ground.chain }, { on := 0, ground := Ground.phase }, { on := 1, ground := Ground.phase }, { on := 2, ground := Ground.phase }, { on := 3, ground := Ground.phase }, { on := 4, ground := Ground.phase }, { on := 5, ground := Ground.phase }, { on := 6, ground := Ground.phase }, { on := 7, ground := Ground.phase }, { on := 8, ground := Ground.phase }, { on := 9, ground := Ground.phase }, { on := 10, ground := Ground.phase }, { on := 11, ground := Ground.phase }, { on := 12, ground := Ground.phase }, { on := 13, ground := Ground.phase }, { on := 14, ground := Ground.phase }, { on := 15, ground := Ground.phase }, { on := 16, ground := Ground.phase }, { on := 17, ground := Ground.phase }, { on := 18, ground := Ground.phase }, { on := 19, ground := Ground.phase }, { on := 20, ground := Ground.phase }, { on := 21, ground := Ground.phase }, { on := 22, ground := Ground.phase }, { on := 23, ground := Ground.phase }, { on := 24, ground := Ground.phase }, { on := 25, ground := Ground.phase }], guard := none }) (v := ?vr2x26) rfl (by kernel_rfl) (by kernel_rfl) (by kernel_rfl) (fun _ _ _ h => h) (Or.inl ⟨by rfl, ?hyr2x26⟩) (by assumption) ?_
              case hyr2x26 => (intro w hSw; (try dsimp only at hSw); go_simp; (try with_reducible rfl))
              try simp only [Act.put, List.setIfInBounds_toArray, List.set_cons_zero, List.set_cons_succ]
              refine wpAnyH_done (by kernel_rfl) ?_ _
              clear hsA hcv7 hHeld
              go_wp2
              go_ret
              exact ⟨rfl, HW6.out.trans (((Below.refl w6.heap.size w6).drew.trans HB7.out).mono HW6.out.size)⟩
            · subst hr
              have HF0 := Lib.hid hf0
              clear hf0
              go_wp2_with fail
              refine HSw.out.mono ?_
              rintro e w6 ⟨rfl, hd6⟩
              have HW6 : Hid (Below w.heap.size w w6) := Lib.hid (HW4.out.trans ((Did.low HD4.out (Nat.le_refl _) hd6).mono HLow.out))
              have HBy6 : Hid (By w6 w6.heap.size A4 s.bs) := Lib.hid (by
                obtain ⟨_, _, hk6, _⟩ := hd6
                exact (HBy4.out.kp hk6).by_)
              obtain ⟨v6, h6, _, _⟩ := hd6
              have h6 : DAt DT (R + 1) w6 D { s.count with bs := bb, last := bb.length } v6 := h6
              have H6 := Lib.hid h6
              have HCr := Lib.hid (crash_any h6 HOkS.out 0)
              rw [crash_all] at HCr
              clear h6
              go_wp2_with fail
              refine HCr.out.mono ?_
              rintro e w7 ⟨rfl, hd7⟩
              have HW7 : Hid (Below w.heap.size w w7) := Lib.hid (HW6.out.trans ((Did.low H6.out (Nat.le_refl _) hd7).mono HLow.out))
              obtain ⟨v7, h7, _, _⟩ := hd7
              have HOkC := Lib.hid (crash_ok HOkS.out 0)
              rw [crash_all] at HOkC
              have HRd7 : Hid (Calls Try.prog 13 #[ptr D] w7.drew (GiveB w7.drew bb)) := Lib.hid (read_any h7.drew HOkC.out)
              have HBb7 : Hid (By w7 w7.heap.size A2 bb) := Lib.hid ((HBb.out.below HW7.out).more HW7.out.size)
              have hcv : (convert 33 9 (.slice A2 bb.length c2)).run Try.prog w7.drew = .ok (.string ⟨bb.toArray⟩) w7.drew := str_run c2 HBb7.out.drew
              have hself : (bb == bb) = true := by simp
              clear h7
              go_upto_region 17 with fail
              refine wp_region_held_drew (S := (fun w' => (convert 33 9 (.slice A2 bb.length c2)).run Try.prog w' = .ok (.string ⟨bb.toArray⟩) w')) (by kernel_rfl) ?hSr3 (fun hHeld => ?_)
              case hSr3 => (exact hcv)
              refine wpAnyH_take (i := 0) (oi := { dst := some 99, op := Op.move (Operand.tmp 9), type := 25, pos := "more.go:28", after := #[], guard := none }) (v := ?vr3x0) rfl (by kernel_rfl) (by kernel_rfl) (by kernel_rfl) (fun _ _ _ h => h) (Or.inl ⟨by rfl, ?hyr3x0⟩) (by assumption) ?_
              case hyr3x0 => (intro w hSw; (try dsimp only at hSw); go_simp; (try with_reducible rfl))
              try simp only [Act.put, List.setIfInBounds_toArray, List.set_cons_zero, List.set_cons_succ]
              refine wpAnyH_take (i := 3) (oi := { dst := some 102, op := Op.move (Operand.tmp 2), type := 33, pos := "more.go:28", after := #[], guard := none }) (v := ?vr3x3) rfl (by kernel_rfl) (by kernel_rfl) (by kernel_rfl) (fun _ _ _ h => h) (Or.inl ⟨by rfl, ?hyr3x3⟩) (by assumption) ?_
              case hyr3x3 => (intro w hSw; (try dsimp only at hSw); go_simp; (try with_reducible rfl))
              try simp only [Act.put, List.setIfInBounds_toArray, List.set_cons_zero, List.set_cons_succ]
              refine wpAnyH_take (i := 4) (oi := { dst := some 103, op := Op.convert 33 9 (Operand.tmp 102), type := 9, pos := "more.go:28", after := #[{ on := 3, ground := Ground.data }], guard := none }) (v := ?vr3x4) rfl (by kernel_rfl) (by kernel_rfl) (by kernel_rfl) (fun _ _ _ h => h) (Or.inl ⟨by rfl, ?hyr3x4⟩) (by assumption) ?_
              case hyr3x4 => (intro w hSw; (try dsimp only at hSw); go_simp; (try with_reducible rfl))
              try simp only [Act.put, List.setIfInBounds_toArray, List.set_cons_zero, List.set_cons_succ]
              refine wpAnyH_ready (rs := [1]) (by kernel_rfl) (by simp) ?_
              refine AllReadyH.cons (o := { dst := some 100, op := Op.call { callee := Callee.value (Operand.func 13), args := #[Operand.tmp 99], argTypes := #[25] }, type := 33, pos := "more.go:28", after := #[{ on := 0, ground := Ground.data }], guard := none }) rfl (fun K hK => ?_) AllReadyH.nil
              go_simp
              refine HRd7.out.mono ?_
              intro e w8 hg8
              obtain ⟨A8, c8, rfl, _, hb8, hs8⟩ := give_str hg8
              have hsA := hs8 w8 (Below.refl _ _)
              have hcv8 : (convert 33 9 (.slice A2 bb.length c2)).run Try.prog w8 = .ok (.string ⟨bb.toArray⟩) w8 := str_run c2 (HBb7.out.drew.later hb8)
              have HB8 := Lib.hid hb8
              clear hb8 hs8 hg8 hcv
              go_wp2_with fail
              clear hHeld
              refine hK.out _ _ ?hSr3x1 (fun hHeld => ?_)
              case hSr3x1 => (exact hcv8)
              clear hK K
              try simp only [Act.put, List.setIfInBounds_toArray, List.set_cons_zero, List.set_cons_succ]
              refine wpAnyH_ready (rs := [2]) (by kernel_rfl) (by simp) ?_
              refine AllReadyH.cons (o := { dst := some 101, op := Op.convert 33 9 (Operand.tmp 100), type := 9, pos := "more.go:28", after := #[{ on := 1, ground := Ground.data }], guard := none }) rfl (fun K hK => ?_) AllReadyH.nil
              go_simp
              clear hHeld
              refine hK.out _ _ ?hSr3x2 (fun hHeld => ?_)
              case hSr3x2 => (exact hcv8)
              clear hK K
              try simp only [Act.put, List.setIfInBounds_toArray, List.set_cons_zero, List.set_cons_succ]
              refine wpAnyH_take (i := 5) (oi := { dst := some 104, op := Op.binOp BinOp.eql 9 (Operand.tmp 101) (Operand.tmp 103) 9, type := 4, pos := "more.go:28", after := #[{ on := 2, ground := Ground.data }, { on := 4, ground := Ground.data }], guard := none }) (v := ?vr3x5) rfl (by kernel_rfl) (by kernel_rfl) (by kernel_rfl) (fun _ _ _ h => h) (Or.inl ⟨by rfl, ?hyr3x5⟩) (by assumption) ?_
              case hyr3x5 => (intro w hSw; (try dsimp only at hSw); go_simp; (try with_reducible rfl))
              try simp only [Act.put, List.setIfInBounds_toArray, List.set_cons_zero, List.set_cons_succ]
              refine wpAnyH_take (i := 6) (oi := { dst := some 6, op := Op.assign (Operand.tmp 104), type := 4, pos := "more.go:28", after := #[{ on := 5, ground := Ground.data }, { on := 1, ground := Ground.chain }, { on := 0, ground := Ground.phase }, { on := 1, ground := Ground.phase }, { on := 2, ground := Ground.phase }, { on := 3, ground := Ground.phase }, { on := 4, ground := Ground.phase }, { on := 5, ground := Ground.phase }], guard := none }) (v := ?vr3x6) rfl (by kernel_rfl) (by kernel_rfl) (by kernel_rfl) (fun _ _ _ h => h) (Or.inl ⟨by rfl, ?hyr3x6⟩) (by assumption) ?_
              case hyr3x6 => (intro w hSw; (try dsimp only at hSw); go_simp; (try with_reducible rfl))
              try simp only [Act.put, List.setIfInBounds_toArray, List.set_cons_zero, List.set_cons_succ]
              refine wpAnyH_done (by kernel_rfl) ?_ _
              clear hsA hcv8 hHeld
              go_wp2
              go_ret
              exact ⟨rfl, HW7.out.trans (((Below.refl w7.heap.size w7).drew.trans HB8.out).mono HW7.out.size)⟩
      · exact absurd ⟨by have := HK.out; omega, by have := HK.out; omega⟩ h0
    · go_wp2
      go_ret
      exact ⟨rfl, HB2.out⟩
  · go_wp2
    go_ret
    exact ⟨rfl, HB1.out⟩

end Go.Proofs.Ytofaapcfileojaa
