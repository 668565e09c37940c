/- The document's box: Put. -/
import Derived.Test.YtekladmddfibaaaBoxF
import Derived.Test.YtekladmddfibaaaMsgQ
namespace Go.Proofs.Ytekladmddfibaaa
open Go.RowKit Go.Sort

def oneM (m : MsgV) : MsgV := { m with life := 1, seen := 0, xid := 1 }
theorem upd_right (m : MsgV) : UpdM m ↔ rightM (oneM m) = true ∧ m.kind = 2 := by
  rw [right_iff]
  unfold UpdM RM KM oneM
  simp only
  constructor
  · rintro ⟨h1, h2, h3, h4, h5, h6, h7, h8, h9, h10⟩
    exact ⟨⟨by omega, by omega, by omega, .inr (.inr (.inl ⟨h1, by omega, h2, ⟨h4, h5⟩, h10, ⟨h6, h7⟩, ⟨h8, h9⟩, h3⟩))⟩, h1⟩
  · rintro ⟨⟨_, _, _, h | h | h | h⟩, hk⟩
    · omega
    · omega
    · obtain ⟨h1, h2, h3, ⟨h4, h5⟩, h6, ⟨h7, h8⟩, ⟨h9, h10⟩, h11⟩ := h
      exact ⟨h1, h3, h11, h4, h5, h7, h8, h9, h10, h6⟩
    · omega

set_option maxRecDepth 100000 in
set_option maxHeartbeats 4000000 in
theorem rput_any {w : World} {r : Nat} {vL vW : Value} {B : BxV} (m : MsgV) (ha : m.addr < 4294967296) (h : DAtB w r vL vW B) (hok : B.Ok) :
    Calls Try.prog 28 #[.pointer (some ⟨r, 0, none⟩), m.v] w fun e w' => e = .returned (.int .i64 (B.put m).2) ∧ AckD r vL vW w (B.put m).1 w' := by
  obtain ⟨w1, hw1⟩ : ∃ w1, w1 = w.alloc (mbox (oneM m)) := ⟨_, rfl⟩
  have hA1 : Below w.heap.size w (w.alloc (mbox m)) := (Below.refl _ _).alloc (Nat.le_refl _) _
  have hB1 : Below w.heap.size w w1 := by
    rw [hw1]
    exact (Below.refl _ _).alloc (Nat.le_refl _) _
  have HM1 : Hid (MBox w1 w.heap.size (oneM m)) := Lib.hid (by
    rw [hw1]
    exact MBox.new w (oneM m))
  have HM0 := Lib.hid (MBox.new w m)
  have HB1 := Lib.hid hB1
  have HW1 := Lib.hid hw1
  have HD := Lib.hid h
  have HOK := Lib.hid hok
  have HAD := Lib.hid ha
  have HUP := Lib.hid (upd_right m)
  have HRT := Lib.hid (fun W => rright_any (oneM m) W)
  have hlenW := hok.lenW
  obtain ⟨b0, b1, b2, b3, b4, b5, b6, b7, b8, b9, b10⟩ := HM0.out.all
  have hf0 : ∀ i, (w.alloc (mbox m)).frozen? ⟨w.heap.size, i, none⟩ = false := fun i => HM0.out.free i
  have f1 := hf0 1
  have f2 := hf0 2
  have f3 := hf0 3
  obtain ⟨rb, hrb⟩ : ∃ rb, rb = rightM (oneM m) := ⟨_, rfl⟩
  rw [← hrb] at HRT HUP
  clear h hok hw1 hA1 hB1 ha hrb
  go_enter Try.func28, Try.ntmps28
  go_upto_region 4 with fail
  rw [show ∀ V : World, V.alloc (.cells #[.int .i64 m.kind, .int .i64 1, .int .i64 0, .int .i64 1, .int .i64 m.state, .int .u32 (m.addr : Int), .int .i64 m.bind, .string m.client, .int .i64 m.pot, .int .i64 m.at_, .bool m.ok] 31) = V.alloc (mbox (oneM m)) from fun _ => rfl, ← HW1.out]
  clear b0 b1 b2 b3 b4 b5 b6 b7 b8 b9 b10 f1 f2 f3 hf0
  obtain ⟨b0, b1, b2, b3, b4, b5, b6, b7, b8, b9, b10⟩ := HM1.out.all
  go_wp2_with fail
  refine (HRT.out w1).mono ?_
  rintro e w2 ⟨rfl, hb2⟩
  have HM2 := Lib.hid (HM1.out.later hb2)
  have HB2 := Lib.hid (HB1.out.trans (hb2.mono HB1.out.size))
  clear b0 b1 b2 b3 b4 b5 b6 b7 b8 b9 b10 hb2
  have HD2 := Lib.hid (HD.out.later HB2.out)
  have HPUTN : ¬ UpdM m → Hid (B.put m = (B, 2)) := fun hn => Lib.hid (by unfold BxV.put; rw [if_neg hn])
  obtain ⟨b0, b1, b2, b3, b4, b5, b6, b7, b8, b9, b10⟩ := HM2.out.all
  cases rb
  · have HP := HPUTN (fun hu => by have := (HUP.out.1 hu).1; cases this)
    clear HPUTN
    go_wp2
    go_ret
    rw [HP.out]
    exact ⟨rfl, vL, vW, HD2.out, Way.of_below HB2.out⟩
  · by_cases hk : m.kind = 2
    · have hq : ((oneM m).kind != 2) = false := by show (m.kind != 2) = false; simp [hk]
      have HU : Hid (UpdM m) := Lib.hid (HUP.out.2 ⟨rfl, hk⟩)
      have c2 := HD2.out.xid
      obtain ⟨X, hX⟩ : ∃ X, X = B.xid := ⟨_, rfl⟩
      rw [← hX] at c2
      have HX := Lib.hid hX
      clear hX hk HPUTN
      by_cases hx : 1073741824 ≤ X
      · have hg : decide (1073741824 ≤ X) = true := by simpa using hx
        have HP : Hid (B.put m = (B, 3)) := Lib.hid (by unfold BxV.put; rw [if_pos HU.out, if_pos (by have := HX.out; omega)])
        go_wp2
        go_ret
        rw [HP.out]
        exact ⟨rfl, vL, vW, HD2.out, Way.of_below HB2.out⟩
      · have hg : decide (1073741824 ≤ X) = false := by simpa using hx
        have HP : Hid (B.put m = ((B.waits m).goes m.addr, 0)) := Lib.hid (by unfold BxV.put; rw [if_pos HU.out, if_neg (by have := HX.out; omega)])
        obtain ⟨w3, hw3⟩ : ∃ w3, w3 = (w2.setCell ⟨w.heap.size, 1, none⟩ (.int .i64 0)).setCell ⟨w.heap.size, 3, none⟩ (.int .i64 0) := ⟨_, rfl⟩
        have HB3 : Hid (Below w.heap.size w w3) := Lib.hid (by
          rw [hw3]
          exact (HB2.out.setCell (p := ⟨w.heap.size, 1, none⟩) (Nat.le_refl _) _).setCell (p := ⟨w.heap.size, 3, none⟩) (Nat.le_refl _) _)
        have HM3 : Hid (MBox w3 w.heap.size (nudeM m)) := Lib.hid (by
          rw [hw3]
          exact (HM2.out.store (m' := { oneM m with life := 0 }) 1 _ rfl).store (m' := nudeM m) 3 _ rfl)
        have HD3 := Lib.hid (HD.out.later HB3.out)
        have HW3 := Lib.hid hw3
        have f1 := HM2.out.free 1
        have f3 := HM2.out.free 3
        obtain ⟨A, c, hvW, -, hlc, hE⟩ := HD3.out.readW
        have HE := Lib.hid hE
        have HV := Lib.hid hvW
        clear hvW hE hw3
        go_upto_region 11 with fail
        rw [← HW3.out]
        clear b0 b1 b2 b3 b4 b5 b6 b7 b8 b9 b10 f1 f3 c2
        have HK : Hid (∀ W, Below w3.heap.size w3 W → W.cell? ⟨r, 1, none⟩ = some (.slice A B.w.length c) ∧ MBox W w.heap.size (nudeM m) ∧ El ElemM W w3.heap.size A B.w) := Lib.hid (fun W hb => by
          have h2 := HD3.out.later hb
          have h3 := cell_of_row W r 1 _ _ _ h2.box
          rw [HV.out] at h3
          exact ⟨by simpa using h3, HM3.out.later hb, HE.out.below hb⟩)
        go_wp2_with fail
        go_loopw [6, 7] (fun u i wr => ∃ (j : Nat) (A' : Option Addr) (c' : Nat) (d : List MsgV), j ≤ B.w.length ∧ i = .int .i64 j ∧ u = .slice A' d.length c' ∧ d.length ≤ j ∧ d.length ≤ c' ∧ Hid (d = (B.w.take j).filter fun y => y.addr != m.addr) ∧ Hid (RowE ElemM w3 wr (.slice A' d.length c') d)) (fun _ i _ => B.w.length - (intOf i).toNat)
        case atStart => exact ⟨0, none, 0, [], Nat.zero_le _, rfl, rfl, Nat.le_refl _, Nat.le_refl _, Lib.hid rfl, Lib.hid (RowE.nil w3)⟩
        case round =>
          obtain ⟨j, A', c', d, hj, rfl, rfl, hdj, hdc, HDD, HROW⟩ := hrel
          obtain ⟨c1, hmb, hel⟩ := HK.out wr HROW.out.low
          obtain ⟨b0, b1, b2, b3, b4, b5, b6, b7, b8, b9, b10⟩ := hmb.all
          by_cases hlt : j < B.w.length
          · obtain ⟨y, hy⟩ : ∃ y, B.w[j]? = some y := ⟨_, List.getElem?_eq_getElem hlt⟩
            obtain ⟨b, o, rfl, hb, x0, x1, x2, x3, x4, x5, x6, x7, x8, x9, x10⟩ := hel.at11 j y hy
            have HS : Hid (((B.w.take (j + 1)).filter fun y => y.addr != m.addr) = ((B.w.take j).filter fun y => y.addr != m.addr) ++ if (y.addr != m.addr) = true then [y] else []) := Lib.hid (by
              rw [take_snoc_of B.w j y hy, List.filter_append, List.filter_cons, List.filter_nil])
            have HY := Lib.hid hy
            clear hel hmb hy
            by_cases he : y.addr = m.addr
            · have hq2 : ((y.addr : Int) != ((nudeM m).addr : Int)) = false := by show ((y.addr : Int) != (m.addr : Int)) = false; simp [he]
              have hq3 : (y.addr != m.addr) = false := by simp [he]
              rw [hq3, if_neg (by decide), List.append_nil] at HS
              clear he hq3
              go_wp2
              go_quiet (fail)
              go_wp2
              go_roundw
              case rel => exact ⟨j + 1, A', c', d, by omega, by go_num, rfl, by omega, hdc, Lib.hid (by rw [HS.out]; exact HDD.out), Lib.hid (HROW.out.later ⟨rfl, rfl, rfl, Nat.le_refl _, fun _ _ => rfl⟩)⟩
              case measure => simp [intOf]; omega
            · have hq2 : ((y.addr : Int) != ((nudeM m).addr : Int)) = true := by show ((y.addr : Int) != (m.addr : Int)) = true; simp; omega
              have hq3 : (y.addr != m.addr) = true := by simpa using he
              rw [hq3, if_pos rfl] at HS
              clear he hq3
              go_wp2
              go_quiet (fail)
              obtain ⟨w4, hw4⟩ : ∃ w4, w4 = wr.drewN nq := ⟨_, rfl⟩
              rw [← hw4]
              have HROW4 : Hid (RowE ElemM w3 w4 (.slice A' d.length c') d) := Lib.hid (by rw [hw4]; exact HROW.out.later ⟨rfl, rfl, rfl, Nat.le_refl _, fun _ _ => rfl⟩)
              clear x0 x1 x2 x3 x4 x5 x6 x7 x8 x9 x10 c1 b0 b1 b2 b3 b4 b5 b6 b7 b8 b9 b10 hw4
              obtain ⟨c1, -, hel⟩ := HK.out w4 HROW4.out.low
              obtain ⟨b', o', e8, -, x0, x1, x2, x3, x4, x5, x6, x7, x8, x9, x10⟩ := hel.at11 j y HY.out
              injection e8 with e8
              injection e8 with e81 e82
              subst e81 e82
              have HEL : Hid (El ElemM (w4.alloc (.cells y.cells 31)) (w4.heap.size + 1) (some ⟨w4.heap.size, 0, none⟩) [y]) := Lib.hid (El.lit (E := ElemM) w4 [y] _ _ (by simp [ecells, ElemM]))
              have hz : d.length + [y].length ≤ 100000000000 := by simp; omega
              clear hel
              go_wp2_with (first
                | (at_builtin; refine wpList_rowE (E := ElemM) rfl (.tmp 47) (.tmp 55) rfl rfl (HROW4.out.alloc _) [y] rfl rfl HEL.out hz ?_; intro A5 k5 w5 l5 HL5 hR5 hk5 _ _))
              have HFIN : Hid (l5 = (B.w.take (j + 1)).filter fun y => y.addr != m.addr) := Lib.hid (by rw [HL5.out, HS.out, ← HDD.out])
              have hlen5 : l5.length ≤ j + 1 := by rw [HFIN.out]; exact Nat.le_trans (List.length_filter_le _ _) (by rw [List.length_take]; omega)
              go_roundw
              case rel => exact ⟨j + 1, A5, k5, l5, by omega, by go_num, by go_num, hlen5, hk5, HFIN, Lib.hid hR5⟩
              case measure => simp [intOf]; omega
          · obtain rfl : j = B.w.length := by omega
            have HDE : Hid (d = B.w.filter fun y => y.addr != m.addr) := Lib.hid (by rw [HDD.out, List.take_of_length_le (Nat.le_refl _)])
            have HEL : Hid (El ElemM (wr.alloc (.cells (nudeM m).cells 31)) (wr.heap.size + 1) (some ⟨wr.heap.size, 0, none⟩) [nudeM m]) := Lib.hid (El.lit (E := ElemM) wr [nudeM m] _ _ (by simp [ecells, ElemM]))
            have hz : d.length + [nudeM m].length ≤ 100000000000 := by simp; omega
            have hr3 : r + 1 ≤ w3.heap.size := HD3.out.rlt
            have HMID := Lib.hid (waits_mid HOK.out HU.out HAD.out)
            have hgr : w.heap.size ≠ r := by have := HD.out.rlt; omega
            clear hel hmb
            go_wp2_with (first
              | (at_builtin; refine wpList_rowE (E := ElemM) rfl (.tmp 58) (.tmp 60) rfl rfl (HROW.out.alloc _) [nudeM m] rfl rfl HEL.out hz ?_; intro A5 k5 w5 l5 HL5 hR5 hk5 _ _; have HR5 := Lib.hid hR5; have f5 := (HD3.out.later hR5.low).free 1; obtain ⟨p5, hm5, -⟩ := HK.out w5 hR5.low; obtain ⟨e0, e1, e2, e3, e4, e5, e6, e7, e8, e9, e10⟩ := hm5.all))
            have hd5 := (HD3.out.later HR5.out.low).setW HR5.out.own hr3
            have hl5 : (⟨B.l, l5, B.xid⟩ : BxV) = B.waits m := by unfold BxV.waits; rw [HL5.out, HDE.out]
            have hd5' : DAtB (w5.setCell ⟨r, 1, none⟩ (.slice A5 l5.length k5)) r vL (.slice A5 l5.length k5) (B.waits m) := by rw [← hl5]; exact hd5
            have HY5 := Lib.hid ((Way.of_below (Q := DQ r vL vW) HB3.out).newW HR5.out.low HR5.out.own (Nat.le_refl _))
            have HGO := Lib.hid (rgoes_any m.addr hd5' HMID.out)
            clear hd5 hl5 hd5'
            refine HGO.out.mono ?_
            rintro e w6 ⟨rfl, vL3, vW3, hd6, hy6⟩
            go_wp2
            go_ret
            rw [HP.out]
            exact ⟨rfl, vL3, vW3, hd6, HY5.out.trans hy6⟩
    · have hq : ((oneM m).kind != 2) = true := by show (m.kind != 2) = true; simpa using hk
      have HP := HPUTN (fun hu => hk hu.1)
      clear HPUTN hk
      go_wp2
      go_ret
      rw [HP.out]
      exact ⟨rfl, vL, vW, HD2.out, Way.of_below HB2.out⟩
end Go.Proofs.Ytekladmddfibaaa
