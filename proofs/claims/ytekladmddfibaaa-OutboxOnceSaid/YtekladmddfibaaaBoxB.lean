/- The document's box: goes. -/
import Derived.Test.YtekladmddfibaaaBoxA
import Derived.Deep.RegionHeld3
import Derived.Deep.RegionLaw
import Derived.Deep.DeepCutAuto
namespace Go.Proofs.Ytekladmddfibaaa
open Go.RowKit Go.Sort

section
variable {w w' : World} {r : Nat} {vL vW v' : Value} {B : BxV}
/-- One of its cells is stored. -/
theorem DAtB.setX (h : DAtB w r vL vW B) (x : Int) : DAtB (w.setCell ⟨r, 2, none⟩ (.int .i64 x)) r vL vW ⟨B.l, B.w, x⟩ :=
  ⟨heap_setCell_same w r 2 _ _ _ h.box, own_keep h.rl fun b hb => Below.heap_setCell w ⟨r, 2, none⟩ _ b (fun e => own_other h.rl h.box (by decide) (by rw [hb, e])), own_keep h.rw_ fun b hb => Below.heap_setCell w ⟨r, 2, none⟩ _ b (fun e => own_other h.rw_ h.box (by decide) (by rw [hb, e]))⟩
theorem DAtB.setL (h : DAtB w r vL vW B) {base : Nat} {l' : List OutV} (ho : w.ownsRow base ElemO.e ElemO.m v' l'.length (ecells ElemO l')) (hb : r + 1 ≤ base) : DAtB (w.setCell ⟨r, 0, none⟩ v') r v' vW ⟨l', B.w, B.xid⟩ := by
  have ho' := own_less ho hb
  exact ⟨heap_setCell_same w r 0 _ _ _ h.box, own_keep ho' fun b hb => Below.heap_setCell w ⟨r, 0, none⟩ _ b (fun e => own_other ho' h.box (by decide) (by rw [hb, e])), own_keep h.rw_ fun b hb => Below.heap_setCell w ⟨r, 0, none⟩ _ b (fun e => own_other h.rw_ h.box (by decide) (by rw [hb, e]))⟩
theorem DAtB.setW (h : DAtB w r vL vW B) {base : Nat} {l' : List MsgV} (ho : w.ownsRow base ElemM.e ElemM.m v' l'.length (ecells ElemM l')) (hb : r + 1 ≤ base) : DAtB (w.setCell ⟨r, 1, none⟩ v') r vL v' ⟨B.l, l', B.xid⟩ := by
  have ho' := own_less ho hb
  exact ⟨heap_setCell_same w r 1 _ _ _ h.box, own_keep h.rl fun b hb => Below.heap_setCell w ⟨r, 1, none⟩ _ b (fun e => own_other h.rl h.box (by decide) (by rw [hb, e])), own_keep ho' fun b hb => Below.heap_setCell w ⟨r, 1, none⟩ _ b (fun e => own_other ho' h.box (by decide) (by rw [hb, e]))⟩
/-- A row that was made since then is put into its place. -/
theorem Way.newW {w0 w1 w2 : World} {Q : Nat → Prop} {r base m n : Nat} {e : TypeId} {vL vW v' : Value} {xs : List Value} (hw : Way Q w0 (DQ r vL vW) w1) (hb : Below w1.heap.size w1 w2) (ho : w2.ownsRow base e m v' n xs) (hbase : w1.heap.size ≤ base) :
    Way Q w0 (DQ r vL v') (w2.setCell ⟨r, 1, none⟩ v') := by
  refine hw.trans ⟨((Way.of_below (Q := DQ r vL vW) hb).trans (way_set w2 r 1 v' (.inl rfl))).oth, ?_⟩
  rintro b (h | h | h)
  · exact .inl (.inl h)
  · exact .inl (.inr (.inl h))
  · exact .inr (Nat.le_trans hbase (ho.lt b h).1)
theorem Way.newL {w0 w1 w2 : World} {Q : Nat → Prop} {r base m n : Nat} {e : TypeId} {vL vW v' : Value} {xs : List Value} (hw : Way Q w0 (DQ r vL vW) w1) (hb : Below w1.heap.size w1 w2) (ho : w2.ownsRow base e m v' n xs) (hbase : w1.heap.size ≤ base) :
    Way Q w0 (DQ r v' vW) (w2.setCell ⟨r, 0, none⟩ v') := by
  refine hw.trans ⟨((Way.of_below (Q := DQ r vL vW) hb).trans (way_set w2 r 0 v' (.inl rfl))).oth, ?_⟩
  rintro b (h | h | h)
  · exact .inl (.inl h)
  · exact .inr (Nat.le_trans hbase (ho.lt b h).1)
  · exact .inl (.inr (.inr h))
/-- The number is put up, and put into the message. -/
theorem goes_mid {w wc : World} {r g : Nat} {vL vW vW2 : Value} {B : BxV} {x : MsgV} (n : Int) (hd2 : DAtB wc r vL vW2 B) (hg2 : MBox wc g x) (hne2 : vW2.ownBlock ≠ some g) (hw2 : Way (DQ r vL vW) w (DQ r vL vW2) wc) (hlt : w.heap.size ≤ g) (hr : r < w.heap.size) :
    ∃ w8, w8 = (wc.setCell ⟨r, 2, none⟩ (.int .i64 n)).setCell ⟨g, 3, none⟩ (.int .i64 n) ∧ DAtB w8 r vL vW2 ⟨B.l, B.w, n⟩ ∧ MBox w8 g { x with xid := n } ∧ Way (DQ r vL vW) w (DQ r vL vW2) w8 := by
  have hgr : g ≠ r := by omega
  have hz : (wc.setCell ⟨r, 2, none⟩ (.int .i64 n)).heap.size ≤ ((wc.setCell ⟨r, 2, none⟩ (.int .i64 n)).setCell ⟨g, 3, none⟩ (.int .i64 n)).heap.size := Nat.le_of_eq (by simp only [World.size_setCell])
  have hwr := hw2.trans (way_set wc r 2 (.int .i64 n) (.inl rfl))
  refine ⟨_, rfl, (hd2.setX n).keep ⟨rfl, rfl, rfl, hz, fun b hb => Below.heap_setCell _ ⟨g, 3, none⟩ _ b (fun e => ?_)⟩, (hg2.other hgr _).store 3 _ rfl, ⟨⟨hwr.oth.os, hwr.oth.tape, hwr.oth.output, Nat.le_trans hwr.oth.size hz, fun k hk hq => (Below.heap_setCell _ ⟨g, 3, none⟩ _ k (fun e => ?_)).trans (hwr.oth.block k hk hq)⟩, hwr.new⟩⟩
  · have e : b = g := e
    subst e
    rcases hb with h | h | h
    · exact hgr h
    · exact own_other hd2.rl hg2 (by decide) h
    · exact hne2 h
  · have e : k = g := e
    omega
end

set_option maxRecDepth 100000 in
set_option maxHeartbeats 4000000 in
theorem rgoes_any {w : World} {r : Nat} {vL vW : Value} {B : BxV} (a : Nat) (h : DAtB w r vL vW B) (hm : B.Mid a) :
    Calls Try.prog 39 #[.pointer (some ⟨r, 0, none⟩), .int .u32 (a : Int)] w fun e w' => e = .returned (.tuple #[]) ∧ ∃ vL' vW', DAtB w' r vL' vW' (B.goes a) ∧ Way (DQ r vL vW) w (DQ r vL' vW') w' := by
  obtain ⟨A, c, hvW, c1, hlc, HE⟩ := h.readW
  have HE := Lib.hid HE
  have hlenL := hm.len
  have hlen := hm.lenW
  have hx1 := hm.x1
  have hx0 := hm.x0
  have HM := Lib.hid hm
  have HO := Lib.hid (rout_any a h hm.len)
  have HD := Lib.hid h
  have HV := Lib.hid hvW
  have c2 := h.xid
  obtain ⟨X, hX⟩ : ∃ X, X = B.xid := ⟨_, rfl⟩
  rw [← hX] at c2 hx0 hx1
  have HX := Lib.hid hX
  clear h hm hvW hX
  obtain ⟨bo, hbo⟩ : ∃ bo, bo = B.out a := ⟨_, rfl⟩
  rw [← hbo] at HO
  have HB := Lib.hid hbo
  clear hbo
  go_enter Try.func39, Try.ntmps39
  go_wp2_with fail
  refine HO.out.mono ?_
  rintro e w' ⟨rfl, rfl⟩
  go_wp2
  go_loop [5] (fun i => ∃ j : Nat, j ≤ B.w.length ∧ i = .int .i64 j ∧ Hid (∀ x ∈ B.w.take j, ¬ (x.addr = a ∧ B.out a = false ∧ B.xid < 1073741824))) (fun i => B.w.length - (intOf i).toNat)
  case atStart => exact ⟨0, Nat.zero_le _, rfl, Lib.hid (by simp)⟩
  case round =>
    obtain ⟨j, hj, rfl, HN⟩ := hrel
    by_cases hlt : j < B.w.length
    · obtain ⟨x, hx⟩ : ∃ x, B.w[j]? = some x := ⟨_, List.getElem?_eq_getElem hlt⟩
      obtain ⟨b, o, rfl, hb, x0, x1, x2, x3, x4, x5, x6, x7, x8, x9, x10⟩ := HE.out.at11 j x hx
      have HX1 := Lib.hid hx
      clear hx
      have HSN : ¬ (x.addr = a ∧ B.out a = false ∧ B.xid < 1073741824) → Hid (∀ y ∈ B.w.take (j + 1), ¬ (y.addr = a ∧ B.out a = false ∧ B.xid < 1073741824)) := fun hno => Lib.hid (by
        intro y hy
        rw [take_snoc_of B.w j x HX1.out, List.mem_append, List.mem_singleton] at hy
        rcases hy with hy | rfl
        · exact HN.out y hy
        · exact hno)
      by_cases he : x.addr = a
      · have hq : ((x.addr : Int) != (a : Int)) = false := by simp [he]
        cases bo
        · by_cases hfull : 1073741824 ≤ X
          · have hg : decide (1073741824 ≤ X) = true := by simpa using hfull
            have HN2 := HSN (fun c => by have := HX.out; omega)
            clear he HSN
            go_wp2
            go_round
            case rel => exact ⟨j + 1, by omega, by go_num, HN2⟩
            case measure => simp [intOf]; omega
          · have hg : decide (1073741824 ≤ X) = false := by simpa using hfull
            clear HSN
            subst he
            have HNF := Lib.hid (show B.out x.addr = false ∧ B.xid < 1073741824 from ⟨HB.out.symm, by have := HX.out; omega⟩)
            obtain ⟨w1, hw1⟩ : ∃ w1, w1 = w.alloc (mbox x) := ⟨_, rfl⟩
            have hB1 : Below w.heap.size w w1 := by rw [hw1]; exact (Below.refl _ _).alloc (Nat.le_refl _) _
            have HG : Hid (MBox w1 w.heap.size x) := Lib.hid (by rw [hw1]; exact MBox.new w x)
            have HD1 := Lib.hid (HD.out.later hB1)
            have HE1 := Lib.hid (HE.out.below hB1)
            have HS : Hid (∀ W, Below w1.heap.size w1 W → W.cell? ⟨r, 1, none⟩ = some (.slice (some ⟨b, o, none⟩) B.w.length c) ∧ W.frozen? ⟨r, 1, none⟩ = false) := Lib.hid (fun W hb => by
              have h2 := HD1.out.later hb
              have h3 := cell_of_row W r 1 _ _ _ h2.box
              rw [HV.out] at h3
              exact ⟨by simpa using h3, h2.free 1⟩)
            obtain ⟨c1', f1'⟩ := HS.out w1 (Below.refl _ _)
            have hh1 : ∀ W, (Instr.slice 37 (.slice (some ⟨b, o, none⟩) B.w.length c) none (some (.int .i64 (j : Int))) none).run Try.prog W = .ok (.slice (some ⟨b, o, none⟩) j c) W := fun W => by
              have := run_headE ElemM (some ⟨b, o, none⟩) B.w.length c (j : Int) (by omega) (by omega) W
              rwa [Int.toNat_natCast] at this
            obtain ⟨A3, hA3⟩ : ∃ A3, A3 = (if c = j + 1 then (some ⟨b, o, none⟩) else (some ⟨b, o, none⟩ : Option Addr).map (·.add ((j + 1) * ElemM.m))) := ⟨_, rfl⟩
            have hh2 : ∀ W, (Instr.slice 37 (.slice (some ⟨b, o, none⟩) B.w.length c) (some (.int .i64 ((j : Int) + 1))) none none).run Try.prog W = .ok (.slice A3 (B.w.length - (j + 1)) (c - (j + 1))) W := fun W => by
              have := run_tailE ElemM (some ⟨b, o, none⟩) B.w.length c ((j : Int) + 1) (by omega) (by omega) W
              rw [show ((j : Int) + 1).toNat = j + 1 by omega, ← hA3] at this
              exact this
            have HT1 := Lib.hid (HE1.out.take j)
            have HT2 : Hid (El ElemM w1 w.heap.size A3 (B.w.drop (j + 1))) := Lib.hid (by rw [hA3]; exact HE1.out.cut (by omega) hlc)
            have HDr := Lib.hid (show (B.w.take j).length = j by rw [List.length_take]; omega)
            have HDd := Lib.hid (show (B.w.drop (j + 1)).length = B.w.length - (j + 1) from List.length_drop)
            have HLIT : Hid (RowE ElemM w1 (w1.alloc (.cells #[] 31)).drew (.slice (some ⟨w1.heap.size, 0, none⟩) 0 0) []) := Lib.hid ((RowE.lit (E := ElemM) (Below.refl _ w1) [] (by simp) #[] rfl).drew)
            have hLA : Below w1.heap.size w1 (w1.alloc (.cells #[] 31)).drew := HLIT.out.low
            have hz1 : ([] : List MsgV).length + (B.w.take j).length ≤ 100000000000 := by rw [HDr.out]; simp; omega
            have hBw : w.heap.size ≤ w1.heap.size := hB1.size
            have HB1 := Lib.hid hB1
            have HW1 := Lib.hid hw1
            have HT1b := Lib.hid ((HT1.out.more hBw).below hLA)
            have hwr : IntKind.i64.wrap ((j : Int) + 1) = (j : Int) + 1 := IntWalk.i64_in _ (by omega)
            clear hA3 hB1 hw1
            go_upto_region 6 with fail
            rw [← HW1.out]
            have c1a := (HS.out _ (Below.refl _ _).drew).1
            have c1b := (HS.out _ hLA).1
            have hrg : r < w.heap.size := HD.out.rlt
            have HWAY := Lib.hid (Way.of_below (Q := DQ r vL vW) HB1.out)
            go_cut [62] (fun _ wx => ∃ vW2, DAtB wx r vL vW2 ⟨B.l, B.w.take j ++ B.w.drop (j + 1), B.xid⟩ ∧ MBox wx w.heap.size x ∧ vW2.ownBlock ≠ some w.heap.size ∧ Way (DQ r vL vW) w (DQ r vL vW2) wx)
            case first =>
              go_region_law
                (first
                  | (refine step_rowE (E := ElemM) rfl (.tmp 47) (.tmp 53) rfl rfl HLIT.out (B.w.take j) HDr.out rfl HT1b.out hz1 ?_; intro A4 k4 w4 l4 HL4 hR4 hk4 _ _; have HR4 := Lib.hid hR4; have hBa : Below w1.heap.size w1 w4 := hR4.low; have c4 := (HS.out _ hBa).1; have HT4 := Lib.hid ((HT2.out.more hBw).below hBa); have hz2 : l4.length + (B.w.drop (j + 1)).length ≤ 100000000000 := (by rw [HL4.out, HDd.out, List.nil_append, HDr.out]; omega))
                  | (refine step_rowE (E := ElemM) rfl (.tmp 54) (.tmp 61) rfl rfl HR4.out (B.w.drop (j + 1)) HDd.out rfl HT4.out hz2 ?_; intro A5 k5 w5 l5 HL5 hR5 hk5 _ _; have HR5 := Lib.hid hR5; have hBb : Below w1.heap.size w1 w5 := hR5.low; have f5 := (HS.out _ hBb).2; have c5 := (HS.out _ hBb).1))
              all_goals
                go_wp2
                go_meet
                have hl5 : l5 = B.w.take j ++ B.w.drop (j + 1) := by rw [HL5.out, HL4.out, List.nil_append]
                refine ⟨_, ?_, (HG.out.later hBb).other (by show w.heap.size ≠ r; omega) _, (fun e => by have h1 := (HR5.out.own.lt _ e).1; have h2 := HG.out.lt; omega), HWAY.out.newW hBb HR5.out.own (Nat.le_refl _)⟩
                rw [← hl5]
                exact (HD1.out.later hBb).setW HR5.out.own (by omega)
            case rest =>
              obtain ⟨vW2, hd2, hg2, hne2, hw2⟩ := hcut
              rename_i wc
              have c2c := hd2.xid
              rw [← HX.out] at c2c
              have f2c := hd2.free 2
              have f3c := hg2.free 3
              obtain ⟨g0, g1, g2, g3, g4, g5, g6, g7, g8, g9, g10⟩ := hg2.all
              have hwx : IntKind.i64.wrap (X + 1) = X + 1 := IntWalk.i64_in _ (by omega)
              obtain ⟨w8, hw8, hd8, hg8, hw8w⟩ := goes_mid (X + 1) hd2 hg2 hne2 hw2 (Nat.le_refl _) hrg
              obtain ⟨A0, k0, hvL, c0, hk0, hE0⟩ := hd8.readL
              have HVL := Lib.hid hvL
              clear hvL
              obtain ⟨oe, hoe⟩ : ∃ oe : Obj, oe = .cells #[] 92 := ⟨_, rfl⟩
              obtain ⟨ol, hol⟩ : ∃ ol : Obj, ol = .cells #[.int .i64 x.kind, .int .i64 x.life, .int .i64 x.seen, .int .i64 (X + 1), .int .i64 x.state, .int .u32 (x.addr : Int), .int .i64 x.bind, .string x.client, .int .i64 x.pot, .int .i64 x.at_, .bool x.ok, .int .i64 (-1)] 92 := ⟨_, rfl⟩
              have f0 := hd8.free 0
              have HD8 := Lib.hid hd8
              have HG8 := Lib.hid hg8
              have HW8W := Lib.hid hw8w
              have HE0 := Lib.hid hE0
              have HW8 := Lib.hid hw8
              have HS8 : Hid (∀ W, Below w8.heap.size w8 W → W.cell? ⟨r, 0, none⟩ = some (.slice A0 B.l.length k0) ∧ W.frozen? ⟨r, 0, none⟩ = false ∧ MBox W w.heap.size { x with xid := X + 1 }) := Lib.hid (fun W hb => by
                have h2 := HD8.out.later hb
                have h3 := cell_of_row W r 0 _ _ _ h2.box
                rw [HVL.out] at h3
                exact ⟨by simpa using h3, h2.free 0, HG8.out.later hb⟩)
              have hoeA : Below w8.heap.size w8 (w8.alloc (.cells #[] 92)).drew := ((Below.refl _ _).alloc (Nat.le_refl _) _).drew
              obtain ⟨p0, -, hb0⟩ := HS8.out _ (Below.refl _ w8).drew
              obtain ⟨p1, -, hb1⟩ := HS8.out _ hoeA
              clear hd8 hg8 hw8w hE0 hw8 hd2 hg2 hne2 hw2 hoe hol oe ol
              obtain ⟨m0, m1, m2, m3, m4, m5, m6, m7, m8, m9, m10⟩ := hb0.all
              obtain ⟨n0, n1, n2, n3, n4, n5, n6, n7, n8, n9, n10⟩ := hb1.all
              obtain ⟨q0, q1, q2, q3, q4, q5, q6, q7, q8, q9, q10⟩ := HG8.out.all
              have HLa : Hid (∀ W : World, El ElemO (W.alloc (.cells #[.int .i64 x.kind, .int .i64 x.life, .int .i64 x.seen, .int .i64 (X + 1), .int .i64 x.state, .int .u32 (x.addr : Int), .int .i64 x.bind, .string x.client, .int .i64 x.pot, .int .i64 x.at_, .bool x.ok, .int .i64 (-1)] 92)) (W.heap.size + 1) (some ⟨W.heap.size, 0, none⟩) [outO x (X + 1)]) := Lib.hid (fun W => El.lit (E := ElemO) W [outO x (X + 1)] _ _ rfl)
              have HRa : Hid (RowE ElemO w8 (w8.alloc (.cells #[] 92)).drew (.slice (some ⟨w8.heap.size, 0, none⟩) 0 0) []) := Lib.hid ((RowE.lit (E := ElemO) (Below.refl _ w8) [] (by simp) #[] rfl).drew)
              have HRc : Hid (RowE ElemO w8 ((w8.alloc (.cells #[] 92)).alloc (.cells #[.int .i64 x.kind, .int .i64 x.life, .int .i64 x.seen, .int .i64 (X + 1), .int .i64 x.state, .int .u32 (x.addr : Int), .int .i64 x.bind, .string x.client, .int .i64 x.pot, .int .i64 x.at_, .bool x.ok, .int .i64 (-1)] 92)).drew (.slice (some ⟨w8.heap.size, 0, none⟩) 0 0) []) := Lib.hid (((RowE.lit (E := ElemO) (Below.refl _ w8) [] (by simp) #[] rfl).alloc _).drew)
              have HRb : Hid (RowE ElemO w8 ((w8.alloc (.cells #[.int .i64 x.kind, .int .i64 x.life, .int .i64 x.seen, .int .i64 (X + 1), .int .i64 x.state, .int .u32 (x.addr : Int), .int .i64 x.bind, .string x.client, .int .i64 x.pot, .int .i64 x.at_, .bool x.ok, .int .i64 (-1)] 92)).alloc (.cells #[] 92)).drew (.slice (some ⟨w8.heap.size + 1, 0, none⟩) 0 0) []) := Lib.hid (by
                have h := (RowE.lit (E := ElemO) (w0 := w8) ((Below.refl _ w8).alloc (Nat.le_refl _) (.cells #[.int .i64 x.kind, .int .i64 x.life, .int .i64 x.seen, .int .i64 (X + 1), .int .i64 x.state, .int .u32 (x.addr : Int), .int .i64 x.bind, .string x.client, .int .i64 x.pot, .int .i64 x.at_, .bool x.ok, .int .i64 (-1)] 92)) [] (by simp) #[] rfl).drew
                rw [show (w8.alloc (.cells #[.int .i64 x.kind, .int .i64 x.life, .int .i64 x.seen, .int .i64 (X + 1), .int .i64 x.state, .int .u32 (x.addr : Int), .int .i64 x.bind, .string x.client, .int .i64 x.pot, .int .i64 x.at_, .bool x.ok, .int .i64 (-1)] 92)).heap.size = w8.heap.size + 1 from Array.size_push _] at h
                exact h)
              have HLb : Hid (El ElemO ((w8.alloc (.cells #[.int .i64 x.kind, .int .i64 x.life, .int .i64 x.seen, .int .i64 (X + 1), .int .i64 x.state, .int .u32 (x.addr : Int), .int .i64 x.bind, .string x.client, .int .i64 x.pot, .int .i64 x.at_, .bool x.ok, .int .i64 (-1)] 92)).alloc (.cells #[] 92)).drew (w8.heap.size + 1) (some ⟨w8.heap.size, 0, none⟩) [outO x (X + 1)]) := Lib.hid (((HLa.out w8).below ((Below.refl _ _).alloc (by rw [show (w8.alloc (.cells #[.int .i64 x.kind, .int .i64 x.life, .int .i64 x.seen, .int .i64 (X + 1), .int .i64 x.state, .int .u32 (x.addr : Int), .int .i64 x.bind, .string x.client, .int .i64 x.pot, .int .i64 x.at_, .bool x.ok, .int .i64 (-1)] 92)).heap.size = w8.heap.size + 1 from Array.size_push _]; exact Nat.le_refl _) _)).drew)
              have HLc : Hid (El ElemO ((w8.alloc (.cells #[] 92)).alloc (.cells #[.int .i64 x.kind, .int .i64 x.life, .int .i64 x.seen, .int .i64 (X + 1), .int .i64 x.state, .int .u32 (x.addr : Int), .int .i64 x.bind, .string x.client, .int .i64 x.pot, .int .i64 x.at_, .bool x.ok, .int .i64 (-1)] 92)).drew (w8.heap.size + 1 + 1) (some ⟨w8.heap.size + 1, 0, none⟩) [outO x (X + 1)]) := Lib.hid (by
                have h := (HLa.out (w8.alloc (.cells #[] 92))).drew
                rw [show (w8.alloc (.cells #[] 92)).heap.size = w8.heap.size + 1 from Array.size_push _] at h
                exact h)
              have hsb : w8.heap.size < ((w8.alloc (.cells #[.int .i64 x.kind, .int .i64 x.life, .int .i64 x.seen, .int .i64 (X + 1), .int .i64 x.state, .int .u32 (x.addr : Int), .int .i64 x.bind, .string x.client, .int .i64 x.pot, .int .i64 x.at_, .bool x.ok, .int .i64 (-1)] 92)).alloc (.cells #[] 92)).drew.heap.size := by show _ < Array.size (Array.push _ _); rw [Array.size_push, show (w8.alloc (.cells #[.int .i64 x.kind, .int .i64 x.life, .int .i64 x.seen, .int .i64 (X + 1), .int .i64 x.state, .int .u32 (x.addr : Int), .int .i64 x.bind, .string x.client, .int .i64 x.pot, .int .i64 x.at_, .bool x.ok, .int .i64 (-1)] 92)).heap.size = w8.heap.size + 1 from Array.size_push _]; omega
              have hsc : w8.heap.size + 1 < ((w8.alloc (.cells #[] 92)).alloc (.cells #[.int .i64 x.kind, .int .i64 x.life, .int .i64 x.seen, .int .i64 (X + 1), .int .i64 x.state, .int .u32 (x.addr : Int), .int .i64 x.bind, .string x.client, .int .i64 x.pot, .int .i64 x.at_, .bool x.ok, .int .i64 (-1)] 92)).drew.heap.size := by show _ < Array.size (Array.push _ _); rw [Array.size_push, show (w8.alloc (.cells #[] 92)).heap.size = w8.heap.size + 1 from Array.size_push _]; omega
              obtain ⟨p2, -, -⟩ := HS8.out _ HRb.out.low
              obtain ⟨p3, -, -⟩ := HS8.out _ HRc.out.low
              obtain ⟨p6, -, -⟩ := HS8.out _ ((Below.refl _ w8).alloc (Nat.le_refl _) (.cells #[.int .i64 x.kind, .int .i64 x.life, .int .i64 x.seen, .int .i64 (X + 1), .int .i64 x.state, .int .u32 (x.addr : Int), .int .i64 x.bind, .string x.client, .int .i64 x.pot, .int .i64 x.at_, .bool x.ok, .int .i64 (-1)] 92)).drew
              have hneb : (Value.slice (some ⟨w8.heap.size + 1, 0, none⟩) 0 0).ownBlock ≠ some w8.heap.size := by simp [Value.ownBlock]
              have hnec : (Value.slice (some ⟨w8.heap.size, 0, none⟩) 0 0).ownBlock ≠ some (w8.heap.size + 1) := by simp [Value.ownBlock]
              have hz1 : ([] : List OutV).length + B.l.length ≤ 100000000000 := by simp; omega
              have HFIN := Lib.hid (goes_at HNF.out.1 HNF.out.2 (show B.w = B.w.take j ++ x :: B.w.drop (j + 1) by
                obtain ⟨h1, h2⟩ := List.getElem?_eq_some_iff.1 HX1.out
                rw [← h2, ← List.drop_eq_getElem_cons h1, List.take_append_drop]) (fun y hy e => HN.out y hy ⟨e, HNF.out⟩))
              go_upto_region 9 with fail
              rw [← HW8.out]
              go_region_law
                (first
                  | (refine step_rowE (E := ElemO) rfl (.tmp 78) (.tmp 82) rfl rfl HRa.out B.l rfl rfl (HE0.out.below HRa.out.low) hz1 ?_; intro A4 k4 w4 l4 HL4 hR4 hk4 _ hg4; have HR4 := Lib.hid hR4; obtain ⟨p4, f4, hb4⟩ := HS8.out _ hR4.low; obtain ⟨r0, r1, r2, r3, r4, r5, r6, r7, r8, r9, r10⟩ := hb4.all; have hz2 : l4.length + [outO x (X + 1)].length ≤ 100000000000 := (by rw [HL4.out]; simp; omega))
                  | (refine step_rowE (E := ElemO) rfl (.tmp 78) (.tmp 82) rfl rfl HRb.out B.l rfl rfl (HE0.out.below HRb.out.low) hz1 ?_; intro A4 k4 w4 l4 HL4 hR4 hk4 _ hg4; have HR4 := Lib.hid hR4; obtain ⟨p4, f4, hb4⟩ := HS8.out _ hR4.low; obtain ⟨r0, r1, r2, r3, r4, r5, r6, r7, r8, r9, r10⟩ := hb4.all; have hz2 : l4.length + [outO x (X + 1)].length ≤ 100000000000 := (by rw [HL4.out]; simp; omega); have HLx := Lib.hid (HLb.out.keptG (row := (Value.slice (some ⟨w8.heap.size + 1, 0, none⟩) 0 0).ownBlock) hsb hg4 hneb))
                  | (refine step_rowE (E := ElemO) rfl (.tmp 78) (.tmp 82) rfl rfl HRc.out B.l rfl rfl (HE0.out.below HRc.out.low) hz1 ?_; intro A4 k4 w4 l4 HL4 hR4 hk4 _ hg4; have HR4 := Lib.hid hR4; obtain ⟨p4, f4, hb4⟩ := HS8.out _ hR4.low; obtain ⟨r0, r1, r2, r3, r4, r5, r6, r7, r8, r9, r10⟩ := hb4.all; have hz2 : l4.length + [outO x (X + 1)].length ≤ 100000000000 := (by rw [HL4.out]; simp; omega); have HLx := Lib.hid (HLc.out.keptG (row := (Value.slice (some ⟨w8.heap.size, 0, none⟩) 0 0).ownBlock) hsc hg4 hnec))
                  | (refine step_rowE (E := ElemO) rfl (.tmp 83) (.tmp 86) rfl rfl (HR4.out.alloc _) [outO x (X + 1)] rfl rfl (HLa.out w4) hz2 ?_; intro A5 k5 w5 l5 HL5 hR5 hk5 _ _; have HR5 := Lib.hid hR5; obtain ⟨p5, f5, hb5⟩ := HS8.out _ hR5.low; obtain ⟨s0, s1, s2, s3, s4, s5, s6, s7, s8, s9, s10⟩ := hb5.all)
                  | (refine step_rowE (E := ElemO) rfl (.tmp 83) (.tmp 86) rfl rfl HR4.out [outO x (X + 1)] rfl rfl HLx.out hz2 ?_; intro A5 k5 w5 l5 HL5 hR5 hk5 _ _; have HR5 := Lib.hid hR5; obtain ⟨p5, f5, hb5⟩ := HS8.out _ hR5.low; obtain ⟨s0, s1, s2, s3, s4, s5, s6, s7, s8, s9, s10⟩ := hb5.all))
              all_goals
                go_wp2
                first | go_end0 | (simp only [Exit.inBlock, Exit.then]; refine bodyPost_ret (results_none rfl _ _ _) rfl ?_) | refine bodyPost_ret (results_none rfl _ _ _) rfl ?_
                have hl5 : l5 = B.l ++ [outO x (B.xid + 1)] := by rw [HL5.out, HL4.out, List.nil_append, HX.out]
                rw [HFIN.out, ← hl5, ← HX.out]
                exact ⟨rfl, _, _, (HD8.out.later HR5.out.low).setL HR5.out.own (by have := HD8.out.rlt; omega), HW8W.out.newL HR5.out.low HR5.out.own (Nat.le_refl _)⟩
        · have HN2 := HSN (fun c => by have := HB.out; rw [c.2.1] at this; cases this)
          clear he HSN
          go_wp2
          go_round
          case rel => exact ⟨j + 1, by omega, by go_num, HN2⟩
          case measure => simp [intOf]; omega
      · have hq : ((x.addr : Int) != (a : Int)) = true := by simp; omega
        have HN2 := HSN (fun c => he c.1)
        clear he HSN
        go_wp2
        go_round
        case rel => exact ⟨j + 1, by omega, by go_num, HN2⟩
        case measure => simp [intOf]; omega
    · have HI : Hid (B.goes a = B) := Lib.hid (by
        rcases goes_cases B a with ⟨_, e⟩ | ⟨_, _, _, e⟩ | ⟨h1, h2, m, W1, W2, hw, hm, hn, e⟩
        · exact e
        · exact e
        · exact absurd ⟨hm, h1, h2⟩ (HN.out m (by rw [List.take_of_length_le (by omega), hw]; simp)))
      go_wp2
      go_end0
      rw [HI.out]
      exact ⟨rfl, _, _, HD.out, Way.refl _ _⟩
end Go.Proofs.Ytekladmddfibaaa
