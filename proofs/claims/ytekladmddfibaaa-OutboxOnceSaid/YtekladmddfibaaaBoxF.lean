/- The document's box: Acked. -/
import Derived.Test.YtekladmddfibaaaBoxB
import Derived.Test.YtekladmddfibaaaBoxD
import Derived.Deep.RegionHeld3
import Derived.Deep.RegionLaw
namespace Go.Proofs.Ytekladmddfibaaa
open Go.RowKit Go.Sort

theorem acked_at {B : BxV} {j : Nat} {o : OutV} (ho : B.l[j]? = some o) (hn : ∀ p ∈ B.l.take j, p.m.xid ≠ o.m.xid) :
    B.l.find? (fun p => p.m.xid == o.m.xid) = some o ∧ B.less o.m.xid = ⟨B.l.take j ++ B.l.drop (j + 1), B.w, B.xid⟩ ∧ B.acked o.m.xid = ((⟨B.l.take j ++ B.l.drop (j + 1), B.w, B.xid⟩ : BxV).goes o.m.addr, some o.m) := by
  obtain ⟨hj, he⟩ := List.getElem?_eq_some_iff.1 ho
  have hw : B.l = B.l.take j ++ o :: B.l.drop (j + 1) := by rw [← he, ← List.drop_eq_getElem_cons hj, List.take_append_drop]
  obtain ⟨L1, hL1⟩ : ∃ L1, L1 = B.l.take j := ⟨_, rfl⟩
  obtain ⟨L2, hL2⟩ : ∃ L2, L2 = B.l.drop (j + 1) := ⟨_, rfl⟩
  rw [← hL1, ← hL2] at hw
  rw [← hL1] at hn
  rw [← hL1, ← hL2]
  have hf : B.l.find? (fun p => p.m.xid == o.m.xid) = some o := by
    rw [hw, List.find?_append, List.find?_eq_none.2 (fun y hy => by simpa using hn y hy), List.find?_cons_of_pos (by simp)]
    rfl
  have hl : B.less o.m.xid = ⟨L1 ++ L2, B.w, B.xid⟩ := by
    unfold BxV.less
    rw [hw, List.eraseP_append_right _ fun y hy => by simpa using hn y hy, List.eraseP_cons_of_pos (by simp)]
  refine ⟨hf, hl, ?_⟩
  unfold BxV.acked
  rw [hf]
  show (((B.less o.m.xid).goes o.m.addr, some o.m) : BxV × Option MsgV) = _
  rw [hl]
theorem acked_no {B : BxV} {x : Int} (hn : ∀ p ∈ B.l, p.m.xid ≠ x) : B.acked x = (B, none) := by
  unfold BxV.acked
  rw [List.find?_eq_none.2 fun y hy => by simpa using hn y hy]
/-- What Acked answers. -/
def ackR (o : Option MsgV) : MsgV × Bool := match o with | none => (zeroM, false) | some m => (m, true)

theorem racked_end {W : World} {g : Nat} {m0 q : MsgV} {b : Bool} {t : Array Value} {P : World → Prop} (hz : MBox W g m0) (hP : P (storeM W g q)) (h4 : t[4]?.getD undef = .pointer (some ⟨g, 0, none⟩)) (h5 : t[5]?.getD undef = .bool b) :
    bodyPost Try.prog Try.f29 (fun e w' => e = .returned (.tuple #[q.v, .bool b]) ∧ P w') .ret { tmps := t, defers := [] } (storeM W g q) := by
  refine bodyPost_ret (v := .tuple #[q.v, .bool b]) ?_ ?_ ⟨rfl, hP⟩
  · obtain ⟨r0, r1, r2, r3, r4, r5, r6, r7, r8, r9, r10⟩ := (storeM_box hz q).all
    simp [results, Try.f29, go_sem, h4, h5, r0, r1, r2, r3, r4, r5, r6, r7, r8, r9, r10]
  · rfl

/-- Behind Acked. -/
def AckD (r : Nat) (vL vW : Value) (w : World) (B' : BxV) (w' : World) : Prop := ∃ vL' vW', DAtB w' r vL' vW' B' ∧ Way (DQ r vL vW) w (DQ r vL' vW') w'
theorem AckD.store {r g : Nat} {vL vW vL' vW' : Value} {w W : World} {B' : BxV} (h1 : DAtB W r vL' vW' B') (h2 : Way (DQ r vL vW) w (DQ r vL' vW') W) (hg : w.heap.size ≤ g) (hne : ¬ DQ r vL' vW' g) (q : MsgV) : AckD r vL vW w B' (storeM W g q) := by
  have hk := storeM_kp W g q
  exact ⟨vL', vW', h1.keep ⟨hk.os, hk.tape, hk.output, hk.size, fun b hb => hk.block b (fun e => hne (e ▸ hb))⟩, h2.grown (row := some g) ⟨hk.os, hk.tape, hk.output, hk.size, fun b hb hbn => hk.block b (fun e => hbn (congrArg some e))⟩ (fun k e => by injection e with e; omega)⟩

set_option maxRecDepth 100000 in
set_option maxHeartbeats 4000000 in
theorem racked_any {w : World} {r : Nat} {vL vW : Value} {B : BxV} (x : Int) (h : DAtB w r vL vW B) (hok : B.Ok) :
    Calls Try.prog 29 #[.pointer (some ⟨r, 0, none⟩), .int .i64 x] w fun e w' => e = .returned (.tuple #[(ackR (B.acked x).2).1.v, .bool (ackR (B.acked x).2).2]) ∧ AckD r vL vW w (B.acked x).1 w' := by
  obtain ⟨w1, hw1⟩ : ∃ w1, w1 = w.alloc (.cells #[.int .i64 0, .int .i64 0, .int .i64 0, .int .i64 0, .int .i64 0, .int .u32 0, .int .i64 0, .string ⟨#[]⟩, .int .i64 0, .int .i64 0, .bool false] 31) := ⟨_, rfl⟩
  have hB1 : Below w.heap.size w w1 := by rw [hw1]; exact (Below.refl _ _).alloc (Nat.le_refl _) _
  have HZ : Hid (MBox w1 w.heap.size zeroM) := Lib.hid (by rw [hw1]; exact MBox.new w zeroM)
  have hsz1 : w1.heap.size = w.heap.size + 1 := by rw [hw1]; exact Array.size_push _
  have HLT := Lib.hid h.lt
  have HD := Lib.hid (h.later hB1)
  have HY1 := Lib.hid (Way.of_below (Q := DQ r vL vW) hB1)
  have HW1 := Lib.hid hw1
  have HOK := Lib.hid hok
  have hlen := hok.len
  obtain ⟨A, c, hvL, c0, hlc, HE⟩ := HD.out.readL
  have HE := Lib.hid HE
  have HV := Lib.hid hvL
  have hrw : r < w.heap.size := h.rlt
  clear h hok hw1 hB1 hvL
  obtain ⟨z0, z1, z2, z3, z4, z5, z6, z7, z8, z9, z10⟩ := HZ.out.all
  have hzf : ∀ i, w1.frozen? ⟨w.heap.size, i, none⟩ = false := fun i => HZ.out.free i
  go_enter Try.func29, Try.ntmps29
  go_upto_region 1 with fail
  rw [← HW1.out]
  go_wp2_with fail
  go_loop [6] (fun i => ∃ j : Nat, j ≤ B.l.length ∧ i = .int .i64 j ∧ Hid (∀ p ∈ B.l.take j, p.m.xid ≠ x)) (fun i => B.l.length - (intOf i).toNat)
  case atStart => exact ⟨0, Nat.zero_le _, rfl, Lib.hid (by simp)⟩
  case round =>
    obtain ⟨j, hj, rfl, HN⟩ := hrel
    by_cases hlt : j < B.l.length
    · obtain ⟨o, ho⟩ : ∃ o, B.l[j]? = some o := ⟨_, List.getElem?_eq_getElem hlt⟩
      obtain ⟨b, of, rfl, hb, ⟨x0, x1, x2, x3, x4, x5, x6, x7, x8, x9, x10⟩, x11⟩ := HE.out.at12 j o ho
      have HO := Lib.hid ho
      clear ho
      by_cases he : o.m.xid = x
      · subst he
        have hq : (o.m.xid == o.m.xid) = true := by simp
        have HNO : Hid (∀ p ∈ B.l.take j, p.m.xid ≠ o.m.xid) := HN
        obtain ⟨hfd, hle, hac⟩ := acked_at HO.out HNO.out
        have HMID := Lib.hid (less_mid HOK.out hfd)
        rw [hle] at HMID
        have HAC := Lib.hid hac
        clear hfd hle hac
        obtain ⟨w2, hw2⟩ : ∃ w2, w2 = w1.alloc (mbox o.m) := ⟨_, rfl⟩
        have hB2 : Below w1.heap.size w1 w2 := by rw [hw2]; exact (Below.refl _ _).alloc (Nat.le_refl _) _
        have HG : Hid (MBox w2 (w.heap.size + 1) o.m) := Lib.hid (by rw [hw2, ← hsz1]; exact MBox.new w1 o.m)
        have HZ2 := Lib.hid (HZ.out.later hB2)
        have HD2 := Lib.hid (HD.out.later hB2)
        have HY2 := Lib.hid (HY1.out.trans (Way.of_below hB2))
        have HE2 := Lib.hid (HE.out.below hB2)
        have HS : Hid (∀ W, Below w2.heap.size w2 W → W.cell? ⟨r, 0, none⟩ = some (.slice (some ⟨b, of, none⟩) B.l.length c) ∧ W.frozen? ⟨r, 0, none⟩ = false) := Lib.hid (fun W hb => by
          have h2 := HD2.out.later hb
          have h3 := cell_of_row W r 0 _ _ _ h2.box
          rw [HV.out] at h3
          exact ⟨by simpa using h3, h2.free 0⟩)
        obtain ⟨c1', f1'⟩ := HS.out w2 (Below.refl _ _)
        have hh1 : ∀ W, (Instr.slice 36 (.slice (some ⟨b, of, none⟩) B.l.length c) none (some (.int .i64 (j : Int))) none).run Try.prog W = .ok (.slice (some ⟨b, of, none⟩) j c) W := fun W => by
          have := run_headE ElemO (some ⟨b, of, none⟩) B.l.length c (j : Int) (by omega) (by omega) W
          rwa [Int.toNat_natCast] at this
        obtain ⟨A3, hA3⟩ : ∃ A3, A3 = (if c = j + 1 then (some ⟨b, of, none⟩) else (some ⟨b, of, none⟩ : Option Addr).map (·.add ((j + 1) * ElemO.m))) := ⟨_, rfl⟩
        have hh2 : ∀ W, (Instr.slice 36 (.slice (some ⟨b, of, none⟩) B.l.length c) (some (.int .i64 ((j : Int) + 1))) none none).run Try.prog W = .ok (.slice A3 (B.l.length - (j + 1)) (c - (j + 1))) W := fun W => by
          have := run_tailE ElemO (some ⟨b, of, none⟩) B.l.length c ((j : Int) + 1) (by omega) (by omega) W
          rw [show ((j : Int) + 1).toNat = j + 1 by omega, ← hA3] at this
          exact this
        have hBw : w1.heap.size ≤ w2.heap.size := hB2.size
        have HT1 := Lib.hid (HE2.out.take j)
        have HT2 : Hid (El ElemO w2 w1.heap.size A3 (B.l.drop (j + 1))) := Lib.hid (by rw [hA3]; exact HE2.out.cut (by omega) hlc)
        have HDr := Lib.hid (show (B.l.take j).length = j by rw [List.length_take]; omega)
        have HDd := Lib.hid (show (B.l.drop (j + 1)).length = B.l.length - (j + 1) from List.length_drop)
        have HLIT : Hid (RowE ElemO w2 (w2.alloc (.cells #[] 92)).drew (.slice (some ⟨w2.heap.size, 0, none⟩) 0 0) []) := Lib.hid ((RowE.lit (E := ElemO) (Below.refl _ w2) [] (by simp) #[] rfl).drew)
        have hLA : Below w2.heap.size w2 (w2.alloc (.cells #[] 92)).drew := HLIT.out.low
        have hz1 : ([] : List OutV).length + (B.l.take j).length ≤ 100000000000 := by rw [HDr.out]; simp; omega
        have HW2 := Lib.hid hw2
        have HT1b := Lib.hid ((HT1.out.more hBw).below hLA)
        have hwr : IntKind.i64.wrap ((j : Int) + 1) = (j : Int) + 1 := IntWalk.i64_in _ (by omega)
        clear hA3 hB2 hw2
        go_upto_region 6 with fail
        rw [← HW2.out]
        have HSZ1 := Lib.hid hsz1
        clear hsz1
        have c1a := (HS.out _ (Below.refl _ _).drew).1
        have c1b := (HS.out _ hLA).1
        go_cut [52] (fun _ wx => ∃ vL2, DAtB wx r vL2 vW ⟨B.l.take j ++ B.l.drop (j + 1), B.w, B.xid⟩ ∧ MBox wx (w.heap.size + 1) o.m ∧ MBox wx w.heap.size zeroM ∧ Way (DQ r vL vW) w (DQ r vL2 vW) wx)
        case first =>
          go_region_law
            (first
              | (refine step_rowE (E := ElemO) rfl (.tmp 37) (.tmp 43) rfl rfl HLIT.out (B.l.take j) HDr.out rfl HT1b.out hz1 ?_; intro A4 k4 w4 l4 HL4 hR4 hk4 _ _; have HR4 := Lib.hid hR4; have hBa : Below w2.heap.size w2 w4 := hR4.low; have c4 := (HS.out _ hBa).1; have HT4 := Lib.hid ((HT2.out.more hBw).below hBa); have hz2 : l4.length + (B.l.drop (j + 1)).length ≤ 100000000000 := (by rw [HL4.out, HDd.out, List.nil_append, HDr.out]; omega))
              | (refine step_rowE (E := ElemO) rfl (.tmp 44) (.tmp 51) rfl rfl HR4.out (B.l.drop (j + 1)) HDd.out rfl HT4.out hz2 ?_; intro A5 k5 w5 l5 HL5 hR5 hk5 _ _; have HR5 := Lib.hid hR5; have hBb : Below w2.heap.size w2 w5 := hR5.low; have f5 := (HS.out _ hBb).2; have c5 := (HS.out _ hBb).1))
          all_goals
            go_wp2
            go_meet
            have hl5 : l5 = B.l.take j ++ B.l.drop (j + 1) := by rw [HL5.out, HL4.out, List.nil_append]
            refine ⟨_, ?_, (HG.out.later hBb).other (by show w.heap.size + 1 ≠ r; omega) _, (HZ2.out.later hBb).other (by show w.heap.size ≠ r; omega) _, HY2.out.newL hBb HR5.out.own (Nat.le_refl _)⟩
            rw [← hl5]
            exact (HD2.out.later hBb).setL HR5.out.own HD2.out.rlt
        case rest =>
          obtain ⟨vL2, hd3, hg3, hz3, hy3⟩ := hcut
          rename_i wc
          have HGO := Lib.hid (rgoes_any o.m.addr hd3 HMID.out)
          have HNQ : Hid (∀ k, w.heap.size ≤ k → k ≤ w.heap.size + 1 → ¬ DQ r vL2 vW k) := Lib.hid (fun k h1 h2 hq => by
            rcases hq with h | h | h
            · omega
            · rcases (show k = w.heap.size ∨ k = w.heap.size + 1 by omega) with e | e
              · exact own_other hd3.rl hz3 (by decide) (by rw [h, e])
              · exact own_other hd3.rl hg3 (by decide) (by rw [h, e])
            · have := HLT.out k (.inr (.inr h)); omega)
          have HG3 := Lib.hid hg3
          have HZ3 := Lib.hid hz3
          have HY3 := Lib.hid hy3
          obtain ⟨y0, y1, y2, y3, y4, y5, y6, y7, y8, y9, y10⟩ := hg3.all
          clear hd3 hg3 hz3 hy3
          go_wp2_with fail
          refine HGO.out.mono ?_
          rintro e w6 ⟨rfl, vL3, vW3, hd6, hy6⟩
          have hgl := HG3.out.lt
          have hzl := HZ3.out.lt
          have HG6 : Hid (MBox w6 (w.heap.size + 1) o.m) := Lib.hid ((hy6.oth.block _ hgl (HNQ.out _ (by omega) (by omega))).trans HG3.out)
          have HZ6 : Hid (MBox w6 w.heap.size zeroM) := Lib.hid ((hy6.oth.block _ hzl (HNQ.out _ (by omega) (by omega))).trans HZ3.out)
          have hnz : ¬ DQ r vL3 vW3 w.heap.size := fun hq => by
            rcases hy6.new _ hq with h | h
            · exact HNQ.out _ (Nat.le_refl _) (by omega) h
            · omega
          have HEND := Lib.hid (AckD.store hd6 (HY3.out.trans hy6) (Nat.le_refl _) hnz o.m)
          have hf6 : ∀ i, w6.frozen? ⟨w.heap.size, i, none⟩ = false := fun i => HZ6.out.free i
          have g0 := hf6 0
          have g1 := hf6 1
          have g2 := hf6 2
          have g3 := hf6 3
          have g4 := hf6 4
          have g5 := hf6 5
          have g6 := hf6 6
          have g7 := hf6 7
          have g8 := hf6 8
          have g9 := hf6 9
          have g10 := hf6 10
          clear y0 y1 y2 y3 y4 y5 y6 y7 y8 y9 y10 hd6 hy6 hnz hgl hzl
          obtain ⟨y0, y1, y2, y3, y4, y5, y6, y7, y8, y9, y10⟩ := HG6.out.all
          obtain ⟨v0, v1, v2, v3, v4, v5, v6, v7, v8, v9, v10⟩ := HZ6.out.all
          go_wp2
          rw [HAC.out]
          exact racked_end (W := w6) (q := o.m) HZ6.out HEND.out rfl rfl
      · have hq : (o.m.xid == x) = false := by simpa using he
        have HN2 : Hid (∀ y ∈ B.l.take (j + 1), y.m.xid ≠ x) := Lib.hid (by
          intro y hy
          rw [take_snoc_of B.l j o HO.out, List.mem_append, List.mem_singleton] at hy
          rcases hy with hy | rfl
          · exact HN.out y hy
          · exact he)
        clear he
        go_wp2
        go_round
        case rel => exact ⟨j + 1, by omega, by go_num, HN2⟩
        case measure => simp [intOf]; omega
    · have HI : Hid (B.acked x = (B, none)) := Lib.hid (acked_no fun p hp => HN.out p (by rwa [List.take_of_length_le (by omega)]))
      have f0 := hzf 0
      have f1 := hzf 1
      have f2 := hzf 2
      have f3 := hzf 3
      have f4 := hzf 4
      have f5 := hzf 5
      have f6 := hzf 6
      have f7 := hzf 7
      have f8 := hzf 8
      have f9 := hzf 9
      have f10 := hzf 10
      go_wp2
      rw [HI.out]
      exact racked_end (W := w1) (q := zeroM) HZ.out (AckD.store HD.out HY1.out (Nat.le_refl _) (fun hq => by have := HLT.out _ hq; omega) zeroM) rfl rfl
end Go.Proofs.Ytekladmddfibaaa
