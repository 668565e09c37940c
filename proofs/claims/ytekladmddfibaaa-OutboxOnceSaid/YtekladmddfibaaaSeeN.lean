/- The document's record of what was seen: Note (written by gensee.py). -/
import Derived.Test.YtekladmddfibaaaSeeM
import Derived.Test.YtekladmddfibaaaBoxB
namespace Go.Proofs.Ytekladmddfibaaa
open Go.RowKit Go.Sort

section
variable {w w' : World} {r : Nat} {v : Value} {S : List NtV}
/-- One is stored in place. -/
theorem DSn.put (h : DSn w r v S) (j : Nat) (x : NtV) (hj : j < S.length) : ∃ g c, v = .slice (some ⟨g, 0, none⟩) S.length c ∧ (∀ i, w.frozen? ⟨g, i, none⟩ = false) ∧
    DSn (((w.setCell ⟨g, j * 3, none⟩ (.int .u32 (x.addr : Int))).setCell ⟨g, j * 3 + 1, none⟩ (.int .i64 x.xid)).setCell ⟨g, j * 3 + 1 + 1, none⟩ (.bool x.ok)) r v (S.set j x) ∧
    Way (SQ r v) w (SQ r v) (((w.setCell ⟨g, j * 3, none⟩ (.int .u32 (x.addr : Int))).setCell ⟨g, j * 3 + 1, none⟩ (.int .i64 x.xid)).setCell ⟨g, j * 3 + 1 + 1, none⟩ (.bool x.ok)) := by
  have hr := h.row
  have hb := h.box
  obtain ⟨A, c, rfl, hlc⟩ := own_form hr
  have hA : ∃ g, A = some ⟨g, 0, none⟩ := by
    rcases hr.2 with ⟨h1, h2⟩ | ⟨g1, cap, cur, h1, _⟩
    · injection h1 with _ h1 _; omega
    · injection h1 with h1
      exact ⟨g1, h1⟩
  obtain ⟨g, rfl⟩ := hA
  have hne : g ≠ r := fun e => own_other hr hb (by decide) (by rw [e]; rfl)
  have hQ : SQ r (.slice (some ⟨g, 0, none⟩) S.length c) g := .inr rfl
  obtain ⟨h1, h2⟩ := putCells_own (x.cells.toList) (j * 3) (ecells ElemN S) w hr (by rw [ecells_length]; show j * 3 + 3 ≤ S.length * 3; omega)
  have e1 : (ecells ElemN S).take (j * 3) ++ x.cells.toList ++ (ecells ElemN S).drop (j * 3 + x.cells.toList.length) = ecells ElemN (S.set j x) := (ecells_put ElemN S j x hj).symm
  rw [e1] at h1
  refine ⟨g, c, rfl, fun i => hr.frozenAt i, ⟨?_, ?_⟩, ((way_set w g (j * 3) _ hQ).trans (way_set _ g (j * 3 + 1) _ hQ)).trans (way_set _ g (j * 3 + 1 + 1) _ hQ)⟩
  · exact (Below.heap_setCell _ ⟨g, j * 3 + 1 + 1, none⟩ _ r (fun e => hne e.symm)).trans ((Below.heap_setCell _ ⟨g, j * 3 + 1, none⟩ _ r (fun e => hne e.symm)).trans ((Below.heap_setCell w ⟨g, j * 3, none⟩ _ r (fun e => hne e.symm)).trans hb))
  · rw [List.length_set]
    exact h1
/-- A new slice, made since. -/
theorem DSn.setN {w1 : World} {v1 : Value} {S1 : List NtV} (h : DSn w r v S) (hb : Below w.heap.size w w1) (hr : w1.ownsRow (r + 1) ElemN.e ElemN.m v1 S1.length (ecells ElemN S1)) (hlow : ∀ b, v1.ownBlock = some b → w.heap.size ≤ b) :
    DSn (w1.setCell ⟨r, 0, none⟩ v1) r v1 S1 ∧ Way (SQ r v) w (SQ r v1) (w1.setCell ⟨r, 0, none⟩ v1) := by
  have h1 : w1.heap[r]? = some (.cells #[v] 76 (0, 0)) := (hb.block r h.rlt).trans h.box
  refine ⟨⟨?_, own_keep hr fun b hb2 => Below.heap_setCell w1 ⟨r, 0, none⟩ _ b (fun e => ?_)⟩, ?_⟩
  · show (w1.heap.modify r _)[r]? = _
    rw [Array.getElem?_modify, if_pos rfl, h1]
    rfl
  · have e : b = r := e
    have := hlow b hb2
    have := h.rlt
    omega
  · refine ⟨(OthT.of_low hb).trans' (Q' := SQ r v) (fun b hb => .inl hb) (way_set w1 r 0 v1 (.inl rfl)).oth, ?_⟩
    rintro b (rfl | hb2)
    · exact .inl (.inl rfl)
    · exact .inr (hlow b hb2)
end

set_option maxRecDepth 100000 in
set_option maxHeartbeats 8000000 in
theorem rnote_any {w : World} {r : Nat} {v : Value} {S : List NtV} (m : MsgV) (ok : Bool) (h : DSn w r v S) (hl : S.length ≤ 1000000) :
    Calls Try.prog 22 #[.pointer (some ⟨r, 0, none⟩), m.v, .bool ok] w fun e w' => e = .returned (.tuple #[]) ∧ ∃ v', DSn w' r v' (noteS S m.addr m.xid ok) ∧ Way (SQ r v) w (SQ r v') w' := by
  obtain ⟨w1, hw1⟩ : ∃ w1, w1 = w.alloc (mbox m) := ⟨_, rfl⟩
  have hB1 : Below w.heap.size w w1 := by rw [hw1]; exact (Below.refl _ _).alloc (Nat.le_refl _) _
  have HM := Lib.hid (show MBox w1 w.heap.size m by rw [hw1]; exact MBox.new w m)
  have HB1 := Lib.hid hB1
  have HD := Lib.hid h
  have HT := Lib.hid (rtake_any m (h.later hB1) hl)
  have HW1 := Lib.hid hw1
  clear h hB1 hw1
  obtain ⟨b0, b1, b2, b3, b4, b5, b6, b7, b8, b9, b10⟩ := HM.out.all
  obtain ⟨nw, hnw⟩ : ∃ nw, nw = (takeS S m.addr m.xid).1 := ⟨_, rfl⟩
  rw [← hnw] at HT
  have HNW := Lib.hid hnw
  clear hnw
  go_enter Try.func22, Try.ntmps22
  go_upto_region 1 with fail
  rw [← HW1.out]
  go_wp2_with fail
  refine HT.out.mono ?_
  rintro e w2 ⟨rfl, hb2⟩
  have HM2 := Lib.hid (HM.out.later hb2)
  have HB2 := Lib.hid (HB1.out.trans (hb2.mono HB1.out.size))
  clear hb2 b0 b1 b2 b3 b4 b5 b6 b7 b8 b9 b10
  cases nw
  · have HI : Hid (noteS S m.addr m.xid ok = S) := Lib.hid (by unfold noteS; rw [← HNW.out]; rfl)
    go_wp2
    (try simp only [Exit.inBlock, Exit.then])
    refine bodyPost_ret (results_none rfl _ _ _) rfl ?_
    rw [HI.out]
    exact ⟨rfl, v, HD.out.later HB2.out, Way.of_below HB2.out⟩
  go_wp2
  go_loopw [9] (fun i wr => ∃ j : Nat, j ≤ S.length ∧ i = .int .i64 j ∧ Hid (Below w.heap.size w wr) ∧ Hid (MBox wr w.heap.size m) ∧ Hid (∀ y ∈ S.take j, y.addr ≠ m.addr)) (fun i _ => S.length - (intOf i).toNat)
  case atStart => exact ⟨0, Nat.zero_le _, rfl, HB2, HM2, Lib.hid (by simp)⟩
  case round =>
    clear HM2 HB2
    obtain ⟨j, hj, rfl, HB3, HM3, HN⟩ := hrel
    have HD3 := Lib.hid (HD.out.later HB3.out)
    obtain ⟨A, c, hv, c0, hlc, hE⟩ := HD3.out.read
    have HE := Lib.hid hE
    have HV := Lib.hid hv
    have c3 := HM3.out.at_ 3
    have c5 := HM3.out.at_ 5
    clear hE hv
    by_cases hlt : j < S.length
    · obtain ⟨x, hx⟩ : ∃ x, S[j]? = some x := ⟨_, List.getElem?_eq_getElem hlt⟩
      obtain ⟨b, o, rfl, hb, x0, x1, x2⟩ := HE.out.at3 j x hx
      have HX := Lib.hid hx
      clear hx
      by_cases he : x.addr = m.addr
      · have HI : Hid (noteS S m.addr m.xid ok = S.set j ⟨m.addr, m.xid, ok⟩) := Lib.hid (by unfold noteS; rw [← HNW.out, if_pos rfl, (found_at HN.out HX.out he).2])
        have hq : ((x.addr : Int) == (m.addr : Int)) = true := by simp [he]
        clear he
        go_wp2_with fail
        go_quiet (fail)
        obtain ⟨w4, hw4⟩ : ∃ w4, w4 = wr.drewN nq := ⟨_, rfl⟩
        have hB4 : Below wr.heap.size wr w4 := by rw [hw4]; exact ⟨rfl, rfl, rfl, Nat.le_refl _, fun _ _ => rfl⟩
        rw [← hw4]
        have HD4 := Lib.hid (HD3.out.later hB4)
        have HM4 := Lib.hid (HM3.out.later hB4)
        have HB4 := Lib.hid (HB3.out.trans (hB4.mono HB3.out.size))
        clear hw4 hB4 c0 c3 c5 x0 x1 x2
        obtain ⟨g, c', hv2, hfz, hd5, hw5⟩ := HD4.out.put j ⟨m.addr, m.xid, ok⟩ hlt
        obtain ⟨A6, c6, hv6, c0, -, hE6⟩ := HD4.out.read
        have e1 : Value.slice A6 S.length c6 = Value.slice (some ⟨g, 0, none⟩) S.length c' := by rw [← hv6, hv2]
        injection e1 with e1 e2 e3
        subst e1 e3
        obtain ⟨b', o', hA, -, x0, x1, x2⟩ := hE6.at3 j x HX.out
        injection hA with hA
        injection hA with hA1 hA2
        subst hA1 hA2
        rw [Nat.zero_add] at x0 x1 x2
        have c3 := HM4.out.at_ 3
        have c5 := HM4.out.at_ 5
        have f0 := hfz (j * 3)
        have f1 := hfz (j * 3 + 1)
        have f2 := hfz (j * 3 + 1 + 1)
        have HD5 := Lib.hid hd5
        have HW5 := Lib.hid ((Way.of_below HB4.out).trans hw5)
        clear hv2 hd5 hw5 hv6 hE6 hfz
        go_wp2_with fail
        go_region
        all_goals go_wp2
        all_goals (try simp only [Exit.inBlock, Exit.then])
        all_goals refine bodyPost_ret (results_none rfl _ _ _) rfl ?_
        all_goals
          rw [HI.out]
          exact ⟨rfl, v, HD5.out.later ⟨rfl, rfl, rfl, Nat.le_refl _, fun _ _ => rfl⟩, HW5.out.trans (Way.of_below ⟨rfl, rfl, rfl, Nat.le_refl _, fun _ _ => rfl⟩)⟩
      · have hq : ((x.addr : Int) == (m.addr : Int)) = false := by simp; omega
        have HN2 : Hid (∀ y ∈ S.take (j + 1), y.addr ≠ m.addr) := Lib.hid (by
          intro y hy
          rw [take_snoc_of S j x HX.out, List.mem_append, List.mem_singleton] at hy
          rcases hy with hy | rfl
          · exact HN.out y hy
          · exact he)
        clear he
        go_wp2_with fail
        go_quiet (fail)
        obtain ⟨w4, hw4⟩ : ∃ w4, w4 = wr.drewN nq := ⟨_, rfl⟩
        have hB4 : Below wr.heap.size wr w4 := by rw [hw4]; exact ⟨rfl, rfl, rfl, Nat.le_refl _, fun _ _ => rfl⟩
        rw [← hw4]
        have HM4 := Lib.hid (HM3.out.later hB4)
        have HB4 := Lib.hid (HB3.out.trans (hB4.mono HB3.out.size))
        clear hw4 hB4 c0 c3 c5 x0 x1 x2
        go_wp2
        go_roundw
        case rel => exact ⟨j + 1, by omega, by go_num, HB4, HM4, HN2⟩
        case measure => simp [intOf]; omega
    · have HI : Hid (noteS S m.addr m.xid ok = S ++ [⟨m.addr, m.xid, ok⟩]) := Lib.hid (by unfold noteS; rw [← HNW.out, if_pos rfl, (found_no (fun y hy => HN.out y (by rwa [List.take_of_length_le (by omega)]))).2])
      have HS8 : Hid (∀ W, Below wr.heap.size wr W → W.cell? ⟨r, 0, none⟩ = some (.slice A S.length c) ∧ W.frozen? ⟨r, 0, none⟩ = false ∧ W.cell? ⟨w.heap.size, 3, none⟩ = some (.int .i64 m.xid) ∧ W.cell? ⟨w.heap.size, 5, none⟩ = some (.int .u32 (m.addr : Int))) := Lib.hid (fun W hb => by
        have h2 := HD3.out.later hb
        have h3 := cell_of_row W r 0 _ _ _ h2.box
        rw [HV.out] at h3
        have h4 := HM3.out.later hb
        exact ⟨by simpa using h3, h2.free 0, h4.at_ 3, h4.at_ 5⟩)
      have HLa : Hid (∀ W : World, El ElemN (W.alloc (.cells #[.int .u32 (m.addr : Int), .int .i64 m.xid, .bool ok] 81)) (W.heap.size + 1) (some ⟨W.heap.size, 0, none⟩) [⟨m.addr, m.xid, ok⟩]) := Lib.hid (fun W => El.lit (E := ElemN) W [⟨m.addr, m.xid, ok⟩] _ _ rfl)
      have s1 : ∀ W : World, (W.alloc (.cells #[.int .u32 (m.addr : Int), .int .i64 m.xid, .bool ok] 81)).heap.size = W.heap.size + 1 := fun W => Array.size_push _
      have s2 : ∀ W : World, (W.alloc (.cells #[] 81)).heap.size = W.heap.size + 1 := fun W => Array.size_push _
      have HRa : Hid (RowE ElemN wr (wr.alloc (.cells #[] 81)).drew (.slice (some ⟨wr.heap.size, 0, none⟩) 0 0) []) := Lib.hid ((RowE.lit (E := ElemN) (Below.refl _ wr) [] (by simp) #[] rfl).drew)
      have HRc : Hid (RowE ElemN wr ((wr.alloc (.cells #[] 81)).alloc (.cells #[.int .u32 (m.addr : Int), .int .i64 m.xid, .bool ok] 81)).drew (.slice (some ⟨wr.heap.size, 0, none⟩) 0 0) []) := Lib.hid (((RowE.lit (E := ElemN) (Below.refl _ wr) [] (by simp) #[] rfl).alloc _).drew)
      have HRb : Hid (RowE ElemN wr ((wr.alloc (.cells #[.int .u32 (m.addr : Int), .int .i64 m.xid, .bool ok] 81)).alloc (.cells #[] 81)).drew (.slice (some ⟨wr.heap.size + 1, 0, none⟩) 0 0) []) := Lib.hid (by
        have h := (RowE.lit (E := ElemN) (w0 := wr) ((Below.refl _ wr).alloc (Nat.le_refl _) (.cells #[.int .u32 (m.addr : Int), .int .i64 m.xid, .bool ok] 81)) [] (by simp) #[] rfl).drew
        rw [s1] at h
        exact h)
      have HLb : Hid (El ElemN ((wr.alloc (.cells #[.int .u32 (m.addr : Int), .int .i64 m.xid, .bool ok] 81)).alloc (.cells #[] 81)).drew (wr.heap.size + 1) (some ⟨wr.heap.size, 0, none⟩) [⟨m.addr, m.xid, ok⟩]) := Lib.hid (((HLa.out wr).below ((Below.refl _ _).alloc (by rw [s1]; exact Nat.le_refl _) _)).drew)
      have HLc : Hid (El ElemN ((wr.alloc (.cells #[] 81)).alloc (.cells #[.int .u32 (m.addr : Int), .int .i64 m.xid, .bool ok] 81)).drew (wr.heap.size + 1 + 1) (some ⟨wr.heap.size + 1, 0, none⟩) [⟨m.addr, m.xid, ok⟩]) := Lib.hid (by
        have h := (HLa.out (wr.alloc (.cells #[] 81))).drew
        rw [s2] at h
        exact h)
      have hsb : wr.heap.size < ((wr.alloc (.cells #[.int .u32 (m.addr : Int), .int .i64 m.xid, .bool ok] 81)).alloc (.cells #[] 81)).drew.heap.size := by show _ < Array.size (Array.push _ _); rw [Array.size_push, s1]; omega
      have hsc : wr.heap.size + 1 < ((wr.alloc (.cells #[] 81)).alloc (.cells #[.int .u32 (m.addr : Int), .int .i64 m.xid, .bool ok] 81)).drew.heap.size := by show _ < Array.size (Array.push _ _); rw [Array.size_push, s2]; omega
      obtain ⟨p0, f0, q3, q5⟩ := HS8.out _ (Below.refl _ wr).drew
      obtain ⟨p1, -, r3, r5⟩ := HS8.out _ ((Below.refl _ wr).alloc (Nat.le_refl _) (.cells #[] 81)).drew
      obtain ⟨p6, -, t3, t5⟩ := HS8.out _ ((Below.refl _ wr).alloc (Nat.le_refl _) (.cells #[.int .u32 (m.addr : Int), .int .i64 m.xid, .bool ok] 81)).drew
      obtain ⟨p2, -, u3, u5⟩ := HS8.out _ HRb.out.low
      obtain ⟨p3, -, v3, v5⟩ := HS8.out _ HRc.out.low
      have hneb : (Value.slice (some ⟨wr.heap.size + 1, 0, none⟩) 0 0).ownBlock ≠ some wr.heap.size := by simp [Value.ownBlock]
      have hnec : (Value.slice (some ⟨wr.heap.size, 0, none⟩) 0 0).ownBlock ≠ some (wr.heap.size + 1) := by simp [Value.ownBlock]
      have hz1 : ([] : List NtV).length + S.length ≤ 100000000000 := by simp; omega
      have HRL : Hid (r + 1 ≤ w.heap.size) := Lib.hid HD.out.rlt
      clear s1 s2
      go_upto_region 8 with fail
      go_region_law
        (first
          | (refine step_rowE (E := ElemN) rfl (.tmp 52) (.tmp 56) rfl rfl HRa.out S rfl rfl (HE.out.below HRa.out.low) hz1 ?_; intro A4 k4 w4 l4 HL4 hR4 hk4 _ hg4; have HR4 := Lib.hid hR4; obtain ⟨p4, f4, x3, x5⟩ := HS8.out _ hR4.low; have hz2 : l4.length + [(⟨m.addr, m.xid, ok⟩ : NtV)].length ≤ 100000000000 := (by rw [HL4.out]; simp; omega))
          | (refine step_rowE (E := ElemN) rfl (.tmp 52) (.tmp 56) rfl rfl HRb.out S rfl rfl (HE.out.below HRb.out.low) hz1 ?_; intro A4 k4 w4 l4 HL4 hR4 hk4 _ hg4; have HR4 := Lib.hid hR4; obtain ⟨p4, f4, x3, x5⟩ := HS8.out _ hR4.low; have hz2 : l4.length + [(⟨m.addr, m.xid, ok⟩ : NtV)].length ≤ 100000000000 := (by rw [HL4.out]; simp; omega); have HLx := Lib.hid (HLb.out.keptG (row := (Value.slice (some ⟨wr.heap.size + 1, 0, none⟩) 0 0).ownBlock) hsb hg4 hneb))
          | (refine step_rowE (E := ElemN) rfl (.tmp 52) (.tmp 56) rfl rfl HRc.out S rfl rfl (HE.out.below HRc.out.low) hz1 ?_; intro A4 k4 w4 l4 HL4 hR4 hk4 _ hg4; have HR4 := Lib.hid hR4; obtain ⟨p4, f4, x3, x5⟩ := HS8.out _ hR4.low; have hz2 : l4.length + [(⟨m.addr, m.xid, ok⟩ : NtV)].length ≤ 100000000000 := (by rw [HL4.out]; simp; omega); have HLx := Lib.hid (HLc.out.keptG (row := (Value.slice (some ⟨wr.heap.size, 0, none⟩) 0 0).ownBlock) hsc hg4 hnec))
          | (refine step_rowE (E := ElemN) rfl (.tmp 57) (.tmp 64) rfl rfl (HR4.out.alloc _) [⟨m.addr, m.xid, ok⟩] rfl rfl (HLa.out w4) hz2 ?_; intro A5 k5 w5 l5 HL5 hR5 hk5 _ _; have HR5 := Lib.hid hR5; obtain ⟨p5, f5, y3, y5⟩ := HS8.out _ hR5.low)
          | (refine step_rowE (E := ElemN) rfl (.tmp 57) (.tmp 64) rfl rfl HR4.out [⟨m.addr, m.xid, ok⟩] rfl rfl HLx.out hz2 ?_; intro A5 k5 w5 l5 HL5 hR5 hk5 _ _; have HR5 := Lib.hid hR5; obtain ⟨p5, f5, y3, y5⟩ := HS8.out _ hR5.low))
      all_goals
        go_wp2
        go_end0
        have hl5 : l5 = S ++ [⟨m.addr, m.xid, ok⟩] := by rw [HL5.out, HL4.out, List.nil_append]
        rw [HI.out, ← hl5]
        obtain ⟨d9, w9⟩ := HD.out.setN (v1 := .slice A5 l5.length k5) (HB3.out.trans (HR5.out.low.mono HB3.out.size)) (own_less HR5.out.own (by have := HRL.out; have := HB3.out.size; omega)) (fun b hb => Nat.le_trans HB3.out.size (HR5.out.lt b hb).1)
        exact ⟨rfl, _, d9, w9⟩
end Go.Proofs.Ytekladmddfibaaa
