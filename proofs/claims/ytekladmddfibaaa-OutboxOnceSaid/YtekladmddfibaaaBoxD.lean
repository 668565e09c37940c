/- The document's box: Tick. -/
import Derived.Test.YtekladmddfibaaaBoxC
import Derived.Deep.DeepCutAuto
namespace Go.Proofs.Ytekladmddfibaaa
open Go.RowKit Go.Sort

theorem Way.grown {Q Q' : Nat → Prop} {w w1 w2 : World} {row : Option Nat} (h : Way Q w Q' w1) (hg : w1.grownBy w2 row) (hr : ∀ k, row = some k → w.heap.size ≤ k) : Way Q w Q' w2 :=
  ⟨⟨hg.os.trans h.oth.os, hg.tape.trans h.oth.tape, hg.output.trans h.oth.output, Nat.le_trans h.oth.size hg.size, fun k hk hq => (hg.block k (Nat.lt_of_lt_of_le hk h.oth.size) (fun e => by have := hr k e.symm; omega)).trans (h.oth.block k hk hq)⟩, h.new⟩
/-- What goes out of the first ones. -/
def outL (now : Int) (l : List OutV) : List MsgV := (l.filter (dueO now)).map (·.m)
theorem outL_snoc (now : Int) (l : List OutV) (x : OutV) : outL now (l ++ [x]) = if dueO now x = true then outL now l ++ [x.m] else outL now l := by
  unfold outL
  rw [List.filter_append, List.filter_cons, List.filter_nil]
  split <;> simp
theorem outL_len (now : Int) (l : List OutV) : (outL now l).length ≤ l.length := by
  unfold outL
  rw [List.length_map]
  exact List.length_filter_le _ _

/-- What Tick answers. -/
def TickD (r : Nat) (vL vW : Value) (w : World) (R : BxV × List MsgV × Int) (e : Ending) (w' : World) : Prop :=
  ∃ A c l, e = .returned (.tuple #[.slice A l.length c, .int .i64 R.2.2]) ∧ Hid (l = R.2.1) ∧ l.length ≤ c ∧ w'.ownsRow w.heap.size ElemM.e ElemM.m (.slice A l.length c) l.length (ecells ElemM l) ∧ DAtB w' r vL vW R.1 ∧ Way (DQ r vL vW) w (DQ r vL vW) w'

set_option maxRecDepth 100000 in
set_option maxHeartbeats 4000000 in
theorem rtick_any {w : World} {r : Nat} {vL vW : Value} {B : BxV} (now : Int) (h : DAtB w r vL vW B) (hok : B.Ok) :
    Calls Try.prog 30 #[.pointer (some ⟨r, 0, none⟩), .int .i64 now] w (TickD r vL vW w (B.tick now)) := by
  by_cases hn : 0 ≤ now ∧ now ≤ 1099511627776
  · have HR0 : Hid (B.tick now = (B.ticked now, outL now B.l, 0)) := Lib.hid (by unfold BxV.tick; rw [if_pos hn]; rfl)
    obtain ⟨hn0, hn1⟩ := hn
    have d0 : decide (now < 0) = false := by simp; omega
    have d1 : decide (1099511627776 < now) = false := by simp; omega
    have hlen := hok.len
    have HS := Lib.hid hok.sent
    have HLT := Lib.hid h.lt
    have HD := Lib.hid h
    clear h hok
    obtain ⟨f, hf⟩ : ∃ f : OutV → OutV, f = sentO now := ⟨_, rfl⟩
    have HF := Lib.hid hf
    clear hf
    go_enter Try.func30, Try.ntmps30
    go_wp2
    go_loopw [6, 7] (fun u i wr => ∃ (j : Nat) (A' : Option Addr) (c' : Nat) (d : List MsgV), j ≤ B.l.length ∧ i = .int .i64 j ∧ u = .slice A' d.length c' ∧ d.length ≤ j ∧ d.length ≤ c' ∧ Hid (d = outL now (B.l.take j)) ∧ Hid (wr.ownsRow w.heap.size ElemM.e ElemM.m (.slice A' d.length c') d.length (ecells ElemM d)) ∧ Hid (DAtB wr r vL vW ⟨halfL f B.l j, B.w, B.xid⟩) ∧ Hid (Way (DQ r vL vW) w (DQ r vL vW) wr)) (fun _ i _ => B.l.length - (intOf i).toNat)
    case atStart => exact ⟨0, none, 0, [], Nat.zero_le _, rfl, rfl, Nat.le_refl _, Nat.le_refl _, Lib.hid rfl, Lib.hid (World.ownsRow_nil _ _ _ _), Lib.hid (by rw [half_zero]; exact HD.out), Lib.hid (Way.refl _ _)⟩
    case round =>
      obtain ⟨j, A', c', d, hj, rfl, rfl, hdj, hdc, HDD, HROW, HR, HY⟩ := hrel
      have c0 := cell_of_row wr r 0 _ _ _ HR.out.box
      obtain ⟨A, c, hvL, -, hlc, hE⟩ := HR.out.readL
      have hl := half_len f B.l j
      rw [show (⟨halfL f B.l j, B.w, B.xid⟩ : BxV).l.length = B.l.length from hl] at hvL hlc
      by_cases hlt : j < B.l.length
      · obtain ⟨x, hx⟩ : ∃ x, B.l[j]? = some x := ⟨_, List.getElem?_eq_getElem hlt⟩
        have hx' : (halfL f B.l j)[j]? = some x := by rw [half_at f B.l hlt, hx]
        obtain ⟨hs0, hs1⟩ := HS.out x (List.mem_of_getElem? hx)
        obtain ⟨g1, c1, hv2, hfz, hd2, hw2⟩ := HR.out.setS j x now hx'
        obtain ⟨b, o, hA, -, -, x11⟩ := hE.at12 j x hx'
        have e1 : Value.slice A B.l.length c = Value.slice (some ⟨g1, 0, none⟩) (halfL f B.l j).length c1 := by rw [← hvL, hv2]
        injection e1 with e1 e2 e3
        subst e1
        injection hA with hA
        injection hA with hA1 hA2
        subst hA1 hA2
        rw [Nat.zero_add] at x11
        rw [show (#[vL, vW, Value.int IntKind.i64 (⟨halfL f B.l j, B.w, B.xid⟩ : BxV).xid] : Array Value)[0]? = some (.slice (some ⟨g1, 0, none⟩) B.l.length c) by rw [hvL]; rfl] at c0
        have HV := Lib.hid hvL
        have HSN := Lib.hid (show outL now (B.l.take (j + 1)) = if dueO now x = true then outL now (B.l.take j) ++ [x.m] else outL now (B.l.take j) by rw [take_snoc_of B.l j x hx]; exact outL_snoc now _ x)
        have HX := Lib.hid hx
        obtain ⟨s, hs⟩ : ∃ s, s = x.sent := ⟨_, rfl⟩
        rw [← hs] at hs0 hs1 x11
        have hdue : dueO now x = decide (s < 0 ∨ 3 ≤ now - s) := by rw [hs]; rfl
        clear hs
        by_cases hd : s < 0 ∨ 3 ≤ now - s
        · have hdu : dueO now x = true := by rw [hdue]; exact decide_eq_true hd
          have HSET := Lib.hid (show (halfL f B.l j).set j ⟨x.m, now⟩ = halfL f B.l (j + 1) by
            have h1 := half_set f B.l hx
            rw [show f x = ⟨x.m, now⟩ by rw [HF.out]; unfold sentO; rw [if_pos hdu]] at h1
            exact h1)
          rw [hdu, if_pos rfl] at HSN
          obtain ⟨w2, hw2e⟩ : ∃ w2, w2 = wr.setCell ⟨g1, j * 12 + 11, none⟩ (.int .i64 now) := ⟨_, rfl⟩
          rw [← hw2e] at hd2 hw2
          have hd2' : DAtB w2 r vL vW ⟨halfL f B.l (j + 1), B.w, B.xid⟩ := by rw [← HSET.out]; exact hd2
          obtain ⟨A2, k2, hv3, c02, -, hE2⟩ := hd2.readL
          have hx2 : ((halfL f B.l j).set j ⟨x.m, now⟩)[j]? = some ⟨x.m, now⟩ := by rw [List.getElem?_set_self (by rw [hl]; exact hlt)]
          obtain ⟨b3, o3, hA3, -, ⟨y0, y1, y2, y3, y4, y5, y6, y7, y8, y9, y10⟩, -⟩ := hE2.at12 j _ hx2
          have e4 : Value.slice A2 ((halfL f B.l j).set j ⟨x.m, now⟩).length k2 = Value.slice (some ⟨g1, 0, none⟩) B.l.length c := by rw [← hv3, hvL]
          injection e4 with e4 e5 e6
          subst e4
          injection hA3 with hA3
          injection hA3 with hA31 hA32
          subst hA31 hA32
          rw [Nat.zero_add] at y0 y1 y2 y3 y4 y5 y6 y7 y8 y9 y10
          rw [show (⟨(halfL f B.l j).set j ⟨x.m, now⟩, B.w, B.xid⟩ : BxV).l.length = B.l.length by show (List.set _ _ _).length = _; rw [List.length_set, hl], e6] at c02
          have hne : (Value.slice A' d.length c').ownBlock ≠ some g1 := fun e => by
            have h1 := (HROW.out.lt g1 e).1
            have h2 := HLT.out g1 (.inr (.inl (by rw [HV.out]; rfl)))
            omega
          have HROW2 : Hid (w2.ownsRow w.heap.size ElemM.e ElemM.m (.slice A' d.length c') d.length (ecells ElemM d)) := Lib.hid (own_keep HROW.out fun b hb => by
            rw [hw2e]; exact Below.heap_setCell wr ⟨g1, j * 12 + 11, none⟩ _ b (fun e => hne (by rw [hb]; exact congrArg some e)))
          have HD2 := Lib.hid hd2'
          have HY2 := Lib.hid (HY.out.trans hw2)
          have HW2 := Lib.hid hw2e
          have HHL := Lib.hid HLT.out
          have hsz : w.heap.size ≤ w2.heap.size := HY2.out.size
          have HROW3 : Hid (RowE ElemM (cutW w2 w.heap.size) (w2.alloc (.cells x.m.cells 31)) (.slice A' d.length c') d) := Lib.hid ((RowE.of_cut hsz HROW2.out).alloc _)
          have HEL : Hid (El ElemM (w2.alloc (.cells x.m.cells 31)) (w2.heap.size + 1) (some ⟨w2.heap.size, 0, none⟩) [x.m]) := Lib.hid (El.lit (E := ElemM) w2 [x.m] _ _ (by simp [ecells, ElemM]))
          have hz : d.length + [x.m].length ≤ 100000000000 := by simp; omega
          clear hvL hv2 hd2 hw2 hE hx hx' e2 e3 hl hd2' hv3 hE2 hx2 e5 e6 hw2e hne hdue hdu
          rcases (show s < 0 ∨ (¬ s < 0 ∧ 3 ≤ now - s) by omega) with hg | ⟨hg, hg3⟩
          · have q0 : decide (s < 0) = true := by simpa using hg
            go_upto_region 9 with fail
            rw [← HW2.out]
            clear x11 c0 hfz
            go_wp2_with (first
              | (at_builtin; refine wpList_rowE (E := ElemM) rfl (.tmp 53) (.tmp 62) rfl rfl HROW3.out [x.m] rfl rfl HEL.out hz ?_; intro A4 k4 w4 l4 HL4 hR4 hk4 _ hg4))
            have HFIN : Hid (l4 = outL now (B.l.take (j + 1))) := Lib.hid (by rw [HL4.out, HSN.out, ← HDD.out])
            have hlen4 : l4.length ≤ j + 1 := by rw [HFIN.out]; exact Nat.le_trans (outL_len now _) (by rw [List.length_take]; omega)
            have hG : (w2.alloc (.cells x.m.cells 31)).grownBy w4 (Value.slice A' d.length c').ownBlock := hg4
            have hr4 : ∀ k, (Value.slice A' d.length c').ownBlock = some k → w.heap.size ≤ k := fun k hk => (HROW.out.lt k hk).1
            have hW4 := (HY2.out.trans (Way.of_below ((Below.refl _ _).alloc (Nat.le_refl _) (.cells x.m.cells 31)))).grown hG hr4
            have hA4 := HD2.out.later ((Below.refl _ w2).alloc (Nat.le_refl _) (.cells x.m.cells 31))
            have hD4 := hA4.keep (KpT.of_grown hG hA4.lt (fun k hk hq => by have h1 := hr4 k hk; have h2 := HHL.out k hq; omega))
            have hO4 : w4.ownsRow w.heap.size ElemM.e ElemM.m (.slice A4 l4.length k4) l4.length (ecells ElemM l4) := by have := hR4.own; rw [cutW_size hsz] at this; exact this
            go_roundw
            case rel => exact ⟨j + 1, A4, k4, l4, by omega, by go_num, by go_num, hlen4, hk4, HFIN, Lib.hid hO4, Lib.hid hD4, Lib.hid hW4⟩
            case measure => simp [intOf]; omega
          · have q0 : decide (s < 0) = false := by simpa using hg
            have q3 : decide (3 ≤ now - s) = true := by simpa using hg3
            go_upto_region 9 with fail
            rw [← HW2.out]
            clear x11 c0 hfz
            go_wp2_with (first
              | (at_builtin; refine wpList_rowE (E := ElemM) rfl (.tmp 53) (.tmp 62) rfl rfl HROW3.out [x.m] rfl rfl HEL.out hz ?_; intro A4 k4 w4 l4 HL4 hR4 hk4 _ hg4))
            have HFIN : Hid (l4 = outL now (B.l.take (j + 1))) := Lib.hid (by rw [HL4.out, HSN.out, ← HDD.out])
            have hlen4 : l4.length ≤ j + 1 := by rw [HFIN.out]; exact Nat.le_trans (outL_len now _) (by rw [List.length_take]; omega)
            have hG : (w2.alloc (.cells x.m.cells 31)).grownBy w4 (Value.slice A' d.length c').ownBlock := hg4
            have hr4 : ∀ k, (Value.slice A' d.length c').ownBlock = some k → w.heap.size ≤ k := fun k hk => (HROW.out.lt k hk).1
            have hW4 := (HY2.out.trans (Way.of_below ((Below.refl _ _).alloc (Nat.le_refl _) (.cells x.m.cells 31)))).grown hG hr4
            have hA4 := HD2.out.later ((Below.refl _ w2).alloc (Nat.le_refl _) (.cells x.m.cells 31))
            have hD4 := hA4.keep (KpT.of_grown hG hA4.lt (fun k hk hq => by have h1 := hr4 k hk; have h2 := HHL.out k hq; omega))
            have hO4 : w4.ownsRow w.heap.size ElemM.e ElemM.m (.slice A4 l4.length k4) l4.length (ecells ElemM l4) := by have := hR4.own; rw [cutW_size hsz] at this; exact this
            go_roundw
            case rel => exact ⟨j + 1, A4, k4, l4, by omega, by go_num, by go_num, hlen4, hk4, HFIN, Lib.hid hO4, Lib.hid hD4, Lib.hid hW4⟩
            case measure => simp [intOf]; omega
        · have q0 : decide (s < 0) = false := by simp; omega
          have q3 : decide (3 ≤ now - s) = false := by simp; omega
          have hdu : dueO now x = false := by rw [hdue]; exact decide_eq_false hd
          have HSAME := Lib.hid (half_same f B.l hx (by rw [HF.out]; unfold sentO; rw [hdu]; rfl))
          rw [hdu, if_neg (by decide)] at HSN
          clear hvL hv2 hd2 hw2 hE hx hx' e2 e3 hl hdue hdu hd
          go_wp2
          go_roundw
          case rel => exact ⟨j + 1, A', c', d, by omega, by go_num, rfl, by omega, hdc, Lib.hid (by rw [HSN.out]; exact HDD.out), HROW, Lib.hid (by rw [HSAME.out]; exact HR.out), HY⟩
          case measure => simp [intOf]; omega
      · obtain rfl : j = B.l.length := by omega
        rw [show (#[vL, vW, Value.int IntKind.i64 (⟨halfL f B.l B.l.length, B.w, B.xid⟩ : BxV).xid] : Array Value)[0]? = some (.slice A B.l.length c) by rw [hvL]; rfl] at c0
        have HV := Lib.hid hvL
        clear hvL hE hl
        have HEND : Hid (DAtB wr r vL vW (B.ticked now)) := Lib.hid (by have := HR.out; rw [half_all, HF.out] at this; exact this)
        have HDE : Hid (d = outL now B.l) := Lib.hid (by rw [HDD.out, List.take_of_length_le (Nat.le_refl _)])
        go_wp2
        go_ret2
        rw [HR0.out]
        exact ⟨A', c', d, rfl, HDE, hdc, HROW.out, HEND.out, HY.out⟩
  · have HR0 : Hid (B.tick now = (B, [], 1)) := Lib.hid (by unfold BxV.tick; rw [if_neg hn])
    have HD := Lib.hid h
    clear h hok
    have key : ∀ {P : Prop}, (decide (now < 0) = true → P) → (decide (now < 0) = false → decide (1099511627776 < now) = true → P) → P := fun h1 h2 => by
      by_cases h3 : now < 0
      · exact h1 (by simpa using h3)
      · exact h2 (by simpa using h3) (by simp; omega)
    clear hn
    refine key (fun d0 => ?_) (fun d0 d1 => ?_)
    all_goals
      go_enter Try.func30, Try.ntmps30
      go_wp2
      go_ret2
      rw [HR0.out]
      exact ⟨none, 0, [], rfl, Lib.hid rfl, Nat.le_refl _, World.ownsRow_nil _ _ _ _, HD.out, Way.refl _ _⟩
end Go.Proofs.Ytekladmddfibaaa
