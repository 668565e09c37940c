/- The program's box: issue. -/
import Derived.Test.YtekladmddfibaaaOutA
import Derived.Deep.RegionHeld3
import Derived.Deep.RegionLaw
import Derived.Deep.DeepCutAuto
namespace Go.Proofs.Ytekladmddfibaaa
open Go.RowKit Go.Sort Go.Maps

/-- Some blocks, and all that was made since. -/
def Since (w : World) (Q : Nat → Prop) (k : Nat) : Prop := Q k ∨ w.heap.size ≤ k
section
variable {w0 w w' w'' : World} {Q : Nat → Prop} {b : Nat}
theorem OthT.go (h : OthT (Since w0 Q) w0 w) (k : OthT (Since w0 Q) w w') : OthT (Since w0 Q) w0 w' := h.trans' (fun _ hb => .inl hb) k
theorem OthT.grown (hg : w.grownBy w' (some b)) (hb : Q b) : OthT Q w w' := ⟨hg.os, hg.tape, hg.output, hg.size, fun k hk hn => hg.block k hk (fun e => by injection e with e; exact hn (e ▸ hb))⟩
theorem OthT.set (w : World) (b i : Nat) (u : Value) (hb : Q b) : OthT Q w (w.setCell ⟨b, i, none⟩ u) := (way_set w b i u hb).oth
theorem OthT.made (w : World) (o : Obj) : OthT Q w (w.alloc o) := OthT.of_low ((Below.refl _ _).alloc (Nat.le_refl _) o)
theorem OthT.drew (w : World) : OthT Q w w.drew := ⟨rfl, rfl, rfl, Nat.le_refl _, fun _ _ _ => rfl⟩
theorem OthT.less {Q2 : Nat → Prop} (h : OthT Q w w') (hQ : ∀ k, k < w.heap.size → Q k → Q2 k) : OthT Q2 w w' := ⟨h.os, h.tape, h.output, h.size, fun k hk hn => h.block k hk (fun e => hn (hQ k hk e))⟩
end
theorem fs_put {w : World} {b : Nat} {f : Int → Option Nat} (h : FS.Holds w b f) (x : Int) (p : Nat) (h0 : 0 ≤ x) (h1 : x < 4294967296) : ∃ w', (Instr.mapUpdate 66 (.map (some b)) (.int .i64 x) (.pointer (some ⟨p, 0, none⟩))).run Try.prog w = .ok () w' ∧ FS.Holds w' b (putF f x p) ∧ w.grownBy w' (some b) :=
  h.put x p (by show (Lit.int IntKind.i64 x).wf = true; simp [Lit.wf, IntKind.min, IntKind.max, IntKind.bits, IntKind.signed]; omega) h0 h1
theorem fn_put {w : World} {b : Nat} {f : Nat → Option Int} (h : FN.Holds w b f) (a : Nat) (x : Int) (ha : a < 4294967296) : ∃ w', (Instr.mapUpdate 52 (.map (some b)) (.int .u32 (a : Int)) (.int .i64 x)).run Try.prog w = .ok () w' ∧ FN.Holds w' b (putF f a x) ∧ w.grownBy w' (some b) :=
  h.put a x (wf_u32o ha) (by show (0 : Int) ≤ (a : Int); omega) (by show (a : Int) < 4294967296; omega)
theorem fw_put {w : World} {b : Nat} {f : Nat → Option MsgV} (h : FW.Holds w b f) (a : Nat) (m : MsgV) (ha : a < 4294967296) : ∃ w', (Instr.mapUpdate 67 (.map (some b)) (.int .u32 (a : Int)) m.v).run Try.prog w = .ok () w' ∧ FW.Holds w' b (putF f a m) ∧ w.grownBy w' (some b) :=
  h.put a m (wf_u32o ha) (by show (0 : Int) ≤ (a : Int); omega) (by show (a : Int) < 4294967296; omega)

theorem goes_none {B : BxV} {a : Nat} (h : wF B.w a = none) : B.goes a = B := by
  unfold BxV.goes
  split
  · rfl
  · rw [show (B.w.find? fun m => m.addr == a) = none from h]
theorem goes_out {B : BxV} {a : Nat} (h : B.out a = true) : B.goes a = B := by
  unfold BxV.goes
  rw [if_pos (.inl h)]
theorem goes_full {B : BxV} {a : Nat} (h : 1073741824 ≤ B.xid) : B.goes a = B := by
  unfold BxV.goes
  rw [if_pos (.inr h)]

set_option maxRecDepth 100000 in
set_option maxHeartbeats 2000000 in
theorem oissue_any {w : World} {g bS bN bW : Nat} {P : Int → Nat} {B : BxV} (a : Nat) (ha : a < 4294967296) (h : TBt w g bS bN bW P B) (hm : B.Mid a) :
    Calls Try.prog 36 #[.pointer (some ⟨g, 0, none⟩), .int .u32 (a : Int)] w fun e w' => e = .returned (.tuple #[]) ∧ ∃ P', TBt w' g bS bN bW P' (B.goes a) ∧ Way (TQ g bS bN bW P B.l) w (TQ g bS bN bW P' (B.goes a).l) w' := by
  have c2 := h.cW
  have hlk := fw_look h.w_ a ha
  cases hf : wF B.w a with
  | none =>
    rw [hf] at hlk
    have hlk : (Instr.lookup 67 (.map (some bW)) (.int .u32 (a : Int)) true).run Try.prog w = .ok (.tuple #[zeroM.v, .bool false]) w := hlk
    have HG : Hid (B.goes a = B) := Lib.hid (goes_none hf)
    have HT := Lib.hid h
    clear hf h hm
    go_enter Try.func36, Try.ntmps36
    go_wp2
    first | go_end0 | refine bodyPost_ret (results_none rfl _ _ _) rfl ?_
    rw [HG.out]
    exact ⟨rfl, P, HT.out.later ((Below.refl _ _).alloc (Nat.le_refl _) _), Way.of_below ((Below.refl _ _).alloc (Nat.le_refl _) _)⟩
  | some m =>
    rw [hf] at hlk
    have hlk : (Instr.lookup 67 (.map (some bW)) (.int .u32 (a : Int)) true).run Try.prog w = .ok (.tuple #[m.v, .bool true]) w := hlk
    obtain ⟨w1, hw1⟩ : ∃ w1, w1 = w.alloc (mbox m) := ⟨_, rfl⟩
    have hB1 : Below w.heap.size w w1 := by rw [hw1]; exact (Below.refl _ _).alloc (Nat.le_refl _) _
    have HM1 : Hid (MBox w1 w.heap.size m) := Lib.hid (by rw [hw1]; exact MBox.new w m)
    have HB1 := Lib.hid hB1
    have hT1 := h.later hB1
    have HO := Lib.hid (oout_any a ha hT1)
    have HT := Lib.hid h
    have HT1 := Lib.hid hT1
    have HW1 := Lib.hid hw1
    have HF := Lib.hid hf
    have HMID := Lib.hid hm
    have HA := Lib.hid ha
    clear hw1 hB1 h hf hm hT1
    go_enter Try.func36, Try.ntmps36
    go_upto_region 1 with fail
    rw [← HW1.out]
    clear c2 hlk
    cases ho : B.out a with
    | true =>
      rw [ho] at HO
      have HG : Hid (B.goes a = B) := Lib.hid (goes_out ho)
      clear ho
      go_wp2_with fail
      refine HO.out.mono ?_
      rintro e w' ⟨rfl, rfl⟩
      go_wp2
      first | go_end0 | refine bodyPost_ret (results_none rfl _ _ _) rfl ?_
      rw [HG.out]
      exact ⟨rfl, P, HT1.out, Way.of_below HB1.out⟩
    | false =>
      rw [ho] at HO
      have c3 := HT1.out.x
      obtain ⟨X, hX⟩ : ∃ X, X = B.xid := ⟨_, rfl⟩
      rw [← hX] at c3
      have HX := Lib.hid hX
      have hX0 : 0 ≤ X := by rw [hX]; exact HMID.out.x0
      have hX1 : X ≤ 1073741824 := by rw [hX]; exact HMID.out.x1
      have HOUT := Lib.hid ho
      clear ho hX
      by_cases hx : X = 1073741824
      · have hg : (X == 1073741824) = true := by simpa using hx
        have HG : Hid (B.goes a = B) := Lib.hid (goes_full (by rw [← HX.out]; omega))
        clear hx hX0 hX1
        go_wp2_with fail
        refine HO.out.mono ?_
        rintro e w' ⟨rfl, rfl⟩
        go_wp2
        first | go_end0 | refine bodyPost_ret (results_none rfl _ _ _) rfl ?_
        rw [HG.out]
        exact ⟨rfl, P, HT1.out, Way.of_below HB1.out⟩
      · have hg : (X == 1073741824) = false := by simpa using hx
        have hX2 : X < 1073741824 := by omega
        have c2 := HT1.out.cW
        clear hx hX1
        go_wp2_with fail
        refine HO.out.mono ?_
        rintro e w' ⟨rfl, rfl⟩
        clear HO
        have hgW := HT1.out.w_.ne HT1.out.box
        have hmW := HT1.out.w_.ne HM1.out
        have HGW := Lib.hid hgW
        have HMW := Lib.hid hmW
        clear hgW hmW
        go_upto_region 3 with (first
          | (at_delete; refine wpList_dropF HT1.out.w_ rfl _ _ rfl rfl a rfl (wf_u32o HA.out) ?_; intro w2 hW2 hg2))
        have HW2 := Lib.hid hW2
        have HG2 := Lib.hid hg2
        have HBX2 := Lib.hid ((hg2.block g HT1.out.glt (fun e => HGW.out (Option.some.inj e))).trans HT1.out.box)
        have HM2 : Hid (MBox w2 w.heap.size m) := Lib.hid ((hg2.block _ HM1.out.lt (fun e => HMW.out (Option.some.inj e))).trans HM1.out)
        clear hW2 hg2 c2 c3
        have c3 := cell_of_row w2 g 3 _ _ _ HBX2.out
        simp at c3
        rw [← HX.out] at c3
        have f3 : w2.frozen? ⟨g, 3, none⟩ = false := by simp [World.frozen?, HBX2.out]
        obtain ⟨w3, hw3⟩ : ∃ w3, w3 = w2.setCell ⟨g, 3, none⟩ (.int .i64 (X + 1)) := ⟨_, rfl⟩
        have HW3 := Lib.hid hw3
        have hne : w.heap.size ≠ g := by have := HT.out.glt; omega
        have HM3 : Hid (MBox w3 w.heap.size m) := Lib.hid (by rw [hw3]; exact HM2.out.other (a := ⟨g, 3, none⟩) hne _)
        have HBX3 : Hid (w3.heap[g]? = some (.cells #[.map (some bS), .map (some bN), .map (some bW), .int .i64 (X + 1)] 69 (0, 0))) := Lib.hid (by
          rw [hw3]
          show (w2.heap.modify g _)[g]? = _
          rw [Array.getElem?_modify, if_pos rfl, HBX2.out]
          rfl)
        clear hw3 hne
        go_upto_region 4 with fail
        rw [← HW3.out]
        clear c3 f3
        have c3 := cell_of_row w3 g 3 _ _ _ HBX3.out
        simp at c3
        have m3 := HM3.out.c3
        have f3 := HM3.out.free 3
        obtain ⟨w4, hw4⟩ : ∃ w4, w4 = w3.setCell ⟨w.heap.size, 3, none⟩ (.int .i64 (X + 1)) := ⟨_, rfl⟩
        have HW4 := Lib.hid hw4
        have hne : g ≠ w.heap.size := by have := HT.out.glt; omega
        have HM4 : Hid (MBox w4 w.heap.size (outO m (X + 1)).m) := Lib.hid (by rw [hw4]; exact HM3.out.store 3 _ rfl)
        have HBX4 : Hid (w4.heap[g]? = some (.cells #[.map (some bS), .map (some bN), .map (some bW), .int .i64 (X + 1)] 69 (0, 0))) := Lib.hid ((by rw [hw4]; exact Below.heap_setCell w3 ⟨w.heap.size, 3, none⟩ _ g hne : w4.heap[g]? = w3.heap[g]?).trans HBX3.out)
        clear hw4 hne
        go_upto_region 5 with fail
        rw [← HW4.out]
        clear c3 m3 f3
        obtain ⟨q, hq⟩ : ∃ q, q = (outO m (X + 1)).m := ⟨_, rfl⟩
        rw [← hq] at HM4
        have HQ := Lib.hid hq
        have HQX : Hid (0 ≤ q.xid ∧ q.xid < 4294967296) := Lib.hid (by rw [hq]; show 0 ≤ X + 1 ∧ X + 1 < 4294967296; omega)
        clear hq
        obtain ⟨w5, hw5⟩ : ∃ w5, w5 = w4.alloc (.cells (OutV.cells ⟨q, -3⟩) 89) := ⟨_, rfl⟩
        have hB5 : Below w4.heap.size w4 w5 := by rw [hw5]; exact (Below.refl _ _).alloc (Nat.le_refl _) _
        have HU5 : Hid (UBox w5 w4.heap.size ⟨q, -3⟩) := Lib.hid (by rw [hw5]; exact heap_alloc_new w4 _)
        have HM5 := Lib.hid (HM4.out.later hB5)
        have HBX5 := Lib.hid ((hB5.block g (Array.getElem?_eq_some_iff.1 HBX4.out).1).trans HBX4.out)
        have HO5 : Hid (OthT (Since w (fun k => k = bW ∨ k = g)) w w5) := Lib.hid (by
          rw [hw5, HW4.out, HW3.out]
          refine OthT.go (OthT.go (OthT.go (OthT.go (OthT.of_low HB1.out) (OthT.grown HG2.out (.inl (.inl rfl)))) (OthT.set w2 g 3 _ (.inl (.inr rfl)))) (OthT.set _ w.heap.size 3 _ (.inr (Nat.le_refl _)))) (OthT.made _ _))
        have hgS := HT.out.s.ne HT.out.box
        have hgN := HT.out.n.ne HT.out.box
        have HS5 : Hid (FS.Holds w5 bS (sF B.l P)) := Lib.hid (HT.out.s.block (HO5.out.block bS HT.out.s.lt (by
          rintro ((e | e) | e)
          · exact HT.out.sw e
          · exact hgS e.symm
          · have := HT.out.s.lt; omega)))
        have HN5 : Hid (FN.Holds w5 bN (nF B.l)) := Lib.hid (HT.out.n.block (HO5.out.block bN HT.out.n.lt (by
          rintro ((e | e) | e)
          · exact HT.out.nw e
          · exact hgN e.symm
          · have := HT.out.n.lt; omega)))
        have HW5 := Lib.hid hw5
        have HB5 := Lib.hid hB5
        obtain ⟨w6, k6, hS6, hg6⟩ := fs_put HS5.out.drew q.xid w4.heap.size HQX.out.1 HQX.out.2
        have HS6 := Lib.hid hS6
        have HG6 := Lib.hid hg6
        have c0 := cell_of_row w4 g 0 _ _ _ HBX4.out
        have d0 := cell_of_row w5 g 0 _ _ _ HBX5.out
        simp at c0 d0
        obtain ⟨m0, m1, m2, m3, m4, m5, m6, m7, m8, m9, m10⟩ := HM4.out.all
        obtain ⟨n0, n1, n2, n3, n4, n5, n6, n7, n8, n9, n10⟩ := HM5.out.all
        rw [hw5] at d0 n0 n1 n2 n3 n4 n5 n6 n7 n8 n9 n10 k6
        clear hw5 hB5 hgS hgN hS6 hg6
        have HBX6 := Lib.hid ((HG6.out.block g (Array.getElem?_eq_some_iff.1 HBX5.out).1 (fun e => HS5.out.ne HBX5.out (Option.some.inj e))).trans HBX5.out)
        have HM6 : Hid (MBox w6 w.heap.size q) := Lib.hid ((HG6.out.block w.heap.size HM5.out.lt (fun e => HS5.out.ne HM5.out (Option.some.inj e))).trans HM5.out)
        have HN6 := Lib.hid (HN5.out.drew.kept HG6.out (fun e => HT.out.sn (Option.some.inj e).symm))
        obtain ⟨w7, k7, hN7, hg7⟩ := fn_put HN6.out.drew a q.xid HA.out
        have HN7 := Lib.hid hN7
        have HG7 := Lib.hid hg7
        have e1 := cell_of_row w6 g 1 _ _ _ HBX6.out
        simp at e1
        have e3 := HM6.out.c3
        clear hN7 hg7
        go_upto_region 6 with fail
        go_region
        clear k6 d0 n0 n1 n2 n3 n4 n5 n6 n7 n8 n9 n10 c0 m0 m1 m2 m3 m4 m5 m6 m7 m8 m9 m10
        go_wp2
        go_region
        clear k7 e1 e3
        go_wp2
        first | go_end0 | refine bodyPost_ret (results_none rfl _ _ _) rfl ?_
        have hf := HF.out
        obtain ⟨hmW, hma⟩ := wF_some hf
        obtain ⟨-, W1, W2, hw, hn⟩ := List.find?_eq_some_iff_append.1 (show B.w.find? (fun m => m.addr == a) = some m from hf)
        have hn : ∀ y ∈ W1, y.addr ≠ m.addr := fun y hy => by rw [hma]; simpa using hn y hy
        have hgo : B.goes a = ⟨B.l ++ [outO m (B.xid + 1)], W1 ++ W2, B.xid + 1⟩ := by
          rw [← hma]
          exact goes_at (by rw [hma]; exact HOUT.out) (by rw [← HX.out]; exact hX2) hw hn
        rw [hgo]
        have hq : q = (outO m (B.xid + 1)).m := by rw [HQ.out, HX.out]
        have hqx : q.xid = B.xid + 1 := by rw [hq]; rfl
        have hSN := HT.out.sn
        have hSW := HT.out.sw
        have hNW := HT.out.nw
        have hgS := HT.out.s.ne HT.out.box
        have hgN := HT.out.n.ne HT.out.box
        have hO27 : OthT (fun k => k = g ∨ k = w.heap.size ∨ k = bS ∨ k = bN) w2 w7 :=
          have h3 : OthT (fun k => k = g ∨ k = w.heap.size ∨ k = bS ∨ k = bN) w2 w3 := by rw [HW3.out]; exact OthT.set w2 g 3 _ (.inl rfl)
          have h4 : OthT (fun k => k = g ∨ k = w.heap.size ∨ k = bS ∨ k = bN) w3 w4 := by rw [HW4.out]; exact OthT.set w3 w.heap.size 3 _ (.inr (.inl rfl))
          have h5 : OthT (fun k => k = g ∨ k = w.heap.size ∨ k = bS ∨ k = bN) w4 w5 := OthT.of_low HB5.out
          have h6 : OthT (fun k => k = g ∨ k = w.heap.size ∨ k = bS ∨ k = bN) w5.drew w6 := OthT.grown HG6.out (.inr (.inr (.inl rfl)))
          have h7 : OthT (fun k => k = g ∨ k = w.heap.size ∨ k = bS ∨ k = bN) w6.drew w7 := OthT.grown HG7.out (.inr (.inr (.inr rfl)))
          (((((h3.trans' (fun _ h => .inl h) h4).trans' (fun _ h => .inl h) h5).trans' (fun _ h => .inl h) (OthT.drew w5)).trans' (fun _ h => .inl h) h6).trans' (fun _ h => .inl h) (OthT.drew w6)).trans' (fun _ h => .inl h) h7
        have hO : OthT (Since w (fun k => k = bW ∨ k = g ∨ k = bS ∨ k = bN)) w w7 := by
          refine (OthT.go (OthT.of_low HB1.out) (OthT.grown HG2.out (.inl (.inl rfl)))).trans' (fun _ h => .inl h) (hO27.less fun k _ h => ?_)
          rcases h with h | h | h | h
          · exact .inl (.inr (.inl h))
          · exact .inr (Nat.le_of_eq h.symm)
          · exact .inl (.inr (.inr (.inl h)))
          · exact .inl (.inr (.inr (.inr h)))
        have hold : ∀ o ∈ B.l, setP P q.xid w4.heap.size o.m.xid = P o.m.xid := fun o ho => by
          unfold setP
          rw [if_neg]
          have := (HMID.out.rng o ho).2
          omega
        have hnew : setP P q.xid w4.heap.size (outO m (B.xid + 1)).m.xid = w4.heap.size := by
          unfold setP
          rw [if_pos (by rw [hqx]; rfl)]
        have hs4 : w.heap.size ≤ w4.heap.size := by
          have h1 := HM4.out.lt
          omega
        have hT : TBt w7 g bS bN bW (setP P q.xid w4.heap.size) ⟨B.l ++ [outO m (B.xid + 1)], W1 ++ W2, B.xid + 1⟩ := by
          refine ⟨?_, ?_, ?_, ?_, ?_, ?_, hSN, hSW, hNW⟩
          · have h1 := (HG7.out.block g (Array.getElem?_eq_some_iff.1 HBX6.out).1 (fun e => hgN (Option.some.inj e))).trans HBX6.out
            rw [HX.out] at h1
            exact h1
          · have h1 := HS6.out.drew.kept HG7.out (fun e => hSN (Option.some.inj e))
            rw [hq]
            rw [hq] at h1
            rw [sF_add]
            exact h1
          · have h1 := HN7.out
            rw [hqx] at h1
            rw [nF_add (o := outO m (B.xid + 1)) (by show B.out m.addr = false; rw [hma]; exact HOUT.out)]
            show FN.Holds w7 bN (putF (nF B.l) m.addr (B.xid + 1))
            rw [hma]
            exact h1
          · have h1 := HW2.out.block (hO27.block bW HW2.out.lt (by
              rintro (e | e | e | e)
              · exact HGW.out e.symm
              · exact HMW.out e.symm
              · exact hSW e.symm
              · exact hNW e.symm))
            have h2 := HMID.out.onceW
            rw [hw] at h1 h2
            rw [wF_strike h2, hma]
            exact h1
          · intro o ho
            rcases List.mem_append.1 ho with ho | ho
            · rw [hold o ho]
              have h1 := HT.out.at_ o ho
              refine h1.block (hO.block _ h1.lt ?_)
              rintro ((e | e | e | e) | e)
              · exact HT.out.w_.ne h1 e
              · exact HT.out.ug ho e
              · exact HT.out.s.ne h1 e
              · exact HT.out.n.ne h1 e
              · have := h1.lt; omega
            · rw [List.mem_singleton.1 ho, hnew]
              have h1 : UBox w5 w4.heap.size (atV (outO m (B.xid + 1))) := by
                have := HU5.out
                rw [hq] at this
                exact this
              have h2 : UBox w6 w4.heap.size (atV (outO m (B.xid + 1))) := h1.block (HG6.out.block _ h1.lt (fun e => HS5.out.ne h1 (Option.some.inj e)))
              exact h2.block (HG7.out.block _ h2.lt (fun e => HN6.out.ne h2 (Option.some.inj e)))
          · intro o ho p hp e
            rcases List.mem_append.1 ho with ho | ho <;> rcases List.mem_append.1 hp with hp | hp
            · rw [hold o ho, hold p hp] at e
              exact HT.out.inj o ho p hp e
            · rw [List.mem_singleton.1 hp, hold o ho, hnew] at e
              have := (HT.out.at_ o ho).lt
              omega
            · rw [List.mem_singleton.1 ho, hold p hp, hnew] at e
              have := (HT.out.at_ p hp).lt
              omega
            · rw [List.mem_singleton.1 ho, List.mem_singleton.1 hp]
        refine ⟨rfl, _, hT, hO.less ?_, ?_⟩
        · rintro k hk ((e | e | e | e) | e)
          · exact .inr (.inr (.inr (.inl e)))
          · exact .inl e
          · exact .inr (.inl e)
          · exact .inr (.inr (.inl e))
          · omega
        · rintro k (e | e | e | e | ⟨o, ho, e⟩)
          · exact .inl (.inl e)
          · exact .inl (.inr (.inl e))
          · exact .inl (.inr (.inr (.inl e)))
          · exact .inl (.inr (.inr (.inr (.inl e))))
          · rcases List.mem_append.1 ho with ho | ho
            · rw [hold o ho] at e
              exact .inl (.inr (.inr (.inr (.inr ⟨o, ho, e⟩))))
            · rw [List.mem_singleton.1 ho, hnew] at e
              exact .inr (by omega)
end Go.Proofs.Ytekladmddfibaaa
