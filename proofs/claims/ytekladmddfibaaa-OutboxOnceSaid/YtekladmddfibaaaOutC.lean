/- The program's box: Put, Acked. -/
import Derived.Test.YtekladmddfibaaaOutB
import Derived.Test.YtekladmddfibaaaBoxG
import Derived.Test.YtekladmddfibaaaMsgR
namespace Go.Proofs.Ytekladmddfibaaa
open Go.RowKit Go.Sort Go.Maps

set_option maxRecDepth 100000 in
set_option maxHeartbeats 2000000 in
theorem oput_any {w : World} {g bS bN bW : Nat} {P : Int → Nat} {B : BxV} (m : MsgV) (ha : m.addr < 4294967296) (h : TBt w g bS bN bW P B) (hok : B.Ok) :
    Calls Try.prog 23 #[.pointer (some ⟨g, 0, none⟩), m.v] w fun e w' => e = .returned (.int .i64 (B.put m).2) ∧ ∃ P', TBt w' g bS bN bW P' (B.put m).1 ∧ Way (TQ g bS bN bW P B.l) w (TQ g bS bN bW P' (B.put m).1.l) w' := by
  obtain ⟨w1, hw1⟩ : ∃ w1, w1 = w.alloc (mbox (oneM m)) := ⟨_, rfl⟩
  have hB1 : Below w.heap.size w w1 := by
    rw [hw1]
    exact (Below.refl _ _).alloc (Nat.le_refl _) _
  have HM1 : Hid (MBox w1 w.heap.size (oneM m)) := Lib.hid (by
    rw [hw1]
    exact MBox.new w (oneM m))
  have HM0 := Lib.hid (MBox.new w m)
  have HB1 := Lib.hid hB1
  have HW1 := Lib.hid hw1
  have HD := Lib.hid h
  have HOK := Lib.hid hok
  have HAD := Lib.hid ha
  have HUP := Lib.hid (upd_right m)
  have HRT := Lib.hid (fun W => right_any (oneM m) ha W)
  obtain ⟨b0, b1, b2, b3, b4, b5, b6, b7, b8, b9, b10⟩ := HM0.out.all
  have hf0 : ∀ i, (w.alloc (mbox m)).frozen? ⟨w.heap.size, i, none⟩ = false := fun i => HM0.out.free i
  have f1 := hf0 1
  have f2 := hf0 2
  have f3 := hf0 3
  obtain ⟨rb, hrb⟩ : ∃ rb, rb = rightM (oneM m) := ⟨_, rfl⟩
  rw [← hrb] at HRT HUP
  clear h hok hw1 hB1 ha hrb
  go_enter Try.func23, Try.ntmps23
  go_upto_region 2 with fail
  rw [show ∀ V : World, V.alloc (.cells #[.int .i64 m.kind, .int .i64 1, .int .i64 0, .int .i64 1, .int .i64 m.state, .int .u32 (m.addr : Int), .int .i64 m.bind, .string m.client, .int .i64 m.pot, .int .i64 m.at_, .bool m.ok] 31) = V.alloc (mbox (oneM m)) from fun _ => rfl, ← HW1.out]
  clear b0 b1 b2 b3 b4 b5 b6 b7 b8 b9 b10 f1 f2 f3 hf0
  obtain ⟨b0, b1, b2, b3, b4, b5, b6, b7, b8, b9, b10⟩ := HM1.out.all
  have HPUTN : ¬ UpdM m → Hid (B.put m = (B, 2)) := fun hn => Lib.hid (by unfold BxV.put; rw [if_neg hn])
  by_cases hk : m.kind = 2
  rotate_left
  · have hq : ((oneM m).kind != 2) = true := by show (m.kind != 2) = true; simpa using hk
    have HP := HPUTN (fun hu => hk hu.1)
    clear HPUTN hk
    go_wp2
    go_ret
    rw [HP.out]
    exact ⟨rfl, P, HD.out.later HB1.out, Way.of_below HB1.out⟩
  have hq : ((oneM m).kind != 2) = false := by show (m.kind != 2) = false; simp [hk]
  have HKD := Lib.hid hk
  clear hk
  go_wp2_with fail
  refine (HRT.out w1).mono ?_
  rintro e w2 ⟨rfl, hb2⟩
  have HM2 := Lib.hid (HM1.out.later hb2)
  have HB2 := Lib.hid (HB1.out.trans (hb2.mono HB1.out.size))
  clear b0 b1 b2 b3 b4 b5 b6 b7 b8 b9 b10 hb2
  have HD2 := Lib.hid (HD.out.later HB2.out)
  obtain ⟨b0, b1, b2, b3, b4, b5, b6, b7, b8, b9, b10⟩ := HM2.out.all
  cases rb
  · have HP := HPUTN (fun hu => by have := (HUP.out.1 hu).1; cases this)
    clear HPUTN
    go_wp2
    go_ret
    rw [HP.out]
    exact ⟨rfl, P, HD2.out, Way.of_below HB2.out⟩
  have HU : Hid (UpdM m) := Lib.hid (HUP.out.2 ⟨rfl, HKD.out⟩)
  have c3 := HD2.out.x
  obtain ⟨X, hX⟩ : ∃ X, X = B.xid := ⟨_, rfl⟩
  rw [← hX] at c3
  have HX := Lib.hid hX
  clear hX HPUTN
  by_cases hx : X = 1073741824
  · have hg : (X == 1073741824) = true := by simpa using hx
    have HP : Hid (B.put m = (B, 3)) := Lib.hid (by unfold BxV.put; rw [if_pos HU.out, if_pos (by have := HX.out; omega)])
    clear hx
    go_wp2
    go_ret
    rw [HP.out]
    exact ⟨rfl, P, HD2.out, Way.of_below HB2.out⟩
  have hg : (X == 1073741824) = false := by simpa using hx
  have HP : Hid (B.put m = ((B.waits m).goes m.addr, 0)) := Lib.hid (by unfold BxV.put; rw [if_pos HU.out, if_neg (by have := HX.out; have := HOK.out.x1; omega)])
  obtain ⟨w3, hw3⟩ : ∃ w3, w3 = (w2.setCell ⟨w.heap.size, 1, none⟩ (.int .i64 0)).setCell ⟨w.heap.size, 3, none⟩ (.int .i64 0) := ⟨_, rfl⟩
  have HB3 : Hid (Below w.heap.size w w3) := Lib.hid (by
    rw [hw3]
    exact (HB2.out.setCell (p := ⟨w.heap.size, 1, none⟩) (Nat.le_refl _) _).setCell (p := ⟨w.heap.size, 3, none⟩) (Nat.le_refl _) _)
  have HM3 : Hid (MBox w3 w.heap.size (nudeM m)) := Lib.hid (by
    rw [hw3]
    exact (HM2.out.store (m' := { oneM m with life := 0 }) 1 _ rfl).store (m' := nudeM m) 3 _ rfl)
  have HD3 := Lib.hid (HD.out.later HB3.out)
  have HW3 := Lib.hid hw3
  have f1 := HM2.out.free 1
  have f3 := HM2.out.free 3
  clear hw3 hx
  go_upto_region 7 with fail
  rw [← HW3.out]
  clear b0 b1 b2 b3 b4 b5 b6 b7 b8 b9 b10 f1 f3 c3
  obtain ⟨q, hq⟩ : ∃ q, q = nudeM m := ⟨_, rfl⟩
  rw [← hq] at HM3
  have HQ := Lib.hid hq
  have HQA : Hid (q.addr < 4294967296) := Lib.hid (by rw [hq]; exact HAD.out)
  clear hq
  obtain ⟨b0, b1, b2, b3, b4, b5, b6, b7, b8, b9, b10⟩ := HM3.out.all
  have c2 := HD3.out.cW
  obtain ⟨w4, k4, hW4, hg4⟩ := fw_put HD3.out.w_.drew q.addr q HQA.out
  have HW4 := Lib.hid hW4
  have HG4 := Lib.hid hg4
  clear hW4 hg4
  go_wp2_with fail
  go_region
  clear k4 b0 b1 b2 b3 b4 b5 b6 b7 b8 b9 b10 c2
  have HD4 : Hid (TBt w4 g bS bN bW P (B.waits m)) := Lib.hid (by
    have hs := HD3.out.s.drew.kept HG4.out (fun e => HD3.out.sw (Option.some.inj e))
    have hn := HD3.out.n.drew.kept HG4.out (fun e => HD3.out.nw (Option.some.inj e))
    refine ⟨(HG4.out.block g HD3.out.glt (fun e => HD3.out.w_.ne HD3.out.box (Option.some.inj e))).trans HD3.out.box, hs, hn, ?_, fun o ho => ?_, HD3.out.inj, HD3.out.sn, HD3.out.sw, HD3.out.nw⟩
    · have h1 := HW4.out
      rw [HQ.out] at h1
      show FW.Holds w4 bW (wF (B.w.filter (fun y => y.addr != (nudeM m).addr) ++ [nudeM m]))
      rw [wF_put]
      exact h1
    · have h1 := HD3.out.at_ o ho
      exact h1.block (HG4.out.block _ h1.lt (fun e => HD3.out.w_.ne h1 (Option.some.inj e))))
  have HM4 : Hid (MBox w4 w.heap.size q) := Lib.hid ((HG4.out.block w.heap.size HM3.out.lt (fun e => HD3.out.w_.ne HM3.out (Option.some.inj e))).trans HM3.out)
  have HIS := Lib.hid (oissue_any m.addr HAD.out HD4.out (waits_mid HOK.out HU.out HAD.out))
  have b5 := HM4.out.c5
  rw [show q.addr = m.addr by rw [HQ.out]; rfl] at b5
  go_wp2_with fail
  refine HIS.out.mono ?_
  rintro e w5 ⟨rfl, P5, hd5, hy5⟩
  go_wp2
  go_ret
  rw [HP.out]
  refine ⟨rfl, P5, hd5, Way.trans ⟨?_, fun _ h => .inl h⟩ hy5⟩
  exact OthT.trans' (OthT.of_low HB3.out.drew) (fun _ h => .inl h) (OthT.grown HG4.out (.inr (.inr (.inr (.inl rfl)))) : OthT (TQ g bS bN bW P B.l) w3.drew w4)

theorem oacked_end {W : World} {g : Nat} {m0 q : MsgV} {b : Bool} {t : Array Value} {P : World → Prop} (hz : MBox W g m0) (hP : P (storeM W g q)) (h4 : t[4]?.getD undef = .pointer (some ⟨g, 0, none⟩)) (h5 : t[5]?.getD undef = .bool b) :
    bodyPost Try.prog Try.f26 (fun e w' => e = .returned (.tuple #[q.v, .bool b]) ∧ P w') .ret { tmps := t, defers := [] } (storeM W g q) := by
  refine bodyPost_ret (v := .tuple #[q.v, .bool b]) ?_ ?_ ⟨rfl, hP⟩
  · obtain ⟨r0, r1, r2, r3, r4, r5, r6, r7, r8, r9, r10⟩ := (storeM_box hz q).all
    simp [results, Try.f26, go_sem, h4, h5, r0, r1, r2, r3, r4, r5, r6, r7, r8, r9, r10]
  · rfl
/-- Behind Acked. -/
def AckT (g bS bN bW : Nat) (P : Int → Nat) (l : List OutV) (w : World) (B' : BxV) (w' : World) : Prop := ∃ P', TBt w' g bS bN bW P' B' ∧ Way (TQ g bS bN bW P l) w (TQ g bS bN bW P' B'.l) w'
theorem AckT.store {g bS bN bW r : Nat} {P P' : Int → Nat} {l : List OutV} {w W : World} {B' : BxV} (h1 : TBt W g bS bN bW P' B') (h2 : Way (TQ g bS bN bW P l) w (TQ g bS bN bW P' B'.l) W) (hg : w.heap.size ≤ r) (hne : ¬ TQ g bS bN bW P' B'.l r) (q : MsgV) : AckT g bS bN bW P l w B' (storeM W r q) := by
  have hk := storeM_kp W r q
  refine ⟨P', h1.keep ⟨hk.os, hk.tape, hk.output, hk.size, fun b hb => hk.block b (fun e => hne (e ▸ hb))⟩, ⟨?_, h2.new⟩⟩
  have h3 := h2.oth
  exact ⟨hk.os.trans h3.os, hk.tape.trans h3.tape, hk.output.trans h3.output, Nat.le_trans h3.size hk.size, fun b hb hn => (hk.block b (by omega)).trans (h3.block b hb hn)⟩
theorem wf_i64 {x : Int} (h0 : 0 ≤ x) (h1 : x < 4294967296) : (Lit.int IntKind.i64 x).wf = true := by
  simp [Lit.wf, IntKind.min, IntKind.max, IntKind.bits, IntKind.signed]; omega
theorem fs_look {w : World} {b : Nat} {f : Int → Option Nat} (h : FS.Holds w b f) (x : Int) : (Instr.lookup 66 (.map (some b)) (.int .i64 x) true).run Try.prog w = .ok (.tuple #[FS.valF (f x), .bool (f x).isSome]) w := h.look_all x
theorem fn_drop {w : World} {b : Nat} {f : Nat → Option Int} (h : FN.Holds w b f) (a : Nat) (ha : a < 4294967296) : ∃ w', (Builtin.delete_ #[52, 29] 0 #[.map (some b), .int .u32 (a : Int)]).run Try.prog w = .ok (.tuple #[]) w' ∧ FN.Holds w' b (delF f a) ∧ w.grownBy w' (some b) := h.drop a (wf_u32o ha) 0

set_option maxRecDepth 100000 in
set_option maxHeartbeats 4000000 in
theorem oacked_any {w : World} {g bS bN bW : Nat} {P : Int → Nat} {B : BxV} (x : Int) (h : TBt w g bS bN bW P B) (hok : B.Ok) :
    Calls Try.prog 26 #[.pointer (some ⟨g, 0, none⟩), .int .i64 x] w fun e w' => e = .returned (.tuple #[(ackR (B.acked x).2).1.v, .bool (ackR (B.acked x).2).2]) ∧ AckT g bS bN bW P B.l w (B.acked x).1 w' := by
  obtain ⟨w1, hw1⟩ : ∃ w1, w1 = w.alloc (mbox zeroM) := ⟨_, rfl⟩
  have hB1 : Below w.heap.size w w1 := by rw [hw1]; exact (Below.refl _ _).alloc (Nat.le_refl _) _
  have HZ : Hid (MBox w1 w.heap.size zeroM) := Lib.hid (by rw [hw1]; exact MBox.new w zeroM)
  have HD := Lib.hid h
  have HD1 := Lib.hid (h.later hB1)
  have HB1 := Lib.hid hB1
  have HW1 := Lib.hid (show w1 = w.alloc (.cells #[.int .i64 0, .int .i64 0, .int .i64 0, .int .i64 0, .int .i64 0, .int .u32 0, .int .i64 0, .string ⟨#[]⟩, .int .i64 0, .int .i64 0, .bool false] 31) from hw1)
  have HOK := Lib.hid hok
  clear h hok hw1 hB1
  have c0 := HD1.out.cS
  have hlk0 := fs_look HD1.out.s x
  cases hf : B.l.find? (fun o => o.m.xid == x) with
  | none =>
    have hn : ∀ p ∈ B.l, p.m.xid ≠ x := fun p hp => by simpa using List.find?_eq_none.1 hf p hp
    have HA : Hid (B.acked x = (B, none)) := Lib.hid (acked_no hn)
    rw [sF_none.2 hn] at hlk0
    have hlk : (Instr.lookup 66 (.map (some bS)) (.int .i64 x) true).run Try.prog w1 = .ok (.tuple #[.pointer none, .bool false]) w1 := hlk0
    clear hf hn hlk0
    obtain ⟨z0, z1, z2, z3, z4, z5, z6, z7, z8, z9, z10⟩ := HZ.out.all
    have f0 := HZ.out.free 0
    have f1 := HZ.out.free 1
    have f2 := HZ.out.free 2
    have f3 := HZ.out.free 3
    have f4 := HZ.out.free 4
    have f5 := HZ.out.free 5
    have f6 := HZ.out.free 6
    have f7 := HZ.out.free 7
    have f8 := HZ.out.free 8
    have f9 := HZ.out.free 9
    have f10 := HZ.out.free 10
    go_enter Try.func26, Try.ntmps26
    go_upto_region 1 with fail
    rw [← HW1.out]
    go_wp2
    rw [HA.out]
    exact oacked_end (W := w1) (q := zeroM) HZ.out (AckT.store HD1.out (Way.of_below HB1.out) (Nat.le_refl _) (fun hq => by have := HD.out.lt _ hq; omega) zeroM) rfl rfl
  | some o =>
    obtain ⟨L1, L2, hL, hx, hn, hless⟩ := less_at hf
    have hmem : o ∈ B.l := by rw [hL]; simp
    have HA : Hid (B.acked x = ((B.less x).goes o.m.addr, some o.m)) := Lib.hid (by unfold BxV.acked; rw [hf])
    have hpx : sF B.l P x = some (P x) := sF_iff.2 ⟨⟨o, hmem, hx⟩, rfl⟩
    rw [hpx] at hlk0
    have hlk : (Instr.lookup 66 (.map (some bS)) (.int .i64 x) true).run Try.prog w1 = .ok (.tuple #[.pointer (some ⟨P x, 0, none⟩), .bool true]) w1 := hlk0
    clear hlk0
    have HX0 : Hid (0 ≤ x ∧ x < 4294967296) := Lib.hid (by have := HOK.out.rng o hmem; have := HOK.out.x1; omega)
    have HU1 : Hid (UBox w1 (P x) (atV o)) := Lib.hid (by have := HD1.out.at_ o hmem; rwa [hx] at this)
    have HMID := Lib.hid (less_mid HOK.out hf)
    have HLESS := Lib.hid hless
    have HLL := Lib.hid hL
    have HXX := Lib.hid hx
    have HLOW : Hid (o.m.addr < 4294967296) := Lib.hid (HOK.out.keptL o hmem).low
    have HMEM := Lib.hid hmem
    clear hf hL hx hn hless hmem hpx
    obtain ⟨pz, hpz⟩ : ∃ pz, pz = P x := ⟨_, rfl⟩
    rw [← hpz] at hlk HU1
    have HPZ := Lib.hid hpz
    clear hpz
    have HNS := Lib.hid (HD1.out.s.ne HU1.out)
    have HNN := Lib.hid (HD1.out.n.ne HU1.out)
    have HNW := Lib.hid (HD1.out.w_.ne HU1.out)
    have HGS := Lib.hid (HD1.out.s.ne HD1.out.box)
    have HGN := Lib.hid (HD1.out.n.ne HD1.out.box)
    go_enter Try.func26, Try.ntmps26
    go_upto_region 1 with fail
    rw [← HW1.out]
    go_upto_region 5 with (first
      | (at_delete; refine wpList_dropF (F := FS) HD1.out.s rfl _ _ rfl rfl x rfl (wf_i64 HX0.out.1 HX0.out.2) ?_; intro w2 hS2 hg2))
    have HS2 := Lib.hid hS2
    have HG2 := Lib.hid hg2
    have HBX2 := Lib.hid ((hg2.block g HD1.out.glt (fun e => HGS.out (Option.some.inj e))).trans HD1.out.box)
    have HU2 := Lib.hid (HU1.out.block (hg2.block pz HU1.out.lt (fun e => HNS.out (Option.some.inj e))))
    have hN2 := HD1.out.n.kept hg2 (fun e => HD.out.sn (Option.some.inj e).symm)
    have HN2 := Lib.hid hN2
    clear c0 hlk hS2 hg2
    have c1 := cell_of_row w2 g 1 _ _ _ HBX2.out
    simp at c1
    have u5 : w2.cell? ⟨pz, 5, none⟩ = some (.int .u32 (o.m.addr : Int)) := HU2.out.c 5
    obtain ⟨w3, k3, hN3, hg3⟩ := fn_drop hN2.drew o.m.addr HLOW.out
    have HN3 := Lib.hid hN3
    have HG3 := Lib.hid hg3
    clear hN2 hN3 hg3
    have HBX3 := Lib.hid ((HG3.out.block g (Array.getElem?_eq_some_iff.1 HBX2.out).1 (fun e => HGN.out (Option.some.inj e))).trans HBX2.out)
    have HU3 := Lib.hid (HU2.out.block (HG3.out.block pz HU2.out.lt (fun e => HNN.out (Option.some.inj e))))
    have HS3 := Lib.hid (HS2.out.drew.kept HG3.out (fun e => HD.out.sn (Option.some.inj e)))
    have HO3 : Hid (OthT (fun k => k = bS ∨ k = bN) w1 w3) := Lib.hid (((OthT.grown HG2.out (.inl rfl) : OthT (fun k => k = bS ∨ k = bN) w1 w2).trans' (fun _ h => .inl h) (OthT.drew w2)).trans' (fun _ h => .inl h) (OthT.grown HG3.out (.inr rfl)))
    have HD3 : Hid (TBt w3 g bS bN bW P (B.less x)) := Lib.hid (by
      rw [HLESS.out]
      have hr := HOK.out.rise
      have h1 := HOK.out.onceL
      have hs := HS3.out
      have hn := HN3.out
      rw [HLL.out] at hr h1 hs hn
      rw [← HXX.out] at hs
      have hsub : ∀ q, q ∈ L1 ++ L2 → q ∈ B.l := fun q hq => by
        rw [HLL.out]
        rcases List.mem_append.1 hq with hq | hq
        · exact List.mem_append_left _ hq
        · exact List.mem_append_right _ (List.mem_cons_of_mem _ hq)
      refine ⟨HBX3.out, ?_, ?_, ?_, fun q hq => ?_, fun q hq r hr => HD1.out.inj q (hsub q hq) r (hsub r hr), HD.out.sn, HD.out.sw, HD.out.nw⟩
      · show FS.Holds w3 bS (sF (L1 ++ L2) P)
        rw [sF_strike hr]
        exact hs
      · show FN.Holds w3 bN (nF (L1 ++ L2))
        rw [nF_strike h1]
        exact hn
      · refine HD1.out.w_.block (HO3.out.block bW HD1.out.w_.lt ?_)
        rintro (e | e)
        · exact HD.out.sw e.symm
        · exact HD.out.nw e.symm
      · have h2 := HD1.out.at_ q (hsub q hq)
        refine h2.block (HO3.out.block _ h2.lt ?_)
        rintro (e | e)
        · exact HD1.out.s.ne h2 e
        · exact HD1.out.n.ne h2 e)
    have HIS := Lib.hid (oissue_any o.m.addr HLOW.out HD3.out HMID.out)
    have v5 : w3.cell? ⟨pz, 5, none⟩ = some (.int .u32 (o.m.addr : Int)) := HU3.out.c 5
    have HNQ : Hid (∀ k, k = pz ∨ k = w.heap.size → ¬ TQ g bS bN bW P (B.less x).l k) := Lib.hid (by
      rintro k hk (e | e | e | e | ⟨q, hq, e⟩)
      · rcases hk with hk | hk
        · rw [hk, HPZ.out, ← HXX.out] at e
          exact HD1.out.ug HMEM.out e
        · have := HD.out.glt; omega
      · rcases hk with hk | hk
        · exact HNS.out (hk.symm.trans e)
        · have := HD.out.s.lt; omega
      · rcases hk with hk | hk
        · exact HNN.out (hk.symm.trans e)
        · have := HD.out.n.lt; omega
      · rcases hk with hk | hk
        · exact HNW.out (hk.symm.trans e)
        · have := HD.out.w_.lt; omega
      · rw [HLESS.out] at hq
        have hq2 : q ∈ B.l := by
          rw [HLL.out]
          rcases List.mem_append.1 hq with hq | hq
          · exact List.mem_append_left _ hq
          · exact List.mem_append_right _ (List.mem_cons_of_mem _ hq)
        rcases hk with hk | hk
        · rw [hk, HPZ.out, ← HXX.out] at e
          have h1 := HD1.out.inj o HMEM.out q hq2 e
          have h2 := HOK.out.rise
          rw [HLL.out, List.pairwise_append, List.pairwise_cons] at h2
          obtain ⟨-, ⟨h3, -⟩, h4⟩ := h2
          rcases List.mem_append.1 hq with hq | hq
          · have := h4 q hq o (by simp); omega
          · have := h3 q hq; omega
        · have := (HD.out.at_ q hq2).lt; omega)
    have HZ3 : Hid (MBox w3 w.heap.size zeroM) := Lib.hid ((HO3.out.block _ HZ.out.lt (by
      rintro (e | e)
      · have := HD.out.s.lt; omega
      · have := HD.out.n.lt; omega)).trans HZ.out)
    have HY3 : Hid (Way (TQ g bS bN bW P B.l) w (TQ g bS bN bW P (B.less x).l) w3) := Lib.hid (by
      refine ⟨(OthT.of_low HB1.out).trans' (fun _ h => .inl h) (HO3.out.less ?_), ?_⟩
      · rintro k - (e | e)
        · exact .inr (.inl e)
        · exact .inr (.inr (.inl e))
      · rintro k (e | e | e | e | ⟨q, hq, e⟩)
        · exact .inl (.inl e)
        · exact .inl (.inr (.inl e))
        · exact .inl (.inr (.inr (.inl e)))
        · exact .inl (.inr (.inr (.inr (.inl e))))
        · rw [HLESS.out] at hq
          refine .inl (.inr (.inr (.inr (.inr ⟨q, ?_, e⟩))))
          rw [HLL.out]
          rcases List.mem_append.1 hq with hq | hq
          · exact List.mem_append_left _ hq
          · exact List.mem_append_right _ (List.mem_cons_of_mem _ hq))
    go_frame
    go_cut [33] (fun _ wx => wx = w3)
    case first =>
      go_region
      all_goals
        go_wp2
        go_meet
        rfl
    case rest =>
    subst hcut
    clear k3 c1 u5
    go_wp2_with fail
    refine HIS.out.mono ?_
    rintro e w4 ⟨rfl, P4, hd4, hy4⟩
    have HU4 := Lib.hid (HU3.out.block (hy4.oth.block pz HU3.out.lt (HNQ.out pz (.inl rfl))))
    have HZ4 : Hid (MBox w4 w.heap.size zeroM) := Lib.hid ((hy4.oth.block _ HZ3.out.lt (HNQ.out _ (.inr rfl))).trans HZ3.out)
    have HNQ4 : Hid (¬ TQ g bS bN bW P4 ((B.less x).goes o.m.addr).l w.heap.size) := Lib.hid (fun hk => by
      rcases hy4.new _ hk with h1 | h1
      · exact HNQ.out _ (.inr rfl) h1
      · have := HZ3.out.lt; omega)
    have HEND := Lib.hid (AckT.store hd4 (HY3.out.trans hy4) (Nat.le_refl _) HNQ4.out o.m)
    clear hd4 hy4 v5
    obtain ⟨z0, z1, z2, z3, z4, z5, z6, z7, z8, z9, z10⟩ := HZ4.out.all
    have f0 := HZ4.out.free 0
    have f1 := HZ4.out.free 1
    have f2 := HZ4.out.free 2
    have f3 := HZ4.out.free 3
    have f4 := HZ4.out.free 4
    have f5 := HZ4.out.free 5
    have f6 := HZ4.out.free 6
    have f7 := HZ4.out.free 7
    have f8 := HZ4.out.free 8
    have f9 := HZ4.out.free 9
    have f10 := HZ4.out.free 10
    have hu : MAt w4 pz 0 o.m := HU4.out.all.1
    obtain ⟨u0, u1, u2, u3, u4, u5, u6, u7, u8, u9, u10⟩ := hu
    simp only [Nat.zero_add] at u1 u2 u3 u4 u5 u6 u7 u8 u9 u10
    go_wp2
    rw [HA.out]
    exact oacked_end (W := w4) (q := o.m) HZ4.out HEND.out rfl rfl
end Go.Proofs.Ytekladmddfibaaa
