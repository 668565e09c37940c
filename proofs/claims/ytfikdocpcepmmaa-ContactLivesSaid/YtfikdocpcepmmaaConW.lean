/- Two contacts of the program side by side (CarC); lessorlaw19.awake. -/
import Derived.Test.YtfikdocpcepmmaaConD
namespace Go.Proofs.Ytfikdocpcepmmaa
open Go.RowKit Go.Sort

/-- Two of the program's contacts, made since w0. -/
structure CarC (w0 w : World) (g k : Nat) (a b : ConV) : Prop where
  pa : PAt w g a
  pb : PAt w k b
  ne : g ≠ k
  low : Below w0.heap.size w0 w
  ga : w0.heap.size ≤ g
  gb : w0.heap.size ≤ k
section
variable {w0 w w' : World} {g k : Nat} {a b a' b' : ConV}
theorem CarC.later (h : CarC w0 w g k a b) (hb : Below w.heap.size w w') : CarC w0 w' g k a b := ⟨CAt.later h.pa hb, CAt.later h.pb hb, h.ne, h.low.trans (hb.mono h.low.size), h.ga, h.gb⟩
theorem Way.one_below {B : Nat} (h : Way (One g) w (One g) w') (hB : B ≤ w.heap.size) (hg : B ≤ g) : Below B w w' := h.below hB (fun b hb => by rw [hb]; exact hg)
theorem CarC.fst (h : CarC w0 w g k a b) (h1 : PAt w' g a') (hw : Way (One g) w (One g) w') : CarC w0 w' g k a' b := ⟨h1, CAt.way h.pb hw (fun e => h.ne e.symm), h.ne, h.low.trans (hw.one_below h.low.size h.ga), h.ga, h.gb⟩
theorem CarC.snd (h : CarC w0 w g k a b) (h1 : PAt w' k b') (hw : Way (One k) w (One k) w') : CarC w0 w' g k a b' := ⟨CAt.way h.pa hw h.ne, h1, h.ne, h.low.trans (hw.one_below h.low.size h.gb), h.ga, h.gb⟩
theorem CarC.swap (h : CarC w0 w g k a b) : CarC w0 w k g b a := ⟨h.pb, h.pa, h.ne.symm, h.low, h.gb, h.ga⟩
end

/-- A call that leaves the world as it was, told the other way round. -/
theorem same_flip {P : Program} {f : FuncId} {args : Array Value} {w : World} {v : Value} (h : Calls P f args w fun e w' => e = .returned v ∧ w = w') : Calls P f args w fun e w' => e = .returned v ∧ w' = w := h.mono fun _ _ ⟨a, b⟩ => ⟨a, b.symm⟩

theorem hm_right {c : ConV} {n : Int} (h1 : 0 ≤ n ∧ n ≤ 8) (h2 : 0 ≤ c.said ∧ c.said < 1073741824) (h3 : 1 ≤ c.life ∧ c.life ≤ 536870912) (h4 : 0 ≤ c.known ∧ c.known ≤ 536870912) : rightM (c.hm n) = true := by
  rw [right_iff]
  refine ⟨⟨(by decide : (1 : Int) ≤ 1), (by decide : (1 : Int) ≤ 5)⟩, h3, h4, .inl ⟨rfl, ⟨?_, ?_⟩, h1, rfl, rfl, rfl, rfl, rfl, rfl⟩⟩
  · show 1 ≤ c.said + 1; omega
  · show c.said + 1 ≤ 1073741824; omega

/-- A message that is laid into a box of its own. -/
theorem alloc_m (V : World) (x : MsgV) : V.alloc (.cells #[.int .i64 x.kind, .int .i64 x.life, .int .i64 x.seen, .int .i64 x.xid, .int .i64 x.state, .int .u32 (x.addr : Int), .int .i64 x.bind, .string x.client, .int .i64 x.pot, .int .i64 x.at_, .bool x.ok] 34) = V.alloc (mbox x) := rfl

def awX : MsgV := ⟨1, 1, 0, 1, 0, 0, 0, ⟨#[]⟩, 0, 0, false⟩
def awY : MsgV := ⟨1, 1, 1, 1, 1, 0, 0, ⟨#[]⟩, 0, 0, false⟩
theorem aw1 : (newC 1).hello 0 = (⟨1, 0, 1, 0, 0, 0, false⟩, awX, 0) := rfl
theorem aw2 : (newC 1).take awX 1 = (⟨1, 1, 0, 1, 0, 1, false⟩, true, 0) := by
  rw [take_h rfl (show rightM awX = true from hm_right (c := newC 1) (n := 0) (by decide) (by decide) (by decide) (by decide)) rfl rfl]; rfl
theorem aw3 : (⟨1, 1, 0, 1, 0, 1, false⟩ : ConV).hello 1 = (⟨1, 1, 1, 1, 0, 1, false⟩, awY, 0) := rfl
theorem aw4 : (⟨1, 0, 1, 0, 0, 0, false⟩ : ConV).take awY 1 = (⟨1, 1, 1, 1, 1, 1, true⟩, true, 0) := by
  rw [take_h rfl (show rightM awY = true from hm_right (c := ⟨1, 1, 0, 1, 0, 1, false⟩) (n := 1) (by decide) (by decide) (by decide) (by decide)) rfl rfl]; rfl

set_option maxRecDepth 100000 in
set_option maxHeartbeats 2000000 in
theorem cawake_any (w : World) : Calls Try.prog 7 #[] w fun e w' => e = .returned (.bool true) ∧ Below w.heap.size w w' := by
  have HN := Lib.hid (fun W => pnew_ok 1 (by decide) (by decide) W)
  have H1 := Lib.hid (fun W g (h : PAt W g (newC 1)) => phello_any 0 (new_okC 1) h)
  have H2 := Lib.hid (fun W g (h : PAt W g (newC 1)) => ptake_any awX 1 (by decide) h)
  have H3 := Lib.hid (fun W g (h : PAt W g ⟨1, 1, 0, 1, 0, 1, false⟩) => phello_any 1 ⟨by decide, by decide, by decide, by decide⟩ h)
  have H4 := Lib.hid (fun W g (h : PAt W g ⟨1, 0, 1, 0, 0, 0, false⟩) => ptake_any awY 1 (by decide) h)
  rw [aw1] at H1
  rw [aw2] at H2
  rw [aw3] at H3
  rw [aw4] at H4
  obtain ⟨X, hX⟩ : ∃ X, X = awX := ⟨_, rfl⟩
  obtain ⟨Y, hY⟩ : ∃ Y, Y = awY := ⟨_, rfl⟩
  rw [← hX] at H1 H2
  rw [← hY] at H3 H4
  clear hX hY
  go_enter Try.func7, Try.ntmps7
  go_wp2_with fail
  refine (HN.out _).mono ?_
  rintro e w1 ⟨g, rfl, hp1, hb1, hg1⟩
  have HP1 := Lib.hid hp1
  have HB1 := Lib.hid hb1
  have HG1 := Lib.hid hg1
  clear hp1 hb1 hg1
  go_wp2_with fail
  refine (HN.out _).mono ?_
  rintro e w2 ⟨k, rfl, hp2, hb2, hg2⟩
  have HC2 : Hid (CarC w w2 g k (newC 1) (newC 1)) := Lib.hid ⟨CAt.later HP1.out hb2, hp2, by have := HP1.out.lt; omega, HB1.out.trans (hb2.mono HB1.out.size), HG1.out, Nat.le_trans HB1.out.size hg2⟩
  clear hp2 hb2 hg2
  go_wp2_with fail
  refine (H1.out _ _ HC2.out.pa).mono ?_
  rintro e w3 ⟨rfl, hp3, hw3⟩
  have HC3 := Lib.hid (HC2.out.fst hp3 hw3)
  clear hp3 hw3
  obtain ⟨w4, hw4⟩ : ∃ w4, w4 = w3.alloc (mbox X) := ⟨_, rfl⟩
  have hb4 : Below w3.heap.size w3 w4 := by rw [hw4]; exact (Below.refl _ _).alloc (Nat.le_refl _) _
  have HM4 : Hid (MBox w4 w3.heap.size X) := Lib.hid (by rw [hw4]; exact MBox.new w3 X)
  have HC4 := Lib.hid (HC3.out.later hb4)
  have HW4 := Lib.hid hw4
  clear hw4 hb4
  go_upto_region 6 with fail
  rw [alloc_m _ X, ← HW4.out]
  obtain ⟨m0, m1, m2, m3, m4, m5, m6, m7, m8, m9, m10⟩ := HM4.out.all
  go_wp2_with fail
  refine (H2.out _ _ HC4.out.pb).mono ?_
  rintro e w5 ⟨rfl, hp5, hw5⟩
  have HC5 := Lib.hid (HC4.out.snd hp5 hw5)
  clear hp5 hw5 m0 m1 m2 m3 m4 m5 m6 m7 m8 m9 m10
  go_wp2_with fail
  refine (H3.out _ _ HC5.out.pb).mono ?_
  rintro e w6 ⟨rfl, hp6, hw6⟩
  have HC6 := Lib.hid (HC5.out.snd hp6 hw6)
  clear hp6 hw6
  obtain ⟨w7, hw7⟩ : ∃ w7, w7 = w6.alloc (mbox Y) := ⟨_, rfl⟩
  have hb7 : Below w6.heap.size w6 w7 := by rw [hw7]; exact (Below.refl _ _).alloc (Nat.le_refl _) _
  have HM7 : Hid (MBox w7 w6.heap.size Y) := Lib.hid (by rw [hw7]; exact MBox.new w6 Y)
  have HC7 := Lib.hid (HC6.out.later hb7)
  have HW7 := Lib.hid hw7
  clear hw7 hb7
  go_upto_region 8 with fail
  rw [alloc_m _ Y, ← HW7.out]
  obtain ⟨m0, m1, m2, m3, m4, m5, m6, m7, m8, m9, m10⟩ := HM7.out.all
  go_wp2_with fail
  refine (H4.out _ _ HC7.out.pa).mono ?_
  rintro e w8 ⟨rfl, hp8, hw8⟩
  have HC8 := Lib.hid (HC7.out.fst hp8 hw8)
  clear hp8 hw8 m0 m1 m2 m3 m4 m5 m6 m7 m8 m9 m10
  go_wp2_with fail
  refine (pup_any HC8.out.pb).mono ?_
  rintro e w9 ⟨rfl, rfl⟩
  go_wp2_with fail
  refine (pup_any HC8.out.pa).mono ?_
  rintro e w9 ⟨rfl, rfl⟩
  go_wp2_with fail
  refine (pstate_any HC8.out.pa).mono ?_
  rintro e w9 ⟨rfl, rfl⟩
  go_wp2_with fail
  refine (pother_any HC8.out.pa).mono ?_
  rintro e w9 ⟨rfl, rfl⟩
  go_wp2
  go_ret
  exact ⟨rfl, HC8.out.low⟩
end Go.Proofs.Ytfikdocpcepmmaa
