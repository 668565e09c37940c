/- Both contacts side by side (CarP); steps and events as elements of slices; lessorlaw19.step. -/
import Derived.Test.YtfikdocpcepmmaaConW
import Derived.Test.YtfikdocpcepmmaaConF
import Derived.Lib.QuietBelow
import Derived.BigQuiet
namespace Go.Proofs.Ytfikdocpcepmmaa
open Go.RowKit Go.Sort

structure StpV where
  do_ : Int
  now : Int
  n : Int
  m : MsgV
abbrev StpV.cells (s : StpV) : Array Value := #[.int .i64 s.do_, .int .i64 s.now, .int .i64 s.n, .int .i64 s.m.kind, .int .i64 s.m.life, .int .i64 s.m.seen, .int .i64 s.m.xid, .int .i64 s.m.state, .int .u32 (s.m.addr : Int), .int .i64 s.m.bind, .string s.m.client, .int .i64 s.m.pot, .int .i64 s.m.at_, .bool s.m.ok]
abbrev StpV.v (s : StpV) : Value := .agg s.cells
abbrev sbox (s : StpV) : Obj := .cells s.cells 36
/-- Steps as elements of slices. -/
def ElemS : Elem Try.prog StpV where
  e := 36
  ty := 22
  m := 14
  bytes := 120
  zero := .agg #[.int .i64 0, .int .i64 0, .int .i64 0, .int .i64 0, .int .i64 0, .int .i64 0, .int .i64 0, .int .i64 0, .int .u32 0, .int .i64 0, .string ⟨#[]⟩, .int .i64 0, .int .i64 0, .bool false]
  cells := fun x => x.cells.toList
  hm := by decide
  hb0 := by decide
  hb := by decide
  len := fun _ => rfl
  one := fun v u hu => by
    simp at hu
    rcases hu with rfl | rfl | rfl | rfl | rfl | rfl | rfl | rfl | rfl | rfl | rfl | rfl | rfl | rfl <;> rfl
  und := Try.underlying22
  info := by kernel_rfl
  hz := rfl
/-- A step's cells from o on in block b. -/
def SAt (w : World) (b o : Nat) (s : StpV) : Prop := w.cell? ⟨b, o, none⟩ = some (.int .i64 s.do_) ∧ w.cell? ⟨b, o + 1, none⟩ = some (.int .i64 s.now) ∧ w.cell? ⟨b, o + 2, none⟩ = some (.int .i64 s.n) ∧ w.cell? ⟨b, o + 3, none⟩ = some (.int .i64 s.m.kind) ∧ w.cell? ⟨b, o + 4, none⟩ = some (.int .i64 s.m.life) ∧ w.cell? ⟨b, o + 5, none⟩ = some (.int .i64 s.m.seen) ∧ w.cell? ⟨b, o + 6, none⟩ = some (.int .i64 s.m.xid) ∧ w.cell? ⟨b, o + 7, none⟩ = some (.int .i64 s.m.state) ∧ w.cell? ⟨b, o + 8, none⟩ = some (.int .u32 (s.m.addr : Int)) ∧ w.cell? ⟨b, o + 9, none⟩ = some (.int .i64 s.m.bind) ∧ w.cell? ⟨b, o + 10, none⟩ = some (.string s.m.client) ∧ w.cell? ⟨b, o + 11, none⟩ = some (.int .i64 s.m.pot) ∧ w.cell? ⟨b, o + 12, none⟩ = some (.int .i64 s.m.at_) ∧ w.cell? ⟨b, o + 13, none⟩ = some (.bool s.m.ok)
theorem El.at14 {w : World} {B : Nat} {A : Option Addr} {l : List StpV} (h : El ElemS w B A l) (i : Nat) (x : StpV) (hx : l[i]? = some x) : ∃ b o, A = some ⟨b, o, none⟩ ∧ b < B ∧ SAt w b (o + i * 14) x := by
  obtain ⟨b, o, h1, h2, h3⟩ := h.at_ i x hx
  exact ⟨b, o, h1, h2, h3 0 _ rfl, h3 1 _ rfl, h3 2 _ rfl, h3 3 _ rfl, h3 4 _ rfl, h3 5 _ rfl, h3 6 _ rfl, h3 7 _ rfl, h3 8 _ rfl, h3 9 _ rfl, h3 10 _ rfl, h3 11 _ rfl, h3 12 _ rfl, h3 13 _ rfl⟩
abbrev SBox (w : World) (g : Nat) (s : StpV) : Prop := CAt 36 w g s.cells
theorem SBox.sat {w : World} {g : Nat} {s : StpV} (h : SBox w g s) : w.cell? ⟨g, 0, none⟩ = some (.int .i64 s.do_) ∧ w.cell? ⟨g, 1, none⟩ = some (.int .i64 s.now) ∧ w.cell? ⟨g, 2, none⟩ = some (.int .i64 s.n) ∧ w.cell? ⟨g, 3, none⟩ = some (.int .i64 s.m.kind) ∧ w.cell? ⟨g, 4, none⟩ = some (.int .i64 s.m.life) ∧ w.cell? ⟨g, 5, none⟩ = some (.int .i64 s.m.seen) ∧ w.cell? ⟨g, 6, none⟩ = some (.int .i64 s.m.xid) ∧ w.cell? ⟨g, 7, none⟩ = some (.int .i64 s.m.state) ∧ w.cell? ⟨g, 8, none⟩ = some (.int .u32 (s.m.addr : Int)) ∧ w.cell? ⟨g, 9, none⟩ = some (.int .i64 s.m.bind) ∧ w.cell? ⟨g, 10, none⟩ = some (.string s.m.client) ∧ w.cell? ⟨g, 11, none⟩ = some (.int .i64 s.m.pot) ∧ w.cell? ⟨g, 12, none⟩ = some (.int .i64 s.m.at_) ∧ w.cell? ⟨g, 13, none⟩ = some (.bool s.m.ok) := ⟨CAt.at_ h 0, CAt.at_ h 1, CAt.at_ h 2, CAt.at_ h 3, CAt.at_ h 4, CAt.at_ h 5, CAt.at_ h 6, CAt.at_ h 7, CAt.at_ h 8, CAt.at_ h 9, CAt.at_ h 10, CAt.at_ h 11, CAt.at_ h 12, CAt.at_ h 13⟩

/-- An event: what is done, by whom, and a number. -/
structure EvtV where
  do_ : Int
  who : Int
  n : Int
def ElemV : Elem Try.prog EvtV where
  e := 49
  ty := 42
  m := 3
  bytes := 24
  zero := .agg #[.int .i64 0, .int .i64 0, .int .i64 0]
  cells := fun x => [.int .i64 x.do_, .int .i64 x.who, .int .i64 x.n]
  hm := by decide
  hb0 := by decide
  hb := by decide
  len := fun _ => rfl
  one := fun v u hu => by
    simp at hu
    rcases hu with rfl | rfl | rfl <;> rfl
  und := Try.underlying42
  info := by kernel_rfl
  hz := rfl
def EAt (w : World) (b o : Nat) (s : EvtV) : Prop := w.cell? ⟨b, o, none⟩ = some (.int .i64 s.do_) ∧ w.cell? ⟨b, o + 1, none⟩ = some (.int .i64 s.who) ∧ w.cell? ⟨b, o + 2, none⟩ = some (.int .i64 s.n)
theorem El.atE {w : World} {B : Nat} {A : Option Addr} {l : List EvtV} (h : El ElemV w B A l) (i : Nat) (x : EvtV) (hx : l[i]? = some x) : ∃ b o, A = some ⟨b, o, none⟩ ∧ b < B ∧ EAt w b (o + i * 3) x := by
  obtain ⟨b, o, h1, h2, h3⟩ := h.at_ i x hx
  exact ⟨b, o, h1, h2, h3 0 _ rfl, h3 1 _ rfl, h3 2 _ rfl⟩

/-- The program's contact and the document's, made since w0. -/
structure CarP (w0 w : World) (g r : Nat) (a b : ConV) : Prop where
  p : PAt w g a
  d : RAt w r b
  low : Below w0.heap.size w0 w
  ga : w0.heap.size ≤ g
  gb : w0.heap.size ≤ r
section
variable {w0 w w' : World} {g r : Nat} {a b a' b' : ConV}
theorem CarP.later (h : CarP w0 w g r a b) (hb : Below w.heap.size w w') : CarP w0 w' g r a b := ⟨CAt.later h.p hb, CAt.later h.d hb, h.low.trans (hb.mono h.low.size), h.ga, h.gb⟩
theorem CarP.fst (h : CarP w0 w g r a b) (h1 : PAt w' g a') (hw : Way (One g) w (One g) w') : CarP w0 w' g r a' b := ⟨h1, CAt.way h.d hw (fun e => ne_pr h.p h.d e.symm), h.low.trans (hw.one_below h.low.size h.ga), h.ga, h.gb⟩
theorem CarP.snd (h : CarP w0 w g r a b) (h1 : RAt w' r b') (hw : Way (One r) w (One r) w') : CarP w0 w' g r a b' := ⟨CAt.way h.p hw (ne_pr h.p h.d), h1, h.low.trans (hw.one_below h.low.size h.gb), h.ga, h.gb⟩
theorem SBox.ne_p {s : StpV} {x : Nat} (h : SBox w x s) (hp : PAt w g a) : ¬ One g x := fun e => CAt.ne h hp (by decide) e
theorem SBox.ne_r {s : StpV} {x : Nat} (h : SBox w x s) (hp : RAt w r a) : ¬ One r x := fun e => CAt.ne h hp (by decide) e
theorem MBox.ne_p {m : MsgV} {x : Nat} (h : MBox w x m) (hp : PAt w g a) : ¬ One g x := fun e => ne_pm hp h e.symm
theorem MBox.ne_r {m : MsgV} {x : Nat} (h : MBox w x m) (hp : RAt w r a) : ¬ One r x := fun e => ne_rm hp h e.symm
end
def stepC (c : ConV) (s : StpV) : ConV := if s.do_ = 0 then (c.take s.m s.now).1 else if s.do_ = 1 then (c.tick s.now).1 else if s.do_ = 2 then (c.hello s.n).1 else c
theorem step_okC {c : ConV} (h : c.Ok) (s : StpV) : (stepC c s).Ok := by
  unfold stepC
  split
  · exact take_okC h _ _
  · split
    · exact tick_okC h _
    · split
      · exact hello_okC h _
      · exact h

attribute [local go_sem ↓] run_eqlC run_neqC run_guardC
set_option maxRecDepth 100000 in
set_option maxHeartbeats 4000000 in
theorem cstep_any {w0 w : World} {g r : Nat} {c : ConV} (s : StpV) (hs : s.m.addr < 4294967296) (hok : c.Ok) (C : CarP w0 w g r c c) :
    Calls Try.prog 10 #[ptrV g, ptrV r, s.v] w fun e w' => e = .returned (.bool true) ∧ CarP w0 w' g r (stepC c s) (stepC c s) := by
  obtain ⟨w1, hw1⟩ : ∃ w1, w1 = w.alloc (sbox s) := ⟨_, rfl⟩
  have hb1 : Below w.heap.size w w1 := by rw [hw1]; exact (Below.refl _ _).alloc (Nat.le_refl _) _
  have HS1 := Lib.hid (show SBox w1 w.heap.size s by rw [hw1]; exact CAt.new w _ _)
  have HC1 := Lib.hid (C.later hb1)
  have H32 := Lib.hid hs
  have HOK := Lib.hid hok
  have HW1 := Lib.hid hw1
  clear hs C hb1 hw1 hok
  obtain ⟨a0, a1, a2, a3, a4, a5, a6, a7, a8, a9, a10, a11, a12, a13⟩ := SBox.sat HS1.out
  go_enter Try.func10, Try.ntmps10
  go_upto_region 1 with fail
  rw [show ∀ V : World, V.alloc (.cells #[.int .i64 s.do_, .int .i64 s.now, .int .i64 s.n, .int .i64 s.m.kind, .int .i64 s.m.life, .int .i64 s.m.seen, .int .i64 s.m.xid, .int .i64 s.m.state, .int .u32 (s.m.addr : Int), .int .i64 s.m.bind, .string s.m.client, .int .i64 s.m.pot, .int .i64 s.m.at_, .bool s.m.ok] 36) = V.alloc (sbox s) from fun _ => rfl, ← HW1.out]
  by_cases h0 : s.do_ = 0
  · have t0 : (s.do_ == 0) = true := by rw [h0]; rfl
    obtain ⟨T, hT⟩ : ∃ T, T = c.take s.m s.now := ⟨_, rfl⟩
    have HR : Hid (stepC c s = T.1) := Lib.hid (by unfold stepC; rw [if_pos h0, hT])
    have HA1 := Lib.hid (ptake_any s.m s.now H32.out HC1.out.p)
    have HA2 := Lib.hid (fun V (h : RAt V r c) => rtake_any s.m s.now h)
    rw [← hT] at HA1 HA2
    have e1 : (T.2.1 == T.2.1) = true := by simp
    have e2 : (T.2.2 == T.2.2) = true := by simp
    clear h0 hT
    go_wp2_with fail
    refine HA1.out.mono ?_
    rintro e w2 ⟨rfl, hp2, hw2⟩
    have HC2 := Lib.hid (HC1.out.fst hp2 hw2)
    have HS2 := Lib.hid (HS1.out.way hw2 (SBox.ne_p HS1.out HC1.out.p))
    clear hp2 hw2 a0 a1 a2 a3 a4 a5 a6 a7 a8 a9 a10 a11 a12 a13
    obtain ⟨a0, a1, a2, a3, a4, a5, a6, a7, a8, a9, a10, a11, a12, a13⟩ := SBox.sat HS2.out
    go_wp2_with fail
    refine (HA2.out _ HC2.out.d).mono ?_
    rintro e w3 ⟨rfl, hp3, hw3⟩
    have HC3 := Lib.hid (HC2.out.snd hp3 hw3)
    clear hp3 hw3 a0 a1 a2 a3 a4 a5 a6 a7 a8 a9 a10 a11 a12 a13
    go_wp2
    go_ret
    rw [HR.out]
    exact ⟨rfl, HC3.out⟩
  have t0 : (s.do_ == 0) = false := by simpa using h0
  by_cases h1 : s.do_ = 1
  · have t1 : (s.do_ == 1) = true := by rw [h1]; rfl
    obtain ⟨T, hT⟩ : ∃ T, T = c.tick s.now := ⟨_, rfl⟩
    have HR : Hid (stepC c s = T.1) := Lib.hid (by unfold stepC; rw [if_neg h0, if_pos h1, hT])
    have HA1 := Lib.hid (ptick_any s.now HOK.out HC1.out.p)
    have HA2 := Lib.hid (fun V (h : RAt V r c) => rtick_any s.now HOK.out h)
    rw [← hT] at HA1 HA2
    have e1 : (T.2.1 == T.2.1) = true := by simp
    have e2 : (T.2.2 == T.2.2) = true := by simp
    clear h0 h1 hT
    go_wp2_with fail
    refine HA1.out.mono ?_
    rintro e w2 ⟨rfl, hp2, hw2⟩
    have HC2 := Lib.hid (HC1.out.fst hp2 hw2)
    have HS2 := Lib.hid (HS1.out.way hw2 (SBox.ne_p HS1.out HC1.out.p))
    clear hp2 hw2 a0 a1 a2 a3 a4 a5 a6 a7 a8 a9 a10 a11 a12 a13
    obtain ⟨a0, a1, a2, a3, a4, a5, a6, a7, a8, a9, a10, a11, a12, a13⟩ := SBox.sat HS2.out
    go_wp2_with fail
    refine (HA2.out _ HC2.out.d).mono ?_
    rintro e w3 ⟨rfl, hp3, hw3⟩
    have HC3 := Lib.hid (HC2.out.snd hp3 hw3)
    clear hp3 hw3 a0 a1 a2 a3 a4 a5 a6 a7 a8 a9 a10 a11 a12 a13
    go_wp2
    go_ret
    rw [HR.out]
    exact ⟨rfl, HC3.out⟩
  have t1 : (s.do_ == 1) = false := by simpa using h1
  by_cases h2 : s.do_ = 2
  · have t2 : (s.do_ == 2) = true := by rw [h2]; rfl
    obtain ⟨T, hT⟩ : ∃ T, T = c.hello s.n := ⟨_, rfl⟩
    have HR : Hid (stepC c s = T.1) := Lib.hid (by unfold stepC; rw [if_neg h0, if_neg h1, if_pos h2, hT])
    have HA1 := Lib.hid (phello_any s.n HOK.out HC1.out.p)
    have HA2 := Lib.hid (fun V (h : RAt V r c) => rhello_any s.n HOK.out h)
    rw [← hT] at HA1 HA2
    obtain ⟨c', m, k⟩ := T
    have HR : Hid (stepC c s = c') := HR
    have HA1 : Hid (Calls Try.prog 14 #[ptrV g, .int .i64 s.n] w1 fun e w' => e = .returned (.tuple #[m.v, .int .i64 k]) ∧ PAt w' g c' ∧ Way (One g) w1 (One g) w') := HA1
    have HA2 : Hid (∀ V, RAt V r c → Calls Try.prog 18 #[ptrV r, .int .i64 s.n] V fun e w' => e = .returned (.tuple #[m.v, .int .i64 k]) ∧ RAt w' r c' ∧ Way (One r) V (One r) w') := HA2
    have hself : eqB m.kind m.life m.seen m.xid m.state (m.addr : Int) m.bind m.client m.pot m.at_ m.ok m.kind m.life m.seen m.xid m.state (m.addr : Int) m.bind m.client m.pot m.at_ m.ok = true := by rw [eqB_of]; simp
    have e2 : (k == k) = true := by simp
    clear h0 h1 h2 hT
    go_wp2_with fail
    refine HA1.out.mono ?_
    rintro e w2 ⟨rfl, hp2, hw2⟩
    have HC2 := Lib.hid (HC1.out.fst hp2 hw2)
    have HS2 := Lib.hid (HS1.out.way hw2 (SBox.ne_p HS1.out HC1.out.p))
    clear hp2 hw2 a0 a1 a2 a3 a4 a5 a6 a7 a8 a9 a10 a11 a12 a13
    obtain ⟨w3, hw3⟩ : ∃ w3, w3 = w2.alloc (mbox m) := ⟨_, rfl⟩
    have hb3 : Below w2.heap.size w2 w3 := by rw [hw3]; exact (Below.refl _ _).alloc (Nat.le_refl _) _
    have HM3 := Lib.hid (show MBox w3 w2.heap.size m by rw [hw3]; exact MBox.new w2 m)
    have HC3 := Lib.hid (HC2.out.later hb3)
    have HS3 := Lib.hid (HS2.out.later hb3)
    have HW3 := Lib.hid hw3
    clear hw3 hb3
    obtain ⟨a0, a1, a2, a3, a4, a5, a6, a7, a8, a9, a10, a11, a12, a13⟩ := SBox.sat HS3.out
    go_upto_region 12 with fail
    rw [alloc_m _ m, ← HW3.out]
    go_wp2_with fail
    refine (HA2.out _ HC3.out.d).mono ?_
    rintro e w4 ⟨rfl, hp4, hw4⟩
    have HC4 := Lib.hid (HC3.out.snd hp4 hw4)
    have HM4 := Lib.hid (HM3.out.way' hw4 (MBox.ne_r HM3.out HC3.out.d))
    clear hp4 hw4 a0 a1 a2 a3 a4 a5 a6 a7 a8 a9 a10 a11 a12 a13
    obtain ⟨w5, hw5⟩ : ∃ w5, w5 = w4.alloc (mbox m) := ⟨_, rfl⟩
    have hb5 : Below w4.heap.size w4 w5 := by rw [hw5]; exact (Below.refl _ _).alloc (Nat.le_refl _) _
    have HM5 := Lib.hid (show MBox w5 w4.heap.size m by rw [hw5]; exact MBox.new w4 m)
    have HM5b := Lib.hid (HM4.out.later hb5)
    have HC5 := Lib.hid (HC4.out.later hb5)
    have HW5 := Lib.hid hw5
    clear hw5 hb5
    go_upto_region 13 with fail
    rw [alloc_m _ m, ← HW5.out]
    obtain ⟨b0, b1, b2, b3, b4, b5, b6, b7, b8, b9, b10⟩ := HM5.out.all
    obtain ⟨d0, d1, d2, d3, d4, d5, d6, d7, d8, d9, d10⟩ := HM5b.out.all
    go_wp2
    go_ret
    rw [HR.out]
    exact ⟨rfl, HC5.out⟩
  have t2 : (s.do_ == 2) = false := by simpa using h2
  have HR : Hid (stepC c s = c) := Lib.hid (by unfold stepC; rw [if_neg h0, if_neg h1, if_neg h2])
  obtain ⟨m, hm⟩ : ∃ m, m = c.mark s.m := ⟨_, rfl⟩
  have HA1 := Lib.hid (pmark_any s.m HC1.out.p)
  have HA2 := Lib.hid (fun V (h : RAt V r c) => rmark_any s.m h)
  rw [← hm] at HA1 HA2
  have hself : eqB m.kind m.life m.seen m.xid m.state (m.addr : Int) m.bind m.client m.pot m.at_ m.ok m.kind m.life m.seen m.xid m.state (m.addr : Int) m.bind m.client m.pot m.at_ m.ok = true := by rw [eqB_of]; simp
  clear h0 h1 h2 hm
  go_wp2_with fail
  refine HA1.out.mono ?_
  rintro e w2 ⟨rfl, hb2⟩
  have HC2 := Lib.hid (HC1.out.later hb2)
  have HS2 := Lib.hid (HS1.out.later hb2)
  clear hb2 a0 a1 a2 a3 a4 a5 a6 a7 a8 a9 a10 a11 a12 a13
  obtain ⟨w3, hw3⟩ : ∃ w3, w3 = w2.alloc (mbox m) := ⟨_, rfl⟩
  have hb3 : Below w2.heap.size w2 w3 := by rw [hw3]; exact (Below.refl _ _).alloc (Nat.le_refl _) _
  have HM3 := Lib.hid (show MBox w3 w2.heap.size m by rw [hw3]; exact MBox.new w2 m)
  have HC3 := Lib.hid (HC2.out.later hb3)
  have HS3 := Lib.hid (HS2.out.later hb3)
  have HW3 := Lib.hid hw3
  clear hw3 hb3
  go_upto_region 15 with fail
  rw [alloc_m _ m, ← HW3.out]
  have CR := Lib.hid (fun d os => Calls.regrown_of (HA2.out _ (HC3.out.later (below_regrown _ d os)).d))
  obtain ⟨-, -, -, y3, y4, y5, y6, y7, y8, y9, y10, y11, y12, y13⟩ := SBox.sat HS3.out
  have a3 := cell_regrown y3
  have a4 := cell_regrown y4
  have a5 := cell_regrown y5
  have a6 := cell_regrown y6
  have a7 := cell_regrown y7
  have a8 := cell_regrown y8
  have a9 := cell_regrown y9
  have a10 := cell_regrown y10
  have a11 := cell_regrown y11
  have a12 := cell_regrown y12
  have a13 := cell_regrown y13
  obtain ⟨k0, k1, k2, k3, k4, k5, k6, k7, k8, k9, k10⟩ := HM3.out.allR
  clear y3 y4 y5 y6 y7 y8 y9 y10 y11 y12 y13
  refine wp_region_quiet_below (by kernel_rfl) (by kernel_rfl) ?_
  repeat (quiet_step ((go_at_call 21; exact CR.out _ _)))
  refine wpQuiet_nil ?_
  intro _ hw'
  obtain ⟨⟨dq, osq⟩, hw''⟩ := hw'
  subst hw''
  go_wp2
  go_ret
  rw [HR.out]
  exact ⟨rfl, HC3.out.later (below_regrown w3 dq osq)⟩
end Go.Proofs.Ytfikdocpcepmmaa
