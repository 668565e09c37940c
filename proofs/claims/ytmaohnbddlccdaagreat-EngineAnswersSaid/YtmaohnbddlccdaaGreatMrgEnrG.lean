/- Joined texts: EnrG, EnrH. -/
import Derived.Test.YtmaohnbddlccdaaGreatMrgEnrA
import Derived.Test.YtmaohnbddlccdaaGreatMrgEnrE
import Derived.Test.YtmaohnbddlccdaaGreatMrgEnrD
import Derived.Test.YtmaohnbddlccdaaGreatMrgEnrB

/- engine, the document's: offer. -/
section
namespace Go.Proofs.YtmaohnbddlccdaaGreat
open Go.RowKit Go.Sort

/-- What the document's functions are called with: a site, a packet. -/
structure RIn (w : World) (x : SiteV) (p : NO.PktV) : Prop where
  pk : NO.Pk w w.heap.size p
  hw : p.hw.length ≤ 1000
  len : p.L.length ≤ 1000
  dat : ∀ y ∈ p.L, y.data.length ≤ 1000
  sv : x.server < 4294967296
  ci : p.ci < 4294967296
theorem RIn.later {w w' : World} {x : SiteV} {p : NO.PktV} (h : RIn w x p) (hb : Below w.heap.size w w') : RIn w' x p := ⟨h.pk.later hb, h.hw, h.len, h.dat, h.sv, h.ci⟩
/-- Their boxes, and the answer's. -/
structure RBx (w w' : World) (x : SiteV) (p : NO.PktV) : Prop where
  hx : SBox w' w.heap.size x
  hp : NO.PBox w' (w.heap.size + 1) p
  hz : Bx w' (w.heap.size + 1 + 1) 44 zeroA.cells
  low : Below w.heap.size w w'
theorem RBx.later {w w' w2 : World} {x : SiteV} {p : NO.PktV} (h : RBx w w' x p) (hb : Below w'.heap.size w' w2) : RBx w w2 x p :=
  ⟨h.hx.later hb, h.hp.later hb, h.hz.later hb, h.low.trans (hb.mono h.low.size)⟩
theorem RBx.start (w : World) (x : SiteV) (p : NO.PktV) : RBx w (((w.alloc (.cells x.cells 27)).alloc (NO.pbox p)).alloc (.cells #[.bool false, .int .i64 0, .int .u32 0, .int .i64 0, .int .i64 0, .int .u32 0, .int .u32 0, .int .u32 0, .int .u32 0, .slice none 0 0, .slice none 0 0, .bool false, .int .u32 0, .int .i64 0, .string ⟨#[]⟩, .int .i64 0, .int .i64 0, .int .i64 0, .int .i64 0, .int .i64 0, .int .i64 0] 44)) x p := by
  have hs : (w.alloc (.cells x.cells 27)).heap.size = w.heap.size + 1 := by simp
  have hs2 : ((w.alloc (.cells x.cells 27)).alloc (NO.pbox p)).heap.size = w.heap.size + 1 + 1 := by simp
  refine ⟨((Bx.new _ _ _).alloc _).alloc _, ?_, ?_, (((Below.refl _ _).alloc (Nat.le_refl _) _).alloc (by simp) _).alloc (by simp; omega) _⟩
  · rw [← hs]; exact (Bx.new (w.alloc (.cells x.cells 27)) 32 p.cells).alloc _
  · rw [← hs2]; exact Bx.new ((w.alloc (.cells x.cells 27)).alloc (NO.pbox p)) 44 zeroA.cells
theorem RBx.end_ {w W : World} {x : SiteV} {p : NO.PktV} (h : RBx w W x p) {X : AnsV} (a : AnW) {fn : Func} {q : Tmp} {tmps : Array Value} (hf : fn.results = #[.cell q 44]) (hq : tmps.getD q undef = .pointer (some ⟨w.heap.size + 1 + 1, 0, none⟩)) (hX : a.abs = X) (hk : PkS w.heap.size (W.setRow (w.heap.size + 1 + 1) a.cells) a.p) :
    bodyPost Tryz.prog fn (GivesA w X) .ret { tmps := tmps, defers := [] } (W.setRow (w.heap.size + 1 + 1) a.cells) :=
  ans_end (a := a) hf hq (h.hz.set a.cells) hX hk (h.low.trans (below_setRow _ _ a.cells (by omega)))

set_option maxRecDepth 100000 in
set_option maxHeartbeats 8000000 in
theorem roffer_any (x : SiteV) (p : NO.PktV) (s now entry : Int) {wb w : World} {g : Nat} {v : Value} {L : List LV} (h : RTb wb w g v L) (hL : L.length ≤ 1000) (hi : RIn w x p) :
    Calls Tryz.prog 45 #[x.v, ptE g, .int .i64 s, .int .i64 now, .int .i64 entry, p.v] w (GivesA w (offerE x L s now entry p.abs)) := by
  obtain ⟨w0, hw0⟩ : ∃ w0, w0 = (((w.alloc (.cells x.cells 27)).alloc (NO.pbox p)).alloc (.cells #[.bool false, .int .i64 0, .int .u32 0, .int .i64 0, .int .i64 0, .int .u32 0, .int .u32 0, .int .u32 0, .int .u32 0, .slice none 0 0, .slice none 0 0, .bool false, .int .u32 0, .int .i64 0, .string ⟨#[]⟩, .int .i64 0, .int .i64 0, .int .i64 0, .int .i64 0, .int .i64 0, .int .i64 0] 44)) := ⟨_, rfl⟩
  have HX : Hid (RBx w w0 x p) := Lib.hid (by rw [hw0]; exact RBx.start w x p)
  have HI := Lib.hid (hi.later HX.out.low)
  have HT := Lib.hid (h.later HX.out.low)
  have HW0 := Lib.hid hw0
  have HCL := Lib.hid (fun V (h : RIn V x p) => NO.rclient_any p V h.pk h.len h.dat)
  have HAS := Lib.hid (fun V (h : RIn V x p) => rask_any x p V h.pk h.len h.dat)
  have hcl : (NO.clientA p.abs).length ≤ 1000 := by
    unfold NO.clientA
    split
    · exact hi.hw
    · exact NO.fd_len p hi.dat 61
  have HMI := Lib.hid (fun V => rmine_any x (NO.clientA p.abs) V hcl)
  have HPI := Lib.hid (fun V (h : RTb wb V g v L) => rpick_any x s now entry (NO.clientA p.abs) (NO.askA p.abs) h hL)
  have HLO := Lib.hid (fun m V => (show Calls Tryz.prog 87 #[x.v, m.v, .string ⟨(NO.clientA p.abs).toArray⟩, .int .i64 now, .int .i64 (wantE x p.abs)] V fun e w' => e = .returned (.int .i64 (longE x p.abs now m)) ∧ Below V.heap.size V w' from rtime_any x m (NO.clientA p.abs) now (wantE x p.abs) V))
  have HRE := Lib.hid (fun V (h : RIn V x p) => rreply_any x p 2 V h.pk h.hw h.sv (by decide))
  obtain ⟨X, hX⟩ : ∃ X, X = offerE x L s now entry p.abs := ⟨_, rfl⟩
  rw [← hX]
  unfold offerE at hX
  have HXX := Lib.hid hX
  generalize NO.clientA p.abs = cl at *
  generalize mineE x cl = mi at *
  generalize wantE x p.abs = wt at *
  clear hw0 h hi hX hL hcl
  obtain ⟨p0, p1, p2, p3, p4, p5, p6, p7, p8, p9⟩ := NO.PBox.all HX.out.hp
  go_enter Tryz.func45, Tryz.ntmps45
  go_upto_region 1 with fail
  rw [← HW0.out]
  go_wp2_with fail
  refine (HCL.out w0 HI.out).mono ?_
  rintro e w1 ⟨rfl, hb1⟩
  have HX1 := Lib.hid (HX.out.later hb1)
  have HI1 := Lib.hid (HI.out.later hb1)
  have HT1 := Lib.hid (HT.out.later hb1)
  clear hb1 p0 p1 p2 p3 p4 p5 p6 p7 p8 p9 HX HI HT HW0 HCL
  go_upto_region 2 with fail
  go_cut [28] (fun s28 wx => s28 = .bool (s == 1 && !mi) ∧ Below w1.heap.size w1 wx)
  case first =>
    by_cases hs : s = 1
    · have t1 : (s == 1) = true := by simp [hs]
      have HS1 := Lib.hid t1
      clear hs
      obtain ⟨x0, x1, x2, x3, x4, x5, x6, x7, x8, x9, x10, x11, x12⟩ := SBox.all HX1.out.hx
      go_wp2_with fail
      refine (HMI.out w1).mono ?_
      rintro e w2 ⟨rfl, hb2⟩
      have HB2 := Lib.hid hb2
      clear hb2 x0 x1 x2 x3 x4 x5 x6 x7 x8 x9 x10 x11 x12
      go_wp2
      go_meet
      exact ⟨by rw [HS1.out]; simp, HB2.out⟩
    · have t1 : (s == 1) = false := by simpa using hs
      have HS1 := Lib.hid t1
      clear hs
      go_wp2
      go_meet
      exact ⟨by rw [HS1.out]; rfl, Below.refl _ _⟩
  case rest =>
    obtain ⟨rfl, hb2⟩ := hcut
    have HX2 := Lib.hid (HX1.out.later hb2)
    have HI2 := Lib.hid (HI1.out.later hb2)
    have HT2 := Lib.hid (HT1.out.later hb2)
    clear hb2 HX1 HI1 HT1 HMI
    have HXC : Hid (X = if (s == 1 && !mi) = true then noA else match pickE cl (mayE x s now entry) L (NO.askA p.abs) with | none => noA | some m => if longE x p.abs now m < 1 then noA else sentA (promE x p.abs 2 m.addr (longE x p.abs now m))) := Lib.hid (by
      rw [HXX.out]
      have e : ((s == 1 && !mi) = true) = (s = 1 ∧ mi = false) := by simp
      simp only [e]
      rfl)
    clear HXX
    generalize (s == 1 && !mi) = bad at *
    cases bad
    rotate_left
    · rw [if_pos rfl] at HXC
      go_wp2_with (first | (refine wp_storeR rowA rfl _ _ rfl (w.heap.size + 1 + 1) _ rfl rfl HX2.out.hz rfl rfl rfl ?_))
      exact HX2.out.end_ zeroA rfl rfl (by rw [HXC.out]; rfl) (zeroP_pks _ _)
    rw [if_neg (by decide)] at HXC
    obtain ⟨x0, x1, x2, x3, x4, x5, x6, x7, x8, x9, x10, x11, x12⟩ := SBox.all HX2.out.hx
    obtain ⟨p0, p1, p2, p3, p4, p5, p6, p7, p8, p9⟩ := NO.PBox.all HX2.out.hp
    go_wp2_with fail
    refine (HAS.out wc HI2.out).mono ?_
    rintro e w3 ⟨rfl, hb3⟩
    have HX3 := Lib.hid (HX2.out.later hb3)
    have HI3 := Lib.hid (HI2.out.later hb3)
    have HT3 := Lib.hid (HT2.out.later hb3)
    clear hb3 HX2 HI2 HT2 HAS x0 x1 x2 x3 x4 x5 x6 x7 x8 x9 x10 x11 x12 p0 p1 p2 p3 p4 p5 p6 p7 p8 p9
    obtain ⟨x0, x1, x2, x3, x4, x5, x6, x7, x8, x9, x10, x11, x12⟩ := SBox.all HX3.out.hx
    generalize pickE cl (mayE x s now entry) L (NO.askA p.abs) = r at *
    go_wp2_with fail
    refine (HPI.out w3 HT3.out).mono ?_
    rintro e w4 ⟨rfl, hb4⟩
    obtain ⟨m, hm⟩ : ∃ m, m = r.getD zeroL := ⟨_, rfl⟩
    rw [← hm]
    have hal : Below w4.heap.size w4 (w4.alloc (lbox m)) := (Below.refl _ _).alloc (Nat.le_refl _) _
    obtain ⟨w5, hw5⟩ : ∃ w5, w5 = w4.alloc (lbox m) := ⟨_, rfl⟩
    obtain ⟨gl, hgl⟩ : ∃ gl, gl = w4.heap.size := ⟨_, rfl⟩
    rw [← hw5] at hal
    have HX5 := Lib.hid (HX3.out.later (hb4.trans (hal.mono hb4.size)))
    have HI5 := Lib.hid (HI3.out.later (hb4.trans (hal.mono hb4.size)))
    have HL5 : Hid (LBox w5 gl m) := Lib.hid (by rw [hw5, hgl]; exact LBox.new w4 m)
    have HW5 := Lib.hid hw5
    have HGL := Lib.hid hgl
    have HM := Lib.hid hm
    have HGT : Hid (w.heap.size + 1 + 1 < gl) := Lib.hid (by rw [hgl]; exact Nat.lt_of_lt_of_le HX3.out.hz.lt hb4.size)
    clear hb4 hal hw5 hgl hm HX3 HI3 HT3 HPI x0 x1 x2 x3 x4 x5 x6 x7 x8 x9 x10 x11 x12
    go_upto_region 6 with fail
    rw [← HW5.out, ← HGL.out]
    obtain ⟨x0, x1, x2, x3, x4, x5, x6, x7, x8, x9, x10, x11, x12⟩ := SBox.all HX5.out.hx
    obtain ⟨l0, l1, l2, l3, l4, l5, l6, l7⟩ := HL5.out.all
    have HLM := Lib.hid (HLO.out m w5)
    go_wp2_with fail
    refine HLM.out.mono ?_
    rintro e w6 ⟨rfl, hb6⟩
    have HX6 := Lib.hid (HX5.out.later hb6)
    have HI6 := Lib.hid (HI5.out.later hb6)
    have HL6 := Lib.hid (HL5.out.later hb6)
    clear hb6 HX5 HI5 HL5 HLO HLM HW5 HGL x0 x1 x2 x3 x4 x5 x6 x7 x8 x9 x10 x11 x12 l0 l1 l2 l3 l4 l5 l6 l7
    cases r with
    | none =>
      have HXN : Hid (X = noA) := Lib.hid HXC.out
      go_wp2_with (first | (refine wp_storeR rowA rfl _ _ rfl (w.heap.size + 1 + 1) _ rfl rfl HX6.out.hz rfl rfl rfl ?_))
      exact HX6.out.end_ zeroA rfl rfl (by rw [HXN.out]; rfl) (zeroP_pks _ _)
    | some m2 =>
      have hm2 : m = m2 := HM.out
      subst hm2
      have HXN : Hid (X = if longE x p.abs now m < 1 then noA else sentA (promE x p.abs 2 m.addr (longE x p.abs now m))) := Lib.hid HXC.out
      have hle : longE x p.abs now m ≤ 4294967295 := by unfold longE longT; omega
      clear HXC HM
      generalize longE x p.abs now m = n at *
      by_cases hn : n < 1
      · rw [if_pos hn] at HXN
        have t2 : decide (n < 1) = true := by simp [hn]
        clear hn
        go_wp2_with (first | (refine wp_storeR rowA rfl _ _ rfl (w.heap.size + 1 + 1) _ rfl rfl HX6.out.hz rfl rfl rfl ?_))
        exact HX6.out.end_ zeroA rfl rfl (by rw [HXN.out]; rfl) (zeroP_pks _ _)
      · rw [if_neg hn] at HXN
        have t2 : decide (n < 1) = false := by simpa using hn
        clear hn
        go_upto_region 9 with fail
        refine wp_region_held_drew (S := fun W => SBox W w.heap.size x ∧ NO.PBox W (w.heap.size + 1) p ∧ LBox W gl m) (by kernel_rfl) ?hS1 (fun hHeld => ?_)
        case hS1 => exact ⟨HX6.out.hx.drew, HX6.out.hp, HL6.out.drew⟩
        refine wpAnyH_take (i := 0) (oi := { dst := some 60, op := Op.load 27 (Operand.tmp 6), type := 27, pos := "ref.go:126", after := #[], guard := none }) (v := x.v) rfl (by kernel_rfl) (by kernel_rfl) (by kernel_rfl) (fun _ _ _ h => h) (Or.inl ⟨by rfl, ?hg1⟩) (by assumption) ?_
        case hg1 => (intro W hSw; obtain ⟨z0, z1, z2, z3, z4, z5, z6, z7, z8, z9, z10, z11, z12⟩ := SBox.all hSw.1; obtain ⟨y0, y1, y2, y3, y4, y5, y6, y7, y8, y9⟩ := NO.PBox.all hSw.2.1; have u0 := hSw.2.2.c0; go_simp; all_goals (repeat' apply And.intro) <;> rfl)
        try simp only [Act.put, List.setIfInBounds_toArray, List.set_cons_zero, List.set_cons_succ]
        refine wpAnyH_take (i := 1) (oi := { dst := some 61, op := Op.load 27 (Operand.tmp 6), type := 27, pos := "ref.go:126", after := #[], guard := none }) (v := x.v) rfl (by kernel_rfl) (by kernel_rfl) (by kernel_rfl) (fun _ _ _ h => h) (Or.inl ⟨by rfl, ?hg2⟩) (by assumption) ?_
        case hg2 => (intro W hSw; obtain ⟨z0, z1, z2, z3, z4, z5, z6, z7, z8, z9, z10, z11, z12⟩ := SBox.all hSw.1; obtain ⟨y0, y1, y2, y3, y4, y5, y6, y7, y8, y9⟩ := NO.PBox.all hSw.2.1; have u0 := hSw.2.2.c0; go_simp; all_goals (repeat' apply And.intro) <;> rfl)
        try simp only [Act.put, List.setIfInBounds_toArray, List.set_cons_zero, List.set_cons_succ]
        refine wpAnyH_take (i := 2) (oi := { dst := some 62, op := Op.load 32 (Operand.tmp 11), type := 32, pos := "ref.go:126", after := #[], guard := none }) (v := p.v) rfl (by kernel_rfl) (by kernel_rfl) (by kernel_rfl) (fun _ _ _ h => h) (Or.inl ⟨by rfl, ?hg3⟩) (by assumption) ?_
        case hg3 => (intro W hSw; obtain ⟨z0, z1, z2, z3, z4, z5, z6, z7, z8, z9, z10, z11, z12⟩ := SBox.all hSw.1; obtain ⟨y0, y1, y2, y3, y4, y5, y6, y7, y8, y9⟩ := NO.PBox.all hSw.2.1; have u0 := hSw.2.2.c0; go_simp; all_goals (repeat' apply And.intro) <;> rfl)
        try simp only [Act.put, List.setIfInBounds_toArray, List.set_cons_zero, List.set_cons_succ]
        refine wpAnyH_take (i := 4) (oi := { dst := some 64, op := Op.fieldAddr 42 (Operand.tmp 16) 0, type := 0, pos := "ref.go:126", after := #[], guard := none }) (v := ?vg4) rfl (by kernel_rfl) (by kernel_rfl) (by kernel_rfl) (fun _ _ _ h => h) (Or.inl ⟨by rfl, ?hg4⟩) (by assumption) ?_
        case hg4 => (intro W hSw; obtain ⟨z0, z1, z2, z3, z4, z5, z6, z7, z8, z9, z10, z11, z12⟩ := SBox.all hSw.1; obtain ⟨y0, y1, y2, y3, y4, y5, y6, y7, y8, y9⟩ := NO.PBox.all hSw.2.1; have u0 := hSw.2.2.c0; go_simp; (try with_reducible rfl))
        try simp only [Act.put, List.setIfInBounds_toArray, List.set_cons_zero, List.set_cons_succ]
        refine wpAnyH_take (i := 5) (oi := { dst := some 65, op := Op.load 23 (Operand.tmp 64), type := 23, pos := "ref.go:126", after := #[{ on := 4, ground := Ground.data }], guard := none }) (v := ?vg5) rfl (by kernel_rfl) (by kernel_rfl) (by kernel_rfl) (fun _ _ _ h => h) (Or.inl ⟨by rfl, ?hg5⟩) (by assumption) ?_
        case hg5 => (intro W hSw; obtain ⟨z0, z1, z2, z3, z4, z5, z6, z7, z8, z9, z10, z11, z12⟩ := SBox.all hSw.1; obtain ⟨y0, y1, y2, y3, y4, y5, y6, y7, y8, y9⟩ := NO.PBox.all hSw.2.1; have u0 := hSw.2.2.c0; go_simp; (try with_reducible rfl))
        try simp only [Act.put, List.setIfInBounds_toArray, List.set_cons_zero, List.set_cons_succ]
        refine wpAnyH_take (i := 6) (oi := { dst := some 66, op := Op.move (Operand.tmp 18), type := 3, pos := "ref.go:126", after := #[], guard := none }) (v := ?vg6) rfl (by kernel_rfl) (by kernel_rfl) (by kernel_rfl) (fun _ _ _ h => h) (Or.inl ⟨by rfl, ?hg6⟩) (by assumption) ?_
        case hg6 => (intro W hSw; obtain ⟨z0, z1, z2, z3, z4, z5, z6, z7, z8, z9, z10, z11, z12⟩ := SBox.all hSw.1; obtain ⟨y0, y1, y2, y3, y4, y5, y6, y7, y8, y9⟩ := NO.PBox.all hSw.2.1; have u0 := hSw.2.2.c0; go_simp; (try with_reducible rfl))
        try simp only [Act.put, List.setIfInBounds_toArray, List.set_cons_zero, List.set_cons_succ]
        refine wpAnyH_ready (rs := [3]) (by kernel_rfl) (by simp) ?_
        refine AllReadyH.cons (o := { dst := some 63, op := Op.call { callee := Callee.value (Operand.func 50), args := #[Operand.tmp 61, Operand.tmp 62, Operand.const (Value.int IntKind.i64 2)], argTypes := #[27, 32, 3] }, type := 32, pos := "ref.go:126", after := #[{ on := 1, ground := Ground.data }, { on := 2, ground := Ground.data }], guard := none }) rfl (fun K hK => ?_) AllReadyH.nil
        go_simp
        go_at_call 50
        refine (HRE.out w6.drew (HI6.out.later (Below.refl w6.heap.size w6).drew)).mono ?_
        rintro e w7 ⟨q7, rfl, HAB7, hps7, hb7⟩
        have HB7 : Hid (Below w6.heap.size w6 w7) := Lib.hid (((Below.refl w6.heap.size w6).drew).trans hb7)
        have HX7 := Lib.hid (HX6.out.later HB7.out)
        have HPK7 := Lib.hid hps7.pk
        have HL7 : Hid (q7.L.length ≤ 1000) := Lib.hid (by have e : (NO.absL q7.L).length = 2 := congrArg (fun r : NO.PktA => r.opts.length) HAB7.out; simp [NO.absL] at e; omega)
        clear hHeld
        refine hK.out _ _ ?hB7 (fun hHeld => ?_)
        case hB7 => (exact ⟨HX7.out.hx, HX7.out.hp, HL6.out.later HB7.out⟩)
        clear hK K
        try simp only [Act.put, List.setIfInBounds_toArray, List.set_cons_zero, List.set_cons_succ]
        refine wpAnyH_ready (rs := [7]) (by kernel_rfl) (by simp) ?_
        refine AllReadyH.cons (o := { dst := some 67, op := Op.call { callee := Callee.value (Operand.func 88), args := #[Operand.tmp 60, Operand.tmp 63, Operand.tmp 65, Operand.tmp 66], argTypes := #[27, 32, 23, 3] }, type := 32, pos := "ref.go:126", after := #[{ on := 0, ground := Ground.data }, { on := 3, ground := Ground.data }, { on := 5, ground := Ground.data }, { on := 6, ground := Ground.data }, { on := 3, ground := Ground.chain }], guard := none }) rfl (fun K hK => ?_) AllReadyH.nil
        go_simp
        go_at_call 88
        refine (rwith_any x q7 m.addr n w7 HPK7.out HL7.out hle).mono ?_
        rintro e w8 ⟨q8, rfl, HAB8, hps8, hb8⟩
        have HB8 : Hid (Below w6.heap.size w6 w8) := Lib.hid (HB7.out.trans (hb8.mono HB7.out.size))
        have HX8 := Lib.hid (HX6.out.later HB8.out)
        have HL8 := Lib.hid (HL6.out.later HB8.out)
        have HPS8 := Lib.hid hps8
        have HLT7 : Hid (w.heap.size + 1 + 1 < w7.heap.size) := Lib.hid HX7.out.hz.lt
        clear hHeld
        refine hK.out _ _ ?hB8 (fun hHeld => ?_)
        case hB8 => (exact ⟨HX8.out.hx, HX8.out.hp, HL8.out⟩)
        clear hK K
        try simp only [Act.put, List.setIfInBounds_toArray, List.set_cons_zero, List.set_cons_succ]
        refine wpAnyH_take (i := 8) (oi := { dst := some 68, op := Op.build 44 #[(0, Operand.const (Value.bool true)), (1, Operand.tmp 67)], type := 44, pos := "ref.go:126", after := #[{ on := 7, ground := Ground.data }], guard := none }) (v := ?vg9) rfl (by kernel_rfl) (by kernel_rfl) (by kernel_rfl) (fun _ _ _ h => h) (Or.inl ⟨by rfl, ?hg9⟩) (by assumption) ?_
        case hg9 => (intro W hSw; obtain ⟨z0, z1, z2, z3, z4, z5, z6, z7, z8, z9, z10, z11, z12⟩ := SBox.all hSw.1; obtain ⟨y0, y1, y2, y3, y4, y5, y6, y7, y8, y9⟩ := NO.PBox.all hSw.2.1; have u0 := hSw.2.2.c0; go_simp; (try with_reducible rfl))
        try simp only [Act.put, List.setIfInBounds_toArray, List.set_cons_zero, List.set_cons_succ]
        refine wpAnyH_ready (rs := [9]) (by kernel_rfl) (by simp) ?_
        refine AllReadyH.cons (o := { dst := none, op := Op.store 44 (Operand.tmp 12) (Operand.tmp 68), type := 0, pos := "ref.go:126", after := #[{ on := 8, ground := Ground.data }, { on := 7, ground := Ground.chain }, { on := 0, ground := Ground.phase }, { on := 1, ground := Ground.phase }, { on := 2, ground := Ground.phase }, { on := 3, ground := Ground.phase }, { on := 4, ground := Ground.phase }, { on := 5, ground := Ground.phase }, { on := 6, ground := Ground.phase }, { on := 7, ground := Ground.phase }, { on := 8, ground := Ground.phase }], guard := none }) rfl (fun K hK => ?_) AllReadyH.nil
        refine step_storeR rowA rfl _ _ rfl (w.heap.size + 1 + 1) (⟨true, q8, false, zeroL, 0⟩ : AnW).cells rfl rfl HX8.out.hz rfl rfl rfl ?_
        have hlo := below_setRow (B := w.heap.size + 1 + 1) w8 (w.heap.size + 1 + 1) (⟨true, q8, false, zeroL, 0⟩ : AnW).cells (Nat.le_refl _)
        have hlg : LBox (w8.setRow (w.heap.size + 1 + 1) (⟨true, q8, false, zeroL, 0⟩ : AnW).cells) gl m := (setRow_other w8 (w.heap.size + 1 + 1) gl (⟨true, q8, false, zeroL, 0⟩ : AnW).cells (by have := HGT.out; omega)).trans HL8.out
        clear hHeld
        refine hK.out _ _ ?hB10 (fun hHeld => ?_)
        case hB10 => (exact ⟨HX8.out.hx.below hlo (by omega), (show Bx _ (w.heap.size + 1) 32 p.cells from Bx.below (show Bx w8 (w.heap.size + 1) 32 p.cells from HX8.out.hp) hlo (by omega)), hlg⟩)
        clear hK K
        try simp only [Act.put]
        refine wpAnyH_done (by kernel_rfl) ?_ _
        go_wp2
        refine HX8.out.end_ (⟨true, q8, false, zeroL, 0⟩ : AnW) rfl rfl ?_ ((HPS8.out.set HX8.out.hz HLT7.out (no8_of rfl) _).more (by have := HLT7.out; omega))
        rw [HXN.out]
        show AnsV.mk true q8.abs false zeroL 0 = _
        rw [HAB8.out, HAB7.out]
        rfl
end Go.Proofs.YtmaohnbddlccdaaGreat
end

/- engine, the document's: request. -/
section
namespace Go.Proofs.YtmaohnbddlccdaaGreat
open Go.RowKit Go.Sort

theorem ls_mo (b : Int) (m : LV) (cb : ByteArray) (now want : Int) : NC.moV (NC.lsV b m cb now want).unt = (NC.lsV b m cb now want).unt := by
  show NC.moV (max (NC.moV _) (NC.moV _)) = max (NC.moV _) (NC.moV _)
  have h1 := NC.moV_range (NC.baseL m cb).unt
  have h2 := NC.moV_range (NC.untV b now want (NC.baseL m cb).acked)
  exact NC.moV_id (by omega) (by omega)

set_option maxRecDepth 100000 in
set_option maxHeartbeats 8000000 in
theorem rrequest_any (x : SiteV) (p : NO.PktV) (s now entry : Int) {wb w : World} {g : Nat} {v : Value} {L : List LV} (h : RTb wb w g v L) (hL : L.length ≤ 1000) (hU : ∀ y ∈ L, NC.moV y.unt = y.unt) (hi : RIn w x p) :
    Calls Tryz.prog 46 #[x.v, ptE g, .int .i64 s, .int .i64 now, .int .i64 entry, p.v] w (GivesA w (requestE x L s now entry p.abs)) := by
  obtain ⟨w0, hw0⟩ : ∃ w0, w0 = (((w.alloc (.cells x.cells 27)).alloc (NO.pbox p)).alloc (.cells #[.bool false, .int .i64 0, .int .u32 0, .int .i64 0, .int .i64 0, .int .u32 0, .int .u32 0, .int .u32 0, .int .u32 0, .slice none 0 0, .slice none 0 0, .bool false, .int .u32 0, .int .i64 0, .string ⟨#[]⟩, .int .i64 0, .int .i64 0, .int .i64 0, .int .i64 0, .int .i64 0, .int .i64 0] 44)) := ⟨_, rfl⟩
  have HX : Hid (RBx w w0 x p) := Lib.hid (by rw [hw0]; exact RBx.start w x p)
  have HI := Lib.hid (hi.later HX.out.low)
  have HT := Lib.hid (h.later HX.out.low)
  have HW0 := Lib.hid hw0
  have HUU := Lib.hid hU
  have HLL := Lib.hid hL
  have HCL := Lib.hid (fun V (h : RIn V x p) => NO.rclient_any p V h.pk h.len h.dat)
  have HAS := Lib.hid (fun V (h : RIn V x p) => rask_any x p V h.pk h.len h.dat)
  have HRU := Lib.hid (fun V => rrules_any x V)
  have HCH := Lib.hid (fun V (h : RIn V x p) => rchosen_any p V h.pk h.len h.dat)
  have HGE := Lib.hid (fun V (h : RTb wb V g v L) => rget_any (NO.askA p.abs) h (by omega))
  have HTH := Lib.hid (fun m V => rtheirs_any m (NO.clientA p.abs) V)
  have HMA := Lib.hid (fun m V => (show Calls Tryz.prog 91 #[NC.r3v x.id x.lead x.guard, m.v, .int .i64 s, .int .i64 now, .int .i64 entry] V fun e w' => e = .returned (.bool (mayE x s now entry m)) ∧ Below V.heap.size V w' from NC.rmay_any x.id x.lead x.guard s now entry m V))
  have HLO := Lib.hid (fun m V => (show Calls Tryz.prog 87 #[x.v, m.v, .string ⟨(NO.clientA p.abs).toArray⟩, .int .i64 now, .int .i64 (wantE x p.abs)] V fun e w' => e = .returned (.int .i64 (longE x p.abs now m)) ∧ Below V.heap.size V w' from rtime_any x m (NO.clientA p.abs) now (wantE x p.abs) V))
  have HR6 := Lib.hid (fun V (h : RIn V x p) => rreply_any x p 6 V h.pk h.hw h.sv (by decide))
  have HR5 := Lib.hid (fun V (h : RIn V x p) => rreply_any x p 5 V h.pk h.hw h.sv (by decide))
  have HLS := Lib.hid (fun m V (h : NC.moV m.unt = m.unt) => rlease_any x.id x.lead x.guard now (wantE x p.abs) m h ⟨(NO.clientA p.abs).toArray⟩ V)
  have HPO := Lib.hid (fun m V (h : NC.moV m.unt = m.unt) => rpot_any x.id x.lead x.guard now (wantE x p.abs) m h V)
  obtain ⟨X, hX⟩ : ∃ X, X = requestE x L s now entry p.abs := ⟨_, rfl⟩
  rw [← hX]
  have HXX := Lib.hid hX
  clear hw0 h hi hX hL hU
  have HX0 := HX
  have HI0 := HI
  have HT0 := HT
  clear HX HI HT
  obtain ⟨p0, p1, p2, p3, p4, p5, p6, p7, p8, p9⟩ := NO.PBox.all HX0.out.hp
  go_enter Tryz.func46, Tryz.ntmps46
  go_upto_region 1 with fail
  rw [← HW0.out]
  go_wp2_with fail
  refine (HCL.out w0 HI0.out).mono ?_
  rintro e w1 ⟨rfl, hb1⟩
  have HX1 := Lib.hid (HX0.out.later hb1)
  have HI1 := Lib.hid (HI0.out.later hb1)
  have HT1 := Lib.hid (HT0.out.later hb1)
  clear hb1 HX0 HI0 HT0 HW0 HCL p0 p1 p2 p3 p4 p5 p6 p7 p8 p9
  obtain ⟨x0, x1, x2, x3, x4, x5, x6, x7, x8, x9, x10, x11, x12⟩ := SBox.all HX1.out.hx
  obtain ⟨p0, p1, p2, p3, p4, p5, p6, p7, p8, p9⟩ := NO.PBox.all HX1.out.hp
  go_wp2_with fail
  refine (HAS.out w1 HI1.out).mono ?_
  rintro e w2 ⟨rfl, hb2⟩
  have HX2 := Lib.hid (HX1.out.later hb2)
  have HI2 := Lib.hid (HI1.out.later hb2)
  have HT2 := Lib.hid (HT1.out.later hb2)
  clear hb2 HX1 HI1 HT1 HAS x0 x1 x2 x3 x4 x5 x6 x7 x8 x9 x10 x11 x12 p0 p1 p2 p3 p4 p5 p6 p7 p8 p9
  obtain ⟨x0, x1, x2, x3, x4, x5, x6, x7, x8, x9, x10, x11, x12⟩ := SBox.all HX2.out.hx
  go_wp2_with fail
  refine (HRU.out w2).mono ?_
  rintro e w3 ⟨rfl, hb3⟩
  obtain ⟨w4, hw4⟩ : ∃ w4, w4 = w3.alloc (NC.r3box 124 x.id x.lead x.guard) := ⟨_, rfl⟩
  obtain ⟨gr, hgr⟩ : ∃ gr, gr = w3.heap.size := ⟨_, rfl⟩
  have h34 : Below w3.heap.size w3 w4 := by rw [hw4]; exact (Below.refl _ _).alloc (Nat.le_refl _) _
  have HQ4 : Hid (NC.R3 124 w4 gr x.id x.lead x.guard) := Lib.hid (by rw [hw4, hgr]; exact NC.R3.new w3 _ _ _ _)
  have HGR : Hid (w.heap.size + 1 + 1 < gr) := Lib.hid (by rw [hgr]; exact Nat.lt_of_lt_of_le HX2.out.hz.lt hb3.size)
  have HW4 := Lib.hid hw4
  have HGR4 := Lib.hid hgr
  have HX4 := Lib.hid (HX2.out.later (hb3.trans (h34.mono hb3.size)))
  have HI4 := Lib.hid (HI2.out.later (hb3.trans (h34.mono hb3.size)))
  have HT4 := Lib.hid (HT2.out.later (hb3.trans (h34.mono hb3.size)))
  clear  HX2 HI2 HT2 HRU hb3 h34 hw4 hgr x0 x1 x2 x3 x4 x5 x6 x7 x8 x9 x10 x11 x12
  go_upto_region 4 with fail
  rw [← HW4.out, ← HGR4.out]
  clear HW4 HGR4
  obtain ⟨p0, p1, p2, p3, p4, p5, p6, p7, p8, p9⟩ := NO.PBox.all HX4.out.hp
  go_wp2_with fail
  refine (HCH.out w4 HI4.out).mono ?_
  rintro e w5 ⟨vs, rfl, HV, hb5⟩
  have HQ5 := Lib.hid (HQ4.out.later hb5)
  have HX5 := Lib.hid (HX4.out.later hb5)
  have HI5 := Lib.hid (HI4.out.later hb5)
  have HT5 := Lib.hid (HT4.out.later hb5)
  clear hb5 HX4 HI4 HT4 HQ4 HCH p0 p1 p2 p3 p4 p5 p6 p7 p8 p9
  go_upto_region 5 with fail
  have x3 := (SBox.all HX5.out.hx).2.2.2.1
  have HRQ : Hid (X = if (toldE p.abs && (((NO.numL (NO.fd p.abs 54) : Nat) : Int) != (x.server : Int))) = true then noA
    else match (lookE L (NO.askA p.abs)).filter (givesE x s now entry p.abs) with
      | some m => boundE x now p.abs m
      | none => if ((lookE L (NO.askA p.abs)).filter sharedB).isSome = true ∧ toldE p.abs = false then noA else sentA (replyE x p.abs 6 [])) := Lib.hid (by
    rw [HXX.out]
    unfold requestE
    have e : (toldE p.abs = true ∧ NO.numL (NO.fd p.abs 54) ≠ x.server) = ((toldE p.abs && (((NO.numL (NO.fd p.abs 54) : Nat) : Int) != (x.server : Int))) = true) := by
      simp
      omega
    simp only [e]
    rfl)
  clear HXX
  generalize NO.numL (NO.fd p.abs 54) = ns at *
  generalize toldE p.abs = told at *
  go_cut [45] (fun s45 wx => s45 = .bool (told && ((ns : Int) != (x.server : Int))) ∧ wx = w5)
  case first =>
    cases told
    · go_wp2
      go_meet
      exact ⟨rfl, rfl⟩
    · have hv := HV.out rfl
      subst hv
      cases hne : ((ns : Int) != (x.server : Int))
      all_goals
        have HNE := Lib.hid hne
        go_wp2
        go_meet
        exact ⟨by rw [HNE.out]; rfl, rfl⟩
  case rest =>
    obtain ⟨rfl, hwc⟩ := hcut
    rw [hwc]
    clear hwc x3 HV
    generalize (told && ((ns : Int) != (x.server : Int))) = bad at *
    cases bad
    rotate_left
    · rw [if_pos rfl] at HRQ
      go_wp2_with (first | (refine wp_storeR rowA rfl _ _ rfl (w.heap.size + 1 + 1) _ rfl rfl HX5.out.hz rfl rfl rfl ?_))
      exact HX5.out.end_ zeroA rfl rfl (by rw [HRQ.out]; rfl) (zeroP_pks _ _)
    rw [if_neg (by decide)] at HRQ
    have HGG := Lib.hid (HGE.out w5 HT5.out)
    obtain ⟨q, e, hq1, hq2, hqe⟩ : ∃ (q : LV) (e : Int), (getL L (NO.askA p.abs)).1 = q ∧ (getL L (NO.askA p.abs)).2 = e ∧ (lookE L (NO.askA p.abs) = none ∧ e = 4 ∨ lookE L (NO.askA p.abs) = some q ∧ e = 0) := by
      rw [getL_look]
      cases lookE L (NO.askA p.abs) with
      | none => exact ⟨zeroL, 4, rfl, rfl, .inl ⟨rfl, rfl⟩⟩
      | some m => exact ⟨m, 0, rfl, rfl, .inr ⟨rfl, rfl⟩⟩
    rw [hq1, hq2] at HGG
    have HE04 : Hid (e = 4 ∨ e = 0) := Lib.hid (by rcases hqe with ⟨-, h⟩ | ⟨-, h⟩; exact .inl h; exact .inr h)
    have HXB : Hid ((e == 0 && (theirsB q (NO.clientA p.abs) || mayE x s now entry q)) = true → 1 ≤ longE x p.abs now q → X = boundE x now p.abs q ∧ q ∈ L ∧ q.addr = NO.askA p.abs) := Lib.hid (by
      intro h1 h2
      simp only [Bool.and_eq_true, beq_iff_eq] at h1
      rcases hqe with ⟨-, h4⟩ | ⟨hl, -⟩
      · omega
      · refine ⟨?_, look_mem hl⟩
        rw [HRQ.out, hl]
        have hg : givesE x s now entry p.abs q = true := by unfold givesE; rw [decide_eq_true h2, h1.2]; rfl
        simp [Option.filter, hg])
    have HXO : Hid (((e == 0 && (theirsB q (NO.clientA p.abs) || mayE x s now entry q)) = true → ¬ 1 ≤ longE x p.abs now q) → X = if (e == 0 && sharedB q && !told) = true then noA else sentA (replyE x p.abs 6 [])) := Lib.hid (by
      intro h1
      rcases hqe with ⟨hl, rfl⟩ | ⟨hl, rfl⟩
      · rw [HRQ.out, hl]
        simp
      · have hg : givesE x s now entry p.abs q = false := by
          unfold givesE
          cases hc : (theirsB q (NO.clientA p.abs) || mayE x s now entry q)
          · simp
          · rw [decide_eq_false (h1 (by rw [hc]; rfl))]; rfl
        rw [HRQ.out, hl]
        cases hsq : sharedB q <;> cases told <;> simp [Option.filter, hg, hsq])
    clear hq1 hq2 hqe HRQ HGE
    go_wp2_with fail
    refine HGG.out.mono ?_
    rintro e6 w6 ⟨rfl, hb6⟩
    obtain ⟨w7, hw7⟩ : ∃ w7, w7 = w6.alloc (lbox q) := ⟨_, rfl⟩
    obtain ⟨gl, hgl⟩ : ∃ gl, gl = w6.heap.size := ⟨_, rfl⟩
    have h67 : Below w6.heap.size w6 w7 := by rw [hw7]; exact (Below.refl _ _).alloc (Nat.le_refl _) _
    have h57 := hb6.trans (h67.mono hb6.size)
    have HX7 := Lib.hid (HX5.out.later h57)
    have HI7 := Lib.hid (HI5.out.later h57)
    have HQ7 := Lib.hid (HQ5.out.later h57)
    have HL7 : Hid (LBox w7 gl q) := Lib.hid (by rw [hw7, hgl]; exact LBox.new w6 q)
    have HW7 := Lib.hid hw7
    have HGL := Lib.hid hgl
    clear hb6 hw7 hgl h67 h57 HX5 HI5 HT5 HQ5 HGG
    go_upto_region 8 with fail
    rw [← HW7.out, ← HGL.out]
    clear HW7 HGL
    go_cut [21] (fun s21 wx => s21 = .bool (e == 0 && (theirsB q (NO.clientA p.abs) || mayE x s now entry q)) ∧ Below w7.heap.size w7 wx)
    case first =>
      rcases HE04.out with rfl | rfl
      · go_wp2
        go_meet
        exact ⟨rfl, Below.refl _ _⟩
      · obtain ⟨l0, l1, l2, l3, l4, l5, l6, l7⟩ := HL7.out.all
        have HTQ := Lib.hid (HTH.out q w7)
        cases hth : theirsB q (NO.clientA p.abs)
        · rw [hth] at HTQ
          have HTT := Lib.hid hth
          go_wp2_with fail
          refine HTQ.out.mono ?_
          rintro e8 w8 ⟨rfl, hb8⟩
          have HB8 := Lib.hid hb8
          have HL8 := Lib.hid (HL7.out.later hb8)
          obtain ⟨r0, r1, r2⟩ := (HQ7.out.later hb8).all
          clear hb8 l0 l1 l2 l3 l4 l5 l6 l7
          obtain ⟨l0, l1, l2, l3, l4, l5, l6, l7⟩ := HL8.out.all
          go_wp2_with fail
          refine (HMA.out q w8).mono ?_
          rintro e9 w9 ⟨rfl, hb9⟩
          have HB9 := Lib.hid (HB8.out.trans (hb9.mono HB8.out.size))
          clear hb9 l0 l1 l2 l3 l4 l5 l6 l7 r0 r1 r2
          go_wp2
          go_meet
          exact ⟨by rw [HTT.out]; simp, HB9.out⟩
        · rw [hth] at HTQ
          have HTT := Lib.hid hth
          go_wp2_with fail
          refine HTQ.out.mono ?_
          rintro e8 w8 ⟨rfl, hb8⟩
          have HB8 := Lib.hid hb8
          clear hb8 l0 l1 l2 l3 l4 l5 l6 l7
          go_wp2
          go_meet
          exact ⟨by rw [HTT.out]; simp, HB8.out⟩
    case rest =>
      obtain ⟨rfl, hb8⟩ := hcut
      have HX8 := Lib.hid (HX7.out.later hb8)
      have HI8 := Lib.hid (HI7.out.later hb8)
      have HQ8 := Lib.hid (HQ7.out.later hb8)
      have HL8 := Lib.hid (HL7.out.later hb8)
      clear hb8 HX7 HI7 HQ7 HL7 HTH HMA
      generalize (e == 0 && (theirsB q (NO.clientA p.abs) || mayE x s now entry q)) = mb at *
      have HLQ := Lib.hid (HLO.out q wc)
      have HNL : Hid (longE x p.abs now q ≤ 4294967295) := Lib.hid (by unfold longE longT; omega)
      have HBO : Hid (boundE x now p.abs q = ⟨true, promE x p.abs 5 q.addr (longE x p.abs now q), true, NC.lsV x.lead q ⟨(NO.clientA p.abs).toArray⟩ now (wantE x p.abs), NC.potV (NC.lsV x.lead q ⟨(NO.clientA p.abs).toArray⟩ now (wantE x p.abs)) now (wantE x p.abs)⟩) := Lib.hid rfl
      generalize longE x p.abs now q = n at *
      obtain ⟨x0, x1, x2, x3, x4, x5, x6, x7, x8, x9, x10, x11, x12⟩ := SBox.all HX8.out.hx
      obtain ⟨l0, l1, l2, l3, l4, l5, l6, l7⟩ := HL8.out.all
      go_wp2_with fail
      refine HLQ.out.mono ?_
      rintro e9 w9 ⟨rfl, hb9⟩
      have HX9 := Lib.hid (HX8.out.later hb9)
      have HI9 := Lib.hid (HI8.out.later hb9)
      have HQ9 := Lib.hid (HQ8.out.later hb9)
      have HL9 := Lib.hid (HL8.out.later hb9)
      clear hb9 HX8 HI8 HQ8 HL8 HLQ HLO x0 x1 x2 x3 x4 x5 x6 x7 x8 x9 x10 x11 x12 l0 l1 l2 l3 l4 l5 l6 l7
      by_cases hgo : mb = true ∧ 1 ≤ n
      rotate_left
      · have HXE : Hid (X = if (e == 0 && sharedB q && !told) = true then noA else sentA (replyE x p.abs 6 [])) := Lib.hid (HXO.out (fun h1 => by have h2 : ¬ 1 ≤ n := fun h2 => hgo ⟨h1, h2⟩; omega))
        go_upto_region 10 with fail
        go_cut [79] (fun s79 wx => s79 = .bool true ∧ wx = w9)
        case first =>
          cases mb
          · clear hgo
            go_wp2
            go_meet
            exact ⟨rfl, rfl⟩
          · have h2 : ¬ 1 ≤ n := fun h => hgo ⟨rfl, h⟩
            have hn : decide (n < 1) = true := by simp; omega
            clear hgo h2
            go_wp2
            go_meet
            exact ⟨rfl, rfl⟩
        case rest =>
          obtain ⟨rfl, hwc⟩ := hcut
          rw [hwc]
          clear hwc hgo HXB HXO HBO
          go_upto_region 11 with fail
          have l1 := HL9.out.c1
          have HSH : Hid (sharedB q = (q.bind == 0 || q.bind == 1)) := Lib.hid rfl
          go_cut [95] (fun s95 wx => s95 = .bool (e == 0 && sharedB q && !told) ∧ wx = w9)
          case first =>
            cases told
            · rcases HE04.out with rfl | rfl
              · go_wp2
                go_meet
                exact ⟨rfl, rfl⟩
              · cases hb0 : (q.bind == 0)
                · cases hb1 : (q.bind == 1)
                  all_goals
                    rw [hb0, hb1] at HSH
                    go_wp2
                    go_meet
                    exact ⟨by rw [HSH.out]; rfl, rfl⟩
                · rw [hb0] at HSH
                  go_wp2
                  go_meet
                  exact ⟨by rw [HSH.out]; rfl, rfl⟩
            · go_wp2
              go_meet
              exact ⟨by simp, rfl⟩
          case rest =>
            obtain ⟨rfl, hwc⟩ := hcut
            rw [hwc]
            clear hwc l1
            generalize (e == 0 && sharedB q && !told) = qu at *
            cases qu
            rotate_left
            · rw [if_pos rfl] at HXE
              go_wp2_with (first | (refine wp_storeR rowA rfl _ _ rfl (w.heap.size + 1 + 1) _ rfl rfl HX9.out.hz rfl rfl rfl ?_))
              exact HX9.out.end_ zeroA rfl rfl (by rw [HXE.out]; rfl) (zeroP_pks _ _)
            rw [if_neg (by decide)] at HXE
            obtain ⟨x0, x1, x2, x3, x4, x5, x6, x7, x8, x9, x10, x11, x12⟩ := SBox.all HX9.out.hx
            obtain ⟨p0, p1, p2, p3, p4, p5, p6, p7, p8, p9⟩ := NO.PBox.all HX9.out.hp
            go_wp2_with fail
            refine (HR6.out w9 HI9.out).mono ?_
            rintro e10 w10 ⟨q10, rfl, HAB, hps, hb10⟩
            have HX10 := Lib.hid (HX9.out.later hb10)
            have HPS := Lib.hid hps
            have HLT : Hid (w.heap.size + 1 + 1 < w9.heap.size) := Lib.hid HX9.out.hz.lt
            clear hps hb10 x0 x1 x2 x3 x4 x5 x6 x7 x8 x9 x10 x11 x12 p0 p1 p2 p3 p4 p5 p6 p7 p8 p9
            go_wp2_with (first | (refine wp_storeR rowA rfl _ _ rfl (w.heap.size + 1 + 1) (⟨true, q10, false, zeroL, 0⟩ : AnW).cells rfl rfl HX10.out.hz rfl rfl rfl ?_))
            refine HX10.out.end_ (⟨true, q10, false, zeroL, 0⟩ : AnW) rfl rfl ?_ ((HPS.out.set HX10.out.hz HLT.out (no8_of rfl) _).more (by have := HLT.out; omega))
            rw [HXE.out]
            show AnsV.mk true q10.abs false zeroL 0 = _
            rw [HAB.out]
            rfl
      · obtain ⟨hmb, hn⟩ := hgo
        subst hmb
        obtain ⟨hXb, hmem, hadr⟩ := HXB.out rfl hn
        rw [HBO.out] at hXb
        have HXF := Lib.hid hXb
        have HAD := Lib.hid hadr
        have hun := HUU.out q hmem
        have t2 : decide (n < 1) = false := by simp; omega
        clear HXB HXO HBO hXb hmem hadr HUU hn
        have HLE := Lib.hid (HLS.out q w9 hun)
        have HMO := Lib.hid (ls_mo x.lead q ⟨(NO.clientA p.abs).toArray⟩ now (wantE x p.abs))
        generalize NC.lsV x.lead q ⟨(NO.clientA p.abs).toArray⟩ now (wantE x p.abs) = m at *
        obtain ⟨r0, r1, r2⟩ := HQ9.out.all
        obtain ⟨l0, l1, l2, l3, l4, l5, l6, l7⟩ := HL9.out.all
        go_wp2_with fail
        refine HLE.out.mono ?_
        rintro e10 w10 ⟨rfl, hb10⟩
        obtain ⟨w11, hw11⟩ : ∃ w11, w11 = w10.alloc (lbox m) := ⟨_, rfl⟩
        obtain ⟨gm, hgm⟩ : ∃ gm, gm = w10.heap.size := ⟨_, rfl⟩
        have h1011 : Below w10.heap.size w10 w11 := by rw [hw11]; exact (Below.refl _ _).alloc (Nat.le_refl _) _
        have h911 := hb10.trans (h1011.mono hb10.size)
        have HGM : Hid (w.heap.size + 1 + 1 < gm) := Lib.hid (by rw [hgm]; exact Nat.lt_of_lt_of_le HX9.out.hz.lt hb10.size)
        have HX11 := Lib.hid (HX9.out.later h911)
        have HI11 := Lib.hid (HI9.out.later h911)
        have HQ11 := Lib.hid (HQ9.out.later h911)
        have HM11 : Hid (LBox w11 gm m) := Lib.hid (by rw [hw11, hgm]; exact LBox.new w10 m)
        have HW11 := Lib.hid hw11
        have HGM2 := Lib.hid hgm
        clear hb10 hw11 hgm h1011 h911 HX9 HI9 HQ9 HL9 HLE HLS r0 r1 r2 l0 l1 l2 l3 l4 l5 l6 l7 t2 hun
        go_upto_region 15 with fail
        rw [← HW11.out, ← HGM2.out]
        clear HW11 HGM2
        refine wp_region_held_drew (S := fun W => SBox W w.heap.size x ∧ NO.PBox W (w.heap.size + 1) p ∧ LBox W gm m ∧ NC.R3 124 W gr x.id x.lead x.guard) (by kernel_rfl) ?hS1 (fun hHeld => ?_)
        case hS1 => exact ⟨HX11.out.hx.drew, HX11.out.hp, HM11.out.drew, HQ11.out.drew⟩
        have D0 : Hid (Below w11.heap.size w11 w11.drew) := Lib.hid ((Below.refl w11.heap.size w11).drew)
        have HLT11 : Hid (w.heap.size + 1 + 1 < w11.heap.size) := Lib.hid HX11.out.hz.lt
        refine wpAnyH_take (i := 0) (oi := { dst := some 107, op := Op.load 27 (Operand.tmp 6), type := 27, pos := "ref.go:155", after := #[], guard := none }) (v := x.v) rfl (by kernel_rfl) (by kernel_rfl) (by kernel_rfl) (fun _ _ _ h => h) (Or.inl ⟨by rfl, ?hg1⟩) (by assumption) ?_
        case hg1 => (intro W hSw; obtain ⟨z0, z1, z2, z3, z4, z5, z6, z7, z8, z9, z10, z11, z12⟩ := SBox.all hSw.1; obtain ⟨y0, y1, y2, y3, y4, y5, y6, y7, y8, y9⟩ := NO.PBox.all hSw.2.1; obtain ⟨u0, u1, u2, u3, u4, u5, u6, u7⟩ := hSw.2.2.1.all; obtain ⟨k0, k1, k2⟩ := hSw.2.2.2.all; go_simp; all_goals (repeat' apply And.intro) <;> rfl)
        try simp only [Act.put, List.setIfInBounds_toArray, List.set_cons_zero, List.set_cons_succ]
        refine wpAnyH_take (i := 1) (oi := { dst := some 108, op := Op.load 27 (Operand.tmp 6), type := 27, pos := "ref.go:155", after := #[], guard := none }) (v := x.v) rfl (by kernel_rfl) (by kernel_rfl) (by kernel_rfl) (fun _ _ _ h => h) (Or.inl ⟨by rfl, ?hg2⟩) (by assumption) ?_
        case hg2 => (intro W hSw; obtain ⟨z0, z1, z2, z3, z4, z5, z6, z7, z8, z9, z10, z11, z12⟩ := SBox.all hSw.1; obtain ⟨y0, y1, y2, y3, y4, y5, y6, y7, y8, y9⟩ := NO.PBox.all hSw.2.1; obtain ⟨u0, u1, u2, u3, u4, u5, u6, u7⟩ := hSw.2.2.1.all; obtain ⟨k0, k1, k2⟩ := hSw.2.2.2.all; go_simp; all_goals (repeat' apply And.intro) <;> rfl)
        try simp only [Act.put, List.setIfInBounds_toArray, List.set_cons_zero, List.set_cons_succ]
        refine wpAnyH_take (i := 2) (oi := { dst := some 109, op := Op.load 32 (Operand.tmp 11), type := 32, pos := "ref.go:155", after := #[], guard := none }) (v := p.v) rfl (by kernel_rfl) (by kernel_rfl) (by kernel_rfl) (fun _ _ _ h => h) (Or.inl ⟨by rfl, ?hg3⟩) (by assumption) ?_
        case hg3 => (intro W hSw; obtain ⟨z0, z1, z2, z3, z4, z5, z6, z7, z8, z9, z10, z11, z12⟩ := SBox.all hSw.1; obtain ⟨y0, y1, y2, y3, y4, y5, y6, y7, y8, y9⟩ := NO.PBox.all hSw.2.1; obtain ⟨u0, u1, u2, u3, u4, u5, u6, u7⟩ := hSw.2.2.1.all; obtain ⟨k0, k1, k2⟩ := hSw.2.2.2.all; go_simp; all_goals (repeat' apply And.intro) <;> rfl)
        try simp only [Act.put, List.setIfInBounds_toArray, List.set_cons_zero, List.set_cons_succ]
        refine wpAnyH_take (i := 4) (oi := { dst := some 111, op := Op.move (Operand.tmp 14), type := 23, pos := "ref.go:155", after := #[], guard := none }) (v := ?vg4) rfl (by kernel_rfl) (by kernel_rfl) (by kernel_rfl) (fun _ _ _ h => h) (Or.inl ⟨by rfl, ?hg4⟩) (by assumption) ?_
        case hg4 => (intro W hSw; obtain ⟨z0, z1, z2, z3, z4, z5, z6, z7, z8, z9, z10, z11, z12⟩ := SBox.all hSw.1; obtain ⟨y0, y1, y2, y3, y4, y5, y6, y7, y8, y9⟩ := NO.PBox.all hSw.2.1; obtain ⟨u0, u1, u2, u3, u4, u5, u6, u7⟩ := hSw.2.2.1.all; obtain ⟨k0, k1, k2⟩ := hSw.2.2.2.all; go_simp; (try with_reducible rfl))
        try simp only [Act.put, List.setIfInBounds_toArray, List.set_cons_zero, List.set_cons_succ]
        refine wpAnyH_take (i := 5) (oi := { dst := some 112, op := Op.move (Operand.tmp 22), type := 3, pos := "ref.go:155", after := #[], guard := none }) (v := ?vg5) rfl (by kernel_rfl) (by kernel_rfl) (by kernel_rfl) (fun _ _ _ h => h) (Or.inl ⟨by rfl, ?hg5⟩) (by assumption) ?_
        case hg5 => (intro W hSw; obtain ⟨z0, z1, z2, z3, z4, z5, z6, z7, z8, z9, z10, z11, z12⟩ := SBox.all hSw.1; obtain ⟨y0, y1, y2, y3, y4, y5, y6, y7, y8, y9⟩ := NO.PBox.all hSw.2.1; obtain ⟨u0, u1, u2, u3, u4, u5, u6, u7⟩ := hSw.2.2.1.all; obtain ⟨k0, k1, k2⟩ := hSw.2.2.2.all; go_simp; (try with_reducible rfl))
        try simp only [Act.put, List.setIfInBounds_toArray, List.set_cons_zero, List.set_cons_succ]
        refine wpAnyH_take (i := 7) (oi := { dst := some 114, op := Op.load 42 (Operand.tmp 23), type := 42, pos := "ref.go:155", after := #[], guard := none }) (v := m.v) rfl (by kernel_rfl) (by kernel_rfl) (by kernel_rfl) (fun _ _ _ h => h) (Or.inl ⟨by rfl, ?hg6⟩) (by assumption) ?_
        case hg6 => (intro W hSw; obtain ⟨z0, z1, z2, z3, z4, z5, z6, z7, z8, z9, z10, z11, z12⟩ := SBox.all hSw.1; obtain ⟨y0, y1, y2, y3, y4, y5, y6, y7, y8, y9⟩ := NO.PBox.all hSw.2.1; obtain ⟨u0, u1, u2, u3, u4, u5, u6, u7⟩ := hSw.2.2.1.all; obtain ⟨k0, k1, k2⟩ := hSw.2.2.2.all; go_simp; all_goals (repeat' apply And.intro) <;> rfl)
        try simp only [Act.put, List.setIfInBounds_toArray, List.set_cons_zero, List.set_cons_succ]
        refine wpAnyH_take (i := 8) (oi := { dst := some 115, op := Op.load 124 (Operand.tmp 16), type := 124, pos := "ref.go:155", after := #[], guard := none }) (v := NC.r3v x.id x.lead x.guard) rfl (by kernel_rfl) (by kernel_rfl) (by kernel_rfl) (fun _ _ _ h => h) (Or.inl ⟨by rfl, ?hg7⟩) (by assumption) ?_
        case hg7 => (intro W hSw; obtain ⟨z0, z1, z2, z3, z4, z5, z6, z7, z8, z9, z10, z11, z12⟩ := SBox.all hSw.1; obtain ⟨y0, y1, y2, y3, y4, y5, y6, y7, y8, y9⟩ := NO.PBox.all hSw.2.1; obtain ⟨u0, u1, u2, u3, u4, u5, u6, u7⟩ := hSw.2.2.1.all; obtain ⟨k0, k1, k2⟩ := hSw.2.2.2.all; go_simp; all_goals (repeat' apply And.intro) <;> rfl)
        try simp only [Act.put, List.setIfInBounds_toArray, List.set_cons_zero, List.set_cons_succ]
        refine wpAnyH_take (i := 9) (oi := { dst := some 116, op := Op.load 42 (Operand.tmp 23), type := 42, pos := "ref.go:155", after := #[], guard := none }) (v := m.v) rfl (by kernel_rfl) (by kernel_rfl) (by kernel_rfl) (fun _ _ _ h => h) (Or.inl ⟨by rfl, ?hg8⟩) (by assumption) ?_
        case hg8 => (intro W hSw; obtain ⟨z0, z1, z2, z3, z4, z5, z6, z7, z8, z9, z10, z11, z12⟩ := SBox.all hSw.1; obtain ⟨y0, y1, y2, y3, y4, y5, y6, y7, y8, y9⟩ := NO.PBox.all hSw.2.1; obtain ⟨u0, u1, u2, u3, u4, u5, u6, u7⟩ := hSw.2.2.1.all; obtain ⟨k0, k1, k2⟩ := hSw.2.2.2.all; go_simp; all_goals (repeat' apply And.intro) <;> rfl)
        try simp only [Act.put, List.setIfInBounds_toArray, List.set_cons_zero, List.set_cons_succ]
        refine wpAnyH_take (i := 10) (oi := { dst := some 117, op := Op.move (Operand.tmp 3), type := 3, pos := "ref.go:155", after := #[], guard := none }) (v := ?vg9) rfl (by kernel_rfl) (by kernel_rfl) (by kernel_rfl) (fun _ _ _ h => h) (Or.inl ⟨by rfl, ?hg9⟩) (by assumption) ?_
        case hg9 => (intro W hSw; obtain ⟨z0, z1, z2, z3, z4, z5, z6, z7, z8, z9, z10, z11, z12⟩ := SBox.all hSw.1; obtain ⟨y0, y1, y2, y3, y4, y5, y6, y7, y8, y9⟩ := NO.PBox.all hSw.2.1; obtain ⟨u0, u1, u2, u3, u4, u5, u6, u7⟩ := hSw.2.2.1.all; obtain ⟨k0, k1, k2⟩ := hSw.2.2.2.all; go_simp; (try with_reducible rfl))
        try simp only [Act.put, List.setIfInBounds_toArray, List.set_cons_zero, List.set_cons_succ]
        refine wpAnyH_take (i := 11) (oi := { dst := some 118, op := Op.move (Operand.tmp 15), type := 3, pos := "ref.go:155", after := #[], guard := none }) (v := ?vg10) rfl (by kernel_rfl) (by kernel_rfl) (by kernel_rfl) (fun _ _ _ h => h) (Or.inl ⟨by rfl, ?hg10⟩) (by assumption) ?_
        case hg10 => (intro W hSw; obtain ⟨z0, z1, z2, z3, z4, z5, z6, z7, z8, z9, z10, z11, z12⟩ := SBox.all hSw.1; obtain ⟨y0, y1, y2, y3, y4, y5, y6, y7, y8, y9⟩ := NO.PBox.all hSw.2.1; obtain ⟨u0, u1, u2, u3, u4, u5, u6, u7⟩ := hSw.2.2.1.all; obtain ⟨k0, k1, k2⟩ := hSw.2.2.2.all; go_simp; (try with_reducible rfl))
        try simp only [Act.put, List.setIfInBounds_toArray, List.set_cons_zero, List.set_cons_succ]
        refine wpAnyH_ready (rs := [3]) (by kernel_rfl) (by simp) ?_
        refine AllReadyH.cons (o := { dst := some 110, op := Op.call { callee := Callee.value (Operand.func 50), args := #[Operand.tmp 108, Operand.tmp 109, Operand.const (Value.int IntKind.i64 5)], argTypes := #[27, 32, 3] }, type := 32, pos := "ref.go:155", after := #[{ on := 1, ground := Ground.data }, { on := 2, ground := Ground.data }], guard := none }) rfl (fun K hK => ?_) AllReadyH.nil
        go_simp
        go_at_call 50
        refine (HR5.out w11.drew (HI11.out.later D0.out)).mono ?_
        rintro e w7 ⟨q7, rfl, HAB7, hps7, hb7⟩
        have HB7 : Hid (Below w11.heap.size w11 w7) := Lib.hid ((D0.out).trans (hb7.mono (D0.out).size))
        have HPS7 := Lib.hid hps7
        have HL7 : Hid (q7.L.length ≤ 1000) := Lib.hid (by have e : (NO.absL q7.L).length = 2 := congrArg (fun r : NO.PktA => r.opts.length) HAB7.out; simp [NO.absL] at e; omega)
        clear hHeld
        refine hK.out _ _ ?hB11 (fun hHeld => ?_)
        case hB11 => (exact ⟨HX11.out.hx.later HB7.out, HX11.out.hp.later HB7.out, HM11.out.later HB7.out, HQ11.out.later HB7.out⟩)
        clear hK K
        try simp only [Act.put, List.setIfInBounds_toArray, List.set_cons_zero, List.set_cons_succ]
        refine wpAnyH_ready (rs := [6]) (by kernel_rfl) (by simp) ?_
        refine AllReadyH.cons (o := { dst := some 113, op := Op.call { callee := Callee.value (Operand.func 88), args := #[Operand.tmp 107, Operand.tmp 110, Operand.tmp 111, Operand.tmp 112], argTypes := #[27, 32, 23, 3] }, type := 32, pos := "ref.go:155", after := #[{ on := 0, ground := Ground.data }, { on := 3, ground := Ground.data }, { on := 4, ground := Ground.data }, { on := 5, ground := Ground.data }, { on := 3, ground := Ground.chain }], guard := none }) rfl (fun K hK => ?_) AllReadyH.nil
        go_simp
        go_at_call 88
        refine (rwith_any x q7 (NO.askA p.abs) n w7 (HPS7.out).pk HL7.out HNL.out).mono ?_
        rintro e w8 ⟨q8, rfl, HAB8, hps8, hb8⟩
        have HB8 : Hid (Below w11.heap.size w11 w8) := Lib.hid ((HB7.out).trans (hb8.mono (HB7.out).size))
        have HPS8 := Lib.hid hps8
        clear hHeld
        refine hK.out _ _ ?hB12 (fun hHeld => ?_)
        case hB12 => (exact ⟨HX11.out.hx.later HB8.out, HX11.out.hp.later HB8.out, HM11.out.later HB8.out, HQ11.out.later HB8.out⟩)
        clear hK K
        try simp only [Act.put, List.setIfInBounds_toArray, List.set_cons_zero, List.set_cons_succ]
        refine wpAnyH_ready (rs := [12]) (by kernel_rfl) (by simp) ?_
        refine AllReadyH.cons (o := { dst := some 119, op := Op.call { callee := Callee.value (Operand.func 93), args := #[Operand.tmp 115, Operand.tmp 116, Operand.tmp 117, Operand.tmp 118], argTypes := #[124, 42, 3, 3] }, type := 3, pos := "ref.go:155", after := #[{ on := 8, ground := Ground.data }, { on := 9, ground := Ground.data }, { on := 10, ground := Ground.data }, { on := 11, ground := Ground.data }, { on := 6, ground := Ground.chain }], guard := none }) rfl (fun K hK => ?_) AllReadyH.nil
        go_simp
        go_at_call 93
        refine (HPO.out m w8 HMO.out).mono ?_
        rintro e w9 ⟨rfl, hbp⟩
        have HB9 : Hid (Below w11.heap.size w11 w9) := Lib.hid ((HB8.out).trans (hbp.mono (HB8.out).size))
        have HPS9 := Lib.hid (HPS8.out.later hbp)
        clear hHeld
        refine hK.out _ _ ?hB13 (fun hHeld => ?_)
        case hB13 => (exact ⟨HX11.out.hx.later HB9.out, HX11.out.hp.later HB9.out, HM11.out.later HB9.out, HQ11.out.later HB9.out⟩)
        clear hK K
        try simp only [Act.put, List.setIfInBounds_toArray, List.set_cons_zero, List.set_cons_succ]
        refine wpAnyH_take (i := 13) (oi := { dst := some 120, op := Op.build 44 #[(0, Operand.const (Value.bool true)), (1, Operand.tmp 113), (2, Operand.const (Value.bool true)), (3, Operand.tmp 114), (4, Operand.tmp 119)], type := 44, pos := "ref.go:155", after := #[{ on := 6, ground := Ground.data }, { on := 7, ground := Ground.data }, { on := 12, ground := Ground.data }], guard := none }) (v := ?vg14) rfl (by kernel_rfl) (by kernel_rfl) (by kernel_rfl) (fun _ _ _ h => h) (Or.inl ⟨by rfl, ?hg14⟩) (by assumption) ?_
        case hg14 => (intro W hSw; obtain ⟨z0, z1, z2, z3, z4, z5, z6, z7, z8, z9, z10, z11, z12⟩ := SBox.all hSw.1; obtain ⟨y0, y1, y2, y3, y4, y5, y6, y7, y8, y9⟩ := NO.PBox.all hSw.2.1; obtain ⟨u0, u1, u2, u3, u4, u5, u6, u7⟩ := hSw.2.2.1.all; obtain ⟨k0, k1, k2⟩ := hSw.2.2.2.all; go_simp; (try with_reducible rfl))
        try simp only [Act.put, List.setIfInBounds_toArray, List.set_cons_zero, List.set_cons_succ]
        refine wpAnyH_ready (rs := [14]) (by kernel_rfl) (by simp) ?_
        refine AllReadyH.cons (o := { dst := none, op := Op.store 44 (Operand.tmp 12) (Operand.tmp 120), type := 0, pos := "ref.go:155", after := #[{ on := 13, ground := Ground.data }, { on := 12, ground := Ground.chain }, { on := 0, ground := Ground.phase }, { on := 1, ground := Ground.phase }, { on := 2, ground := Ground.phase }, { on := 3, ground := Ground.phase }, { on := 4, ground := Ground.phase }, { on := 5, ground := Ground.phase }, { on := 6, ground := Ground.phase }, { on := 7, ground := Ground.phase }, { on := 8, ground := Ground.phase }, { on := 9, ground := Ground.phase }, { on := 10, ground := Ground.phase }, { on := 11, ground := Ground.phase }, { on := 12, ground := Ground.phase }, { on := 13, ground := Ground.phase }], guard := none }) rfl (fun K hK => ?_) AllReadyH.nil
        have HX8 : Hid (RBx w w9 x p) := Lib.hid (HX11.out.later HB9.out)
        refine step_storeR rowA rfl _ _ rfl (w.heap.size + 1 + 1) (⟨true, q8, true, m, NC.potV m now (wantE x p.abs)⟩ : AnW).cells rfl rfl HX8.out.hz rfl rfl rfl ?_
        have hlo := below_setRow (B := w.heap.size + 1 + 1) w9 (w.heap.size + 1 + 1) (⟨true, q8, true, m, NC.potV m now (wantE x p.abs)⟩ : AnW).cells (Nat.le_refl _)
        have hlg : LBox (w9.setRow (w.heap.size + 1 + 1) (⟨true, q8, true, m, NC.potV m now (wantE x p.abs)⟩ : AnW).cells) gm m := (setRow_other w9 (w.heap.size + 1 + 1) gm (⟨true, q8, true, m, NC.potV m now (wantE x p.abs)⟩ : AnW).cells (by have := HGM.out; omega)).trans (HM11.out.later HB9.out)
        have hlr : NC.R3 124 (w9.setRow (w.heap.size + 1 + 1) (⟨true, q8, true, m, NC.potV m now (wantE x p.abs)⟩ : AnW).cells) gr x.id x.lead x.guard := (setRow_other w9 (w.heap.size + 1 + 1) gr (⟨true, q8, true, m, NC.potV m now (wantE x p.abs)⟩ : AnW).cells (by have := HGR.out; omega)).trans (HQ11.out.later HB9.out)
        clear hHeld
        refine hK.out _ _ ?hB15 (fun hHeld => ?_)
        case hB15 => (exact ⟨HX8.out.hx.below hlo (by omega), (show Bx _ (w.heap.size + 1) 32 p.cells from Bx.below (show Bx w9 (w.heap.size + 1) 32 p.cells from HX8.out.hp) hlo (by omega)), hlg, hlr⟩)
        clear hK K
        try simp only [Act.put]
        refine wpAnyH_done (by kernel_rfl) ?_ _
        go_wp2
        refine HX8.out.end_ (⟨true, q8, true, m, NC.potV m now (wantE x p.abs)⟩ : AnW) rfl rfl ?_ (((HPS9.out).set HX8.out.hz (Nat.lt_of_lt_of_le HLT11.out HB7.out.size) (no8_of rfl) _).more (by have := (Nat.lt_of_lt_of_le HLT11.out HB7.out.size); omega))
        rw [HXF.out]
        show AnsV.mk true q8.abs true m _ = _
        rw [HAB8.out, HAB7.out, HAD.out]
        rfl
end Go.Proofs.YtmaohnbddlccdaaGreat
end
