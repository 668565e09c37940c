/- Joined texts: EnrD, EnrF. -/
import Derived.Test.YtmaohnbddlccdaaGreatMrgEnrA
import Derived.Test.YtmaohnbddlccdaaGreatMrgEngJ
import Derived.Test.YtmaohnbddlccdaaGreatMrgEnrN
import Derived.Deep.AppendLies

/- engine, the document's: reply. (Written by wip/tools/genenrd.py.) -/
section
namespace Go.Proofs.YtmaohnbddlccdaaGreat
open Go.RowKit Go.Sort

theorem RepT.put4 {w wx : World} {b B0 : Nat} {p : NO.PktV} (h : RepT w wx b p B0) (ci : Nat) : RepT w (wx.setCell ⟨b, 4, none⟩ (.int .u32 (ci : Int))) b { p with ci := ci } B0 :=
  ⟨h.rep.put 4 _ _ rfl rfl rfl, RowE.cell h.row (Nat.le_of_lt h.rep.ge) (fun e => by have := h.own b e; have := h.lt; omega) 4 _, h.own, by_cell h.hw h.rep.box (pktP_no8 p) 4 _, fun x hx => by_cell (h.dat x hx) h.rep.box (pktP_no8 p) 4 _, h.lt, by rw [setCell_size]; exact h.le⟩
theorem RepT.pks {w wx : World} {b B0 : Nat} {p : NO.PktV} (h : RepT w wx b p B0) : PkS (w.heap.size + 1) wx p := by
  refine ⟨⟨h.rep.hw, op_of (El.of_own h.row.own) (fun x hx => (h.dat x hx).more h.le)⟩, ?_⟩
  intro b' o' e hn
  have h1 : (Value.slice p.opA p.L.length p.opC).ownBlock = some b' := by
    obtain ⟨g1, n1, c1, hv, hlo, hh⟩ := h.row.own.2.resolve_left (fun h0 => hn (List.eq_nil_of_length_eq_zero h0.2))
    rw [hv]
    have : (Value.slice p.opA p.L.length p.opC) = .slice (some ⟨g1, 0, none⟩) p.L.length n1 := hv
    injection this with e1 _ _
    rw [e1] at e
    injection e with e
    injection e with e
    rw [e]
    rfl
  have := h.own b' h1
  have := h.lt
  have := h.rep.ge
  omega
/-- Two options are laid, as a literal. -/
theorem rep_opts {w w5 : World} {b : Nat} {q : NO.PktV} (h : RepS w w5 b q) (y z : NO.OptV) (hy : NO.By w5 w5.heap.size y.ad y.data) (hz : NO.By w5 w5.heap.size z.ad z.data) :
    RepT w ((w5.alloc (.cells #[.int .i64 y.code, .slice y.ad y.data.length y.cap, .int .i64 z.code, .slice z.ad z.data.length z.cap] 68)).setCell ⟨b, 9, none⟩ (.slice (some ⟨w5.heap.size, 0, none⟩) 2 2)) b { q with opA := some ⟨w5.heap.size, 0, none⟩, opC := 2, L := [y, z] } w5.heap.size := by
  have h8 : Below w5.heap.size w5 (w5.alloc (.cells #[.int .i64 y.code, .slice y.ad y.data.length y.cap, .int .i64 z.code, .slice z.ad z.data.length z.cap] 68)) := (Below.refl _ _).alloc (Nat.le_refl _) _
  have hr := RowE.lit (E := ElemO) (Below.refl w5.heap.size w5) [y, z] (by simp) #[.int .i64 y.code, .slice y.ad y.data.length y.cap, .int .i64 z.code, .slice z.ad z.data.length z.cap] (by simp [ecells, ElemO])
  exact repT_of (A8 := some ⟨w5.heap.size, 0, none⟩) (k8 := 2) (S8 := [y, z]) h hr (grownBy_of_below h8) (fun x hx => by
    simp at hx
    rcases hx with rfl | rfl
    · exact hy
    · exact hz)
/-- A number in four bytes, as the data of an option. -/
def GivesZ (w : World) (code : Int) (l : List UInt8) (e : Ending) (w' : World) : Prop := ∃ z : NO.OptV, e = .returned (.slice z.ad z.data.length z.cap) ∧ Hid (z.code = code ∧ z.data = l) ∧ NO.By w' w'.heap.size z.ad z.data ∧ Below w.heap.size w w'
theorem rfourZ_any (code n : Int) (hn : n < 9223372036854775808) (w : World) : Calls Tryz.prog 94 #[.int .i64 n] w (GivesZ w code (NO.bytR n 4).1) :=
  (rfour_any n hn w).mono (by rintro e w' ⟨A, c, h1, h2, h3⟩; exact ⟨⟨code, A, c, _⟩, h1, Lib.hid ⟨rfl, rfl⟩, h2, h3⟩)
theorem by_one {w : World} {g : Nat} (x : UInt8) (h : Bx w g 5 #[.int .u8 (x.toNat : Int)]) : NO.By w w.heap.size (some ⟨g, 0, none⟩) [x] := ⟨fun i y hy => by
  have hi : i = 0 := by
    have := (List.getElem?_eq_some_iff.1 hy).1
    simp at this
    omega
  subst hi
  simp at hy
  subst hy
  exact ⟨g, 0, rfl, h.lt, h.at_ 0⟩⟩

set_option maxRecDepth 100000 in
set_option maxHeartbeats 8000000 in
theorem rreply_any (x : SiteV) (p : NO.PktV) (kind : Int) (w : World) (hp : NO.Pk w w.heap.size p) (hhw : p.hw.length ≤ 1000) (hsv : x.server < 4294967296) (hkd : kind = 2 ∨ kind = 5 ∨ kind = 6) :
    Calls Tryz.prog 50 #[x.v, p.v, .int .i64 kind] w (GivesP w (replyE x p.abs kind [])) := by
  obtain ⟨v0, hv0⟩ : ∃ v0, v0 = (w.alloc (.cells x.cells 27)).alloc (NO.pbox p) := ⟨_, rfl⟩
  obtain ⟨w0, hw0⟩ : ∃ w0, w0 = v0.alloc (NO.pbox zeroP) := ⟨_, rfl⟩
  have hs : (w.alloc (.cells x.cells 27)).heap.size = w.heap.size + 1 := by simp
  have hs2 : v0.heap.size = w.heap.size + 1 + 1 := by rw [hv0]; simp
  have hbv : Below w.heap.size w v0 := by rw [hv0]; exact ((Below.refl _ _).alloc (Nat.le_refl _) _).alloc (by simp) _
  have hb0 : Below v0.heap.size v0 w0 := by rw [hw0]; exact (Below.refl _ _).alloc (Nat.le_refl _) _
  have HX : Hid (SBox w0 w.heap.size x) := Lib.hid (by rw [hw0, hv0]; exact ((Bx.new _ _ _).alloc _).alloc _)
  have HP : Hid (Bx w0 (w.heap.size + 1) 32 p.cells) := Lib.hid (by rw [hw0, hv0, ← hs]; exact (Bx.new _ _ _).alloc _)
  have HZ : Hid (Bx w0 v0.heap.size 32 zeroP.cells) := Lib.hid (by rw [hw0]; exact Bx.new _ _ _)
  have HXV : Hid (SBox v0 w.heap.size x) := Lib.hid (by rw [hv0]; exact (Bx.new _ _ _).alloc _)
  have HPV : Hid (Bx v0 (w.heap.size + 1) 32 p.cells) := Lib.hid (by rw [hv0, ← hs]; exact Bx.new _ _ _)
  have HPK := Lib.hid (hp.later (hbv.trans (hb0.mono hbv.size)))
  have HBV := Lib.hid hbv
  have HB0 := Lib.hid hb0
  have HS2 := Lib.hid hs2
  have HW0 : Hid (w0 = (((w.alloc (.cells x.cells 27)).alloc (NO.pbox p)).alloc (.cells #[.int .i64 0, .int .u32 0, .int .i64 0, .int .i64 0, .int .u32 0, .int .u32 0, .int .u32 0, .int .u32 0, .slice none 0 0, .slice none 0 0] 32))) := Lib.hid (by rw [hw0, hv0]; rfl)
  obtain ⟨kb, hkb1, hkb2, hwk⟩ : ∃ kb : UInt8, kind = (kb.toNat : Int) ∧ (NO.bytR kind 1).1 = [kb] ∧ IntKind.u8.wrap kind = kind := by
    rcases hkd with rfl | rfl | rfl
    · exact ⟨2, by decide, by decide, by decide⟩
    · exact ⟨5, by decide, by decide, by decide⟩
    · exact ⟨6, by decide, by decide, by decide⟩
  have HKB := Lib.hid hkb1
  obtain ⟨X, hX⟩ : ∃ X, X = replyE x p.abs kind [] := ⟨_, rfl⟩
  rw [← hX]
  have HXX : Hid (X = ⟨2, p.xid, 0, p.flags, if kind = 5 then p.ci else 0, 0, x.server, p.gi, p.hw, [(53, [kb]), optE 54 (x.server : Int) 4]⟩) := Lib.hid (by rw [hX]; unfold replyE optE; rw [hkb2]; rfl)
  clear hv0 hw0 hs hs2 hbv hb0 hp hkd hkb1 hkb2 hX
  go_enter Tryz.func50, Tryz.ntmps50
  go_upto_region 1 with fail
  rw [← HW0.out]
  go_cut [7] (fun s7 wx => ∃ b A' c', s7 = ptE b ∧ RepS v0 wx b ⟨2, p.xid, 0, p.flags, 0, 0, x.server, p.gi, A', c', p.hw, none, 0, []⟩)
  case first =>
    refine wp_region_held_drew (S := fun W => Bx W (w.heap.size + 1) 32 p.cells ∧ SBox W w.heap.size x) (by kernel_rfl) ?hS1 (fun hHeld => ?_)
    case hS1 => exact ⟨HP.out.drew, HX.out.drew⟩
    have D0 : Hid (Below w0.heap.size w0 w0.drew) := Lib.hid ((Below.refl w0.heap.size w0).drew)
    refine wpAnyH_take (i := 0) (oi := { dst := some 8, op := Op.fieldAddr 32 (Operand.tmp 4) 1, type := 0, pos := "ref.go:69", after := #[], guard := none }) (v := ?vy1) rfl (by kernel_rfl) (by kernel_rfl) (by kernel_rfl) (fun _ _ _ h => h) (Or.inl ⟨by rfl, ?hy1⟩) (by assumption) ?_
    case hy1 => (intro W hSw; obtain ⟨z0, z1, z2, z3, z4, z5, z6, z7, z8, z9⟩ := NO.PBox.all (show NO.PBox W (w.heap.size + 1) p from hSw.1); have zs := hSw.2.at_ 3; go_simp; (try with_reducible rfl))
    try simp only [Act.put, List.setIfInBounds_toArray, List.set_cons_zero, List.set_cons_succ]
    refine wpAnyH_take (i := 1) (oi := { dst := some 9, op := Op.load 22 (Operand.tmp 8), type := 22, pos := "ref.go:69", after := #[{ on := 0, ground := Ground.data }], guard := none }) (v := ?vy2) rfl (by kernel_rfl) (by kernel_rfl) (by kernel_rfl) (fun _ _ _ h => h) (Or.inl ⟨by rfl, ?hy2⟩) (by assumption) ?_
    case hy2 => (intro W hSw; obtain ⟨z0, z1, z2, z3, z4, z5, z6, z7, z8, z9⟩ := NO.PBox.all (show NO.PBox W (w.heap.size + 1) p from hSw.1); have zs := hSw.2.at_ 3; go_simp; (try with_reducible rfl))
    try simp only [Act.put, List.setIfInBounds_toArray, List.set_cons_zero, List.set_cons_succ]
    refine wpAnyH_take (i := 2) (oi := { dst := some 10, op := Op.fieldAddr 32 (Operand.tmp 4) 3, type := 0, pos := "ref.go:69", after := #[], guard := none }) (v := ?vy3) rfl (by kernel_rfl) (by kernel_rfl) (by kernel_rfl) (fun _ _ _ h => h) (Or.inl ⟨by rfl, ?hy3⟩) (by assumption) ?_
    case hy3 => (intro W hSw; obtain ⟨z0, z1, z2, z3, z4, z5, z6, z7, z8, z9⟩ := NO.PBox.all (show NO.PBox W (w.heap.size + 1) p from hSw.1); have zs := hSw.2.at_ 3; go_simp; (try with_reducible rfl))
    try simp only [Act.put, List.setIfInBounds_toArray, List.set_cons_zero, List.set_cons_succ]
    refine wpAnyH_take (i := 3) (oi := { dst := some 11, op := Op.load 3 (Operand.tmp 10), type := 3, pos := "ref.go:69", after := #[{ on := 2, ground := Ground.data }], guard := none }) (v := ?vy4) rfl (by kernel_rfl) (by kernel_rfl) (by kernel_rfl) (fun _ _ _ h => h) (Or.inl ⟨by rfl, ?hy4⟩) (by assumption) ?_
    case hy4 => (intro W hSw; obtain ⟨z0, z1, z2, z3, z4, z5, z6, z7, z8, z9⟩ := NO.PBox.all (show NO.PBox W (w.heap.size + 1) p from hSw.1); have zs := hSw.2.at_ 3; go_simp; (try with_reducible rfl))
    try simp only [Act.put, List.setIfInBounds_toArray, List.set_cons_zero, List.set_cons_succ]
    refine wpAnyH_take (i := 4) (oi := { dst := some 12, op := Op.fieldAddr 32 (Operand.tmp 4) 7, type := 0, pos := "ref.go:69", after := #[], guard := none }) (v := ?vy5) rfl (by kernel_rfl) (by kernel_rfl) (by kernel_rfl) (fun _ _ _ h => h) (Or.inl ⟨by rfl, ?hy5⟩) (by assumption) ?_
    case hy5 => (intro W hSw; obtain ⟨z0, z1, z2, z3, z4, z5, z6, z7, z8, z9⟩ := NO.PBox.all (show NO.PBox W (w.heap.size + 1) p from hSw.1); have zs := hSw.2.at_ 3; go_simp; (try with_reducible rfl))
    try simp only [Act.put, List.setIfInBounds_toArray, List.set_cons_zero, List.set_cons_succ]
    refine wpAnyH_take (i := 5) (oi := { dst := some 13, op := Op.load 23 (Operand.tmp 12), type := 23, pos := "ref.go:69", after := #[{ on := 4, ground := Ground.data }], guard := none }) (v := ?vy6) rfl (by kernel_rfl) (by kernel_rfl) (by kernel_rfl) (fun _ _ _ h => h) (Or.inl ⟨by rfl, ?hy6⟩) (by assumption) ?_
    case hy6 => (intro W hSw; obtain ⟨z0, z1, z2, z3, z4, z5, z6, z7, z8, z9⟩ := NO.PBox.all (show NO.PBox W (w.heap.size + 1) p from hSw.1); have zs := hSw.2.at_ 3; go_simp; (try with_reducible rfl))
    try simp only [Act.put, List.setIfInBounds_toArray, List.set_cons_zero, List.set_cons_succ]
    refine wpAnyH_take (i := 7) (oi := { dst := some 15, op := Op.fieldAddr 32 (Operand.tmp 4) 8, type := 0, pos := "ref.go:69", after := #[], guard := none }) (v := ?vy7) rfl (by kernel_rfl) (by kernel_rfl) (by kernel_rfl) (fun _ _ _ h => h) (Or.inl ⟨by rfl, ?hy7⟩) (by assumption) ?_
    case hy7 => (intro W hSw; obtain ⟨z0, z1, z2, z3, z4, z5, z6, z7, z8, z9⟩ := NO.PBox.all (show NO.PBox W (w.heap.size + 1) p from hSw.1); have zs := hSw.2.at_ 3; go_simp; (try with_reducible rfl))
    try simp only [Act.put, List.setIfInBounds_toArray, List.set_cons_zero, List.set_cons_succ]
    refine wpAnyH_take (i := 8) (oi := { dst := some 16, op := Op.load 29 (Operand.tmp 15), type := 29, pos := "ref.go:69", after := #[{ on := 7, ground := Ground.data }], guard := none }) (v := ?vy8) rfl (by kernel_rfl) (by kernel_rfl) (by kernel_rfl) (fun _ _ _ h => h) (Or.inl ⟨by rfl, ?hy8⟩) (by assumption) ?_
    case hy8 => (intro W hSw; obtain ⟨z0, z1, z2, z3, z4, z5, z6, z7, z8, z9⟩ := NO.PBox.all (show NO.PBox W (w.heap.size + 1) p from hSw.1); have zs := hSw.2.at_ 3; go_simp; (try with_reducible rfl))
    try simp only [Act.put, List.setIfInBounds_toArray, List.set_cons_zero, List.set_cons_succ]
    refine wpAnyH_take (i := 10) (oi := { dst := some 18, op := Op.fieldAddr 27 (Operand.tmp 3) 3, type := 0, pos := "ref.go:69", after := #[], guard := none }) (v := ?vy9) rfl (by kernel_rfl) (by kernel_rfl) (by kernel_rfl) (fun _ _ _ h => h) (Or.inl ⟨by rfl, ?hy9⟩) (by assumption) ?_
    case hy9 => (intro W hSw; obtain ⟨z0, z1, z2, z3, z4, z5, z6, z7, z8, z9⟩ := NO.PBox.all (show NO.PBox W (w.heap.size + 1) p from hSw.1); have zs := hSw.2.at_ 3; go_simp; (try with_reducible rfl))
    try simp only [Act.put, List.setIfInBounds_toArray, List.set_cons_zero, List.set_cons_succ]
    refine wpAnyH_take (i := 11) (oi := { dst := some 19, op := Op.load 23 (Operand.tmp 18), type := 23, pos := "ref.go:69", after := #[{ on := 10, ground := Ground.data }], guard := none }) (v := ?vy10) rfl (by kernel_rfl) (by kernel_rfl) (by kernel_rfl) (fun _ _ _ h => h) (Or.inl ⟨by rfl, ?hy10⟩) (by assumption) ?_
    case hy10 => (intro W hSw; obtain ⟨z0, z1, z2, z3, z4, z5, z6, z7, z8, z9⟩ := NO.PBox.all (show NO.PBox W (w.heap.size + 1) p from hSw.1); have zs := hSw.2.at_ 3; go_simp; (try with_reducible rfl))
    try simp only [Act.put, List.setIfInBounds_toArray, List.set_cons_zero, List.set_cons_succ]
    refine wpAnyH_ready (rs := [6, 13]) (by kernel_rfl) (by simp) ?_
    refine AllReadyH.cons (o := { dst := some 14, op := Op.buildSlice 29 0 #[], type := 29, pos := "ref.go:69", after := #[], guard := none }) rfl (fun K hK => ?_) (AllReadyH.cons (o := { dst := some 7, op := Op.alloc 32, type := 0, pos := "ref.go:69", after := #[], guard := none }) rfl (fun K hK => ?_) AllReadyH.nil)
    · go_simp
      have HB1 : Hid (Below w0.heap.size w0 ((w0.drew).alloc (.cells #[] 5))) := Lib.hid ((D0.out).alloc (D0.out).size _)
      have HOW : Hid (((w0.drew).alloc (.cells #[] 5)).ownsRow w0.heap.size 5 1 (.slice (some ⟨w0.heap.size, 0, none⟩) 0 0) 0 []) := Lib.hid (by have h := World.ownsRow_lit (base := w0.heap.size) (e := 5) (size := 1) (w0.drew) #[] 0 (D0.out).size (by unfold maxLen; omega) rfl; rw [show (w0.drew).heap.size = w0.heap.size from by first | rfl | simp | (simp; rfl)] at h; exact h)
      clear hHeld
      refine hK.out _ _ ?hB11 (fun hHeld => ?_)
      case hB11 => (exact ⟨HP.out.below HB1.out HP.out.lt, HX.out.below HB1.out HX.out.lt⟩)
      clear hK K
      try simp only [Act.put, List.setIfInBounds_toArray, List.set_cons_zero, List.set_cons_succ]
      refine wpAnyH_ready (rs := [9, 13]) (by kernel_rfl) (by simp) ?_
      refine AllReadyH.cons (o := { dst := some 17, op := Op.call { callee := Callee.builtin Builtin.append, args := #[Operand.tmp 14, Operand.tmp 16], argTypes := #[29, 29] }, type := 29, pos := "ref.go:69", after := #[{ on := 6, ground := Ground.data }, { on := 8, ground := Ground.data }], guard := none }) rfl (fun K hK => ?_) (AllReadyH.cons (o := { dst := some 7, op := Op.alloc 32, type := 0, pos := "ref.go:69", after := #[], guard := none }) rfl (fun K hK => ?_) AllReadyH.nil)
      · refine NO.step_appBm rfl (.tmp 14) (.tmp 16) rfl w0.heap.size _ 0 _ rfl HOW.out _ _ p.hw p.hw.length p.hwC rfl rfl (HPK.out.later (show Below w0.heap.size w0 _ from HB1.out)).hw p.hw.length (by omega) (by omega) (HB1.out).size ?_
        intro A4 c4 w4 ho4 hg4
        have hb4 : Below w0.heap.size _ w4 := NO.below_of_grown hg4 (HB1.out).size (fun g e => by have e2 : w0.heap.size = g := Option.some.inj e; omega)
        have HB4 : Hid (Below w0.heap.size w0 w4) := Lib.hid ((HB1.out).trans hb4)
        have HBY : Hid (NO.By w4 w4.heap.size A4 p.hw) := Lib.hid (NO.By.of_own (by simpa using ho4))
        clear hHeld
        refine hK.out _ _ ?hB12 (fun hHeld => ?_)
        case hB12 => (exact ⟨HP.out.below HB4.out HP.out.lt, HX.out.below HB4.out HX.out.lt⟩)
        clear hK K
        try simp only [Act.put, List.setIfInBounds_toArray, List.set_cons_zero, List.set_cons_succ]
        refine wpAnyH_take (i := 12) (oi := { dst := some 20, op := Op.build 32 #[(0, Operand.const (Value.int IntKind.i64 2)), (1, Operand.tmp 9), (3, Operand.tmp 11), (7, Operand.tmp 13), (8, Operand.tmp 17), (6, Operand.tmp 19)], type := 32, pos := "ref.go:69", after := #[{ on := 1, ground := Ground.data }, { on := 3, ground := Ground.data }, { on := 5, ground := Ground.data }, { on := 9, ground := Ground.data }, { on := 11, ground := Ground.data }], guard := none }) (v := ?vy13) rfl (by kernel_rfl) (by kernel_rfl) (by kernel_rfl) (fun _ _ _ h => h) (Or.inl ⟨by rfl, ?hy13⟩) (by assumption) ?_
        case hy13 => (intro W hSw; obtain ⟨z0, z1, z2, z3, z4, z5, z6, z7, z8, z9⟩ := NO.PBox.all (show NO.PBox W (w.heap.size + 1) p from hSw.1); have zs := hSw.2.at_ 3; go_simp; (try with_reducible rfl))
        try simp only [Act.put, List.setIfInBounds_toArray, List.set_cons_zero, List.set_cons_succ]
        refine wpAnyH_ready (rs := [13]) (by kernel_rfl) (by simp) ?_
        refine AllReadyH.cons (o := { dst := some 7, op := Op.alloc 32, type := 0, pos := "ref.go:69", after := #[], guard := none }) rfl (fun K hK => ?_) AllReadyH.nil
        go_simp
        have HB5 : Hid (Below w0.heap.size w0 ((w4).alloc (.cells #[.int .i64 0, .int .u32 0, .int .i64 0, .int .i64 0, .int .u32 0, .int .u32 0, .int .u32 0, .int .u32 0, .slice none 0 0, .slice none 0 0] 32))) := Lib.hid ((HB4.out).alloc (HB4.out).size _)
        have HBX : Hid (Bx ((w4).alloc (.cells #[.int .i64 0, .int .u32 0, .int .i64 0, .int .i64 0, .int .u32 0, .int .u32 0, .int .u32 0, .int .u32 0, .slice none 0 0, .slice none 0 0] 32)) (w4.heap.size) 32 zeroP.cells) := Lib.hid (by have h := Bx.new (w4) 32 zeroP.cells; rw [show (w4).heap.size = w4.heap.size from by first | rfl | simp | (simp; rfl)] at h; exact h)
        clear hHeld
        refine hK.out _ _ ?hB14 (fun hHeld => ?_)
        case hB14 => (exact ⟨HP.out.below HB5.out HP.out.lt, HX.out.below HB5.out HX.out.lt⟩)
        clear hK K
        try simp only [Act.put, List.setIfInBounds_toArray, List.set_cons_zero, List.set_cons_succ]
        refine wpAnyH_ready (rs := [14]) (by kernel_rfl) (by simp) ?_
        refine AllReadyH.cons (o := { dst := none, op := Op.store 32 (Operand.tmp 7) (Operand.tmp 20), type := 0, pos := "ref.go:69", after := #[{ on := 13, ground := Ground.data }, { on := 12, ground := Ground.data }, { on := 9, ground := Ground.chain }, { on := 0, ground := Ground.phase }, { on := 1, ground := Ground.phase }, { on := 2, ground := Ground.phase }, { on := 3, ground := Ground.phase }, { on := 4, ground := Ground.phase }, { on := 5, ground := Ground.phase }, { on := 6, ground := Ground.phase }, { on := 7, ground := Ground.phase }, { on := 8, ground := Ground.phase }, { on := 9, ground := Ground.phase }, { on := 10, ground := Ground.phase }, { on := 11, ground := Ground.phase }, { on := 12, ground := Ground.phase }, { on := 13, ground := Ground.phase }], guard := none }) rfl (fun K hK => ?_) AllReadyH.nil
        refine step_storeR rowP rfl _ _ rfl w4.heap.size (⟨2, p.xid, 0, p.flags, 0, 0, x.server, p.gi, A4, c4, p.hw, none, 0, []⟩ : NO.PktV).cells rfl rfl HBX.out rfl rfl rfl ?_
        have hfin := (HB5.out).trans (below_setRow (B := w0.heap.size) _ w4.heap.size (⟨2, p.xid, 0, p.flags, 0, 0, x.server, p.gi, A4, c4, p.hw, none, 0, []⟩ : NO.PktV).cells HB4.out.size)
        clear hHeld
        refine hK.out _ _ ?hB15 (fun hHeld => ?_)
        case hB15 => (exact ⟨HP.out.below hfin HP.out.lt, HX.out.below hfin HX.out.lt⟩)
        clear hK K
        try simp only [Act.put]
        refine wpAnyH_done (by kernel_rfl) ?_ _
        go_wp2
        go_meet
        exact ⟨w4.heap.size, A4, c4, rfl, RepS.mk' hfin HB0.out HZ.out ((HBX.out).set _) HB4.out.size (by rw [setRow_size]; exact by_set (by have h := HBY.out.later ((Below.refl w4.heap.size w4).alloc (Nat.le_refl _) (.cells #[.int .i64 0, .int .u32 0, .int .i64 0, .int .i64 0, .int .u32 0, .int .u32 0, .int .u32 0, .int .u32 0, .slice none 0 0, .slice none 0 0] 32)); exact h) (HBX.out) (pktP_no8 zeroP))⟩
      · go_simp
        have HB5 : Hid (Below w0.heap.size w0 ((w0.drew.alloc (.cells #[] 5)).alloc (.cells #[.int .i64 0, .int .u32 0, .int .i64 0, .int .i64 0, .int .u32 0, .int .u32 0, .int .u32 0, .int .u32 0, .slice none 0 0, .slice none 0 0] 32))) := Lib.hid ((HB1.out).alloc (HB1.out).size _)
        have HBX : Hid (Bx ((w0.drew.alloc (.cells #[] 5)).alloc (.cells #[.int .i64 0, .int .u32 0, .int .i64 0, .int .i64 0, .int .u32 0, .int .u32 0, .int .u32 0, .int .u32 0, .slice none 0 0, .slice none 0 0] 32)) (w0.heap.size + 1) 32 zeroP.cells) := Lib.hid (by have h := Bx.new (w0.drew.alloc (.cells #[] 5)) 32 zeroP.cells; rw [show (w0.drew.alloc (.cells #[] 5)).heap.size = w0.heap.size + 1 from by first | rfl | simp | (simp; rfl)] at h; exact h)
        clear hHeld
        refine hK.out _ _ ?hB16 (fun hHeld => ?_)
        case hB16 => (exact ⟨HP.out.below HB5.out HP.out.lt, HX.out.below HB5.out HX.out.lt⟩)
        clear hK K
        try simp only [Act.put, List.setIfInBounds_toArray, List.set_cons_zero, List.set_cons_succ]
        refine wpAnyH_ready (rs := [9]) (by kernel_rfl) (by simp) ?_
        refine AllReadyH.cons (o := { dst := some 17, op := Op.call { callee := Callee.builtin Builtin.append, args := #[Operand.tmp 14, Operand.tmp 16], argTypes := #[29, 29] }, type := 29, pos := "ref.go:69", after := #[{ on := 6, ground := Ground.data }, { on := 8, ground := Ground.data }], guard := none }) rfl (fun K hK => ?_) AllReadyH.nil
        refine NO.step_appBm rfl (.tmp 14) (.tmp 16) rfl w0.heap.size _ 0 _ rfl (HOW.out.alloc _) _ _ p.hw p.hw.length p.hwC rfl rfl (HPK.out.later (show Below w0.heap.size w0 _ from HB5.out)).hw p.hw.length (by omega) (by omega) (HB5.out).size ?_
        intro A4 c4 w4 ho4 hg4
        have hb4 : Below w0.heap.size _ w4 := NO.below_of_grown hg4 (HB5.out).size (fun g e => by have e2 : w0.heap.size = g := Option.some.inj e; omega)
        have HB4 : Hid (Below w0.heap.size w0 w4) := Lib.hid ((HB5.out).trans hb4)
        have HBY : Hid (NO.By w4 w4.heap.size A4 p.hw) := Lib.hid (NO.By.of_own (by simpa using ho4))
        have HBX4 := Lib.hid (Bx.grown HBX.out hg4 (by intro e; have e2 : w0.heap.size = w0.heap.size + 1 := Option.some.inj e; omega))
        clear hHeld
        refine hK.out _ _ ?hB17 (fun hHeld => ?_)
        case hB17 => (exact ⟨HP.out.below HB4.out HP.out.lt, HX.out.below HB4.out HX.out.lt⟩)
        clear hK K
        try simp only [Act.put, List.setIfInBounds_toArray, List.set_cons_zero, List.set_cons_succ]
        refine wpAnyH_take (i := 12) (oi := { dst := some 20, op := Op.build 32 #[(0, Operand.const (Value.int IntKind.i64 2)), (1, Operand.tmp 9), (3, Operand.tmp 11), (7, Operand.tmp 13), (8, Operand.tmp 17), (6, Operand.tmp 19)], type := 32, pos := "ref.go:69", after := #[{ on := 1, ground := Ground.data }, { on := 3, ground := Ground.data }, { on := 5, ground := Ground.data }, { on := 9, ground := Ground.data }, { on := 11, ground := Ground.data }], guard := none }) (v := ?vy18) rfl (by kernel_rfl) (by kernel_rfl) (by kernel_rfl) (fun _ _ _ h => h) (Or.inl ⟨by rfl, ?hy18⟩) (by assumption) ?_
        case hy18 => (intro W hSw; obtain ⟨z0, z1, z2, z3, z4, z5, z6, z7, z8, z9⟩ := NO.PBox.all (show NO.PBox W (w.heap.size + 1) p from hSw.1); have zs := hSw.2.at_ 3; go_simp; (try with_reducible rfl))
        try simp only [Act.put, List.setIfInBounds_toArray, List.set_cons_zero, List.set_cons_succ]
        refine wpAnyH_ready (rs := [14]) (by kernel_rfl) (by simp) ?_
        refine AllReadyH.cons (o := { dst := none, op := Op.store 32 (Operand.tmp 7) (Operand.tmp 20), type := 0, pos := "ref.go:69", after := #[{ on := 13, ground := Ground.data }, { on := 12, ground := Ground.data }, { on := 9, ground := Ground.chain }, { on := 0, ground := Ground.phase }, { on := 1, ground := Ground.phase }, { on := 2, ground := Ground.phase }, { on := 3, ground := Ground.phase }, { on := 4, ground := Ground.phase }, { on := 5, ground := Ground.phase }, { on := 6, ground := Ground.phase }, { on := 7, ground := Ground.phase }, { on := 8, ground := Ground.phase }, { on := 9, ground := Ground.phase }, { on := 10, ground := Ground.phase }, { on := 11, ground := Ground.phase }, { on := 12, ground := Ground.phase }, { on := 13, ground := Ground.phase }], guard := none }) rfl (fun K hK => ?_) AllReadyH.nil
        refine step_storeR rowP rfl _ _ rfl (w0.heap.size + 1) (⟨2, p.xid, 0, p.flags, 0, 0, x.server, p.gi, A4, c4, p.hw, none, 0, []⟩ : NO.PktV).cells rfl rfl HBX4.out rfl rfl rfl ?_
        have hfin := (HB4.out).trans (below_setRow (B := w0.heap.size) _ (w0.heap.size + 1) (⟨2, p.xid, 0, p.flags, 0, 0, x.server, p.gi, A4, c4, p.hw, none, 0, []⟩ : NO.PktV).cells (Nat.le_succ _))
        clear hHeld
        refine hK.out _ _ ?hB19 (fun hHeld => ?_)
        case hB19 => (exact ⟨HP.out.below hfin HP.out.lt, HX.out.below hfin HX.out.lt⟩)
        clear hK K
        try simp only [Act.put]
        refine wpAnyH_done (by kernel_rfl) ?_ _
        go_wp2
        go_meet
        exact ⟨(w0.heap.size + 1), A4, c4, rfl, RepS.mk' hfin HB0.out HZ.out ((HBX4.out).set _) (Nat.le_succ _) (by rw [setRow_size]; exact by_set HBY.out (HBX4.out) (pktP_no8 zeroP))⟩
    · go_simp
      have HB1 : Hid (Below w0.heap.size w0 ((w0.drew).alloc (.cells #[.int .i64 0, .int .u32 0, .int .i64 0, .int .i64 0, .int .u32 0, .int .u32 0, .int .u32 0, .int .u32 0, .slice none 0 0, .slice none 0 0] 32))) := Lib.hid ((D0.out).alloc (D0.out).size _)
      have HBX : Hid (Bx ((w0.drew).alloc (.cells #[.int .i64 0, .int .u32 0, .int .i64 0, .int .i64 0, .int .u32 0, .int .u32 0, .int .u32 0, .int .u32 0, .slice none 0 0, .slice none 0 0] 32)) (w0.heap.size) 32 zeroP.cells) := Lib.hid (by have h := Bx.new (w0.drew) 32 zeroP.cells; rw [show (w0.drew).heap.size = w0.heap.size from by first | rfl | simp | (simp; rfl)] at h; exact h)
      clear hHeld
      refine hK.out _ _ ?hB20 (fun hHeld => ?_)
      case hB20 => (exact ⟨HP.out.below HB1.out HP.out.lt, HX.out.below HB1.out HX.out.lt⟩)
      clear hK K
      try simp only [Act.put, List.setIfInBounds_toArray, List.set_cons_zero, List.set_cons_succ]
      refine wpAnyH_ready (rs := [6]) (by kernel_rfl) (by simp) ?_
      refine AllReadyH.cons (o := { dst := some 14, op := Op.buildSlice 29 0 #[], type := 29, pos := "ref.go:69", after := #[], guard := none }) rfl (fun K hK => ?_) AllReadyH.nil
      go_simp
      have HB5 : Hid (Below w0.heap.size w0 ((w0.drew.alloc (.cells #[.int .i64 0, .int .u32 0, .int .i64 0, .int .i64 0, .int .u32 0, .int .u32 0, .int .u32 0, .int .u32 0, .slice none 0 0, .slice none 0 0] 32)).alloc (.cells #[] 5))) := Lib.hid ((HB1.out).alloc (HB1.out).size _)
      have HOW : Hid (((w0.drew.alloc (.cells #[.int .i64 0, .int .u32 0, .int .i64 0, .int .i64 0, .int .u32 0, .int .u32 0, .int .u32 0, .int .u32 0, .slice none 0 0, .slice none 0 0] 32)).alloc (.cells #[] 5)).ownsRow w0.heap.size 5 1 (.slice (some ⟨w0.heap.size + 1, 0, none⟩) 0 0) 0 []) := Lib.hid (by have h := World.ownsRow_lit (base := w0.heap.size) (e := 5) (size := 1) (w0.drew.alloc (.cells #[.int .i64 0, .int .u32 0, .int .i64 0, .int .i64 0, .int .u32 0, .int .u32 0, .int .u32 0, .int .u32 0, .slice none 0 0, .slice none 0 0] 32)) #[] 0 (HB1.out).size (by unfold maxLen; omega) rfl; rw [show (w0.drew.alloc (.cells #[.int .i64 0, .int .u32 0, .int .i64 0, .int .i64 0, .int .u32 0, .int .u32 0, .int .u32 0, .int .u32 0, .slice none 0 0, .slice none 0 0] 32)).heap.size = w0.heap.size + 1 from by first | rfl | simp | (simp; rfl)] at h; exact h)
      have HBX5 := Lib.hid (HBX.out.alloc (.cells #[] 5))
      clear hHeld
      refine hK.out _ _ ?hB21 (fun hHeld => ?_)
      case hB21 => (exact ⟨HP.out.below HB5.out HP.out.lt, HX.out.below HB5.out HX.out.lt⟩)
      clear hK K
      try simp only [Act.put, List.setIfInBounds_toArray, List.set_cons_zero, List.set_cons_succ]
      refine wpAnyH_ready (rs := [9]) (by kernel_rfl) (by simp) ?_
      refine AllReadyH.cons (o := { dst := some 17, op := Op.call { callee := Callee.builtin Builtin.append, args := #[Operand.tmp 14, Operand.tmp 16], argTypes := #[29, 29] }, type := 29, pos := "ref.go:69", after := #[{ on := 6, ground := Ground.data }, { on := 8, ground := Ground.data }], guard := none }) rfl (fun K hK => ?_) AllReadyH.nil
      refine NO.step_appBm rfl (.tmp 14) (.tmp 16) rfl w0.heap.size _ 0 _ rfl HOW.out _ _ p.hw p.hw.length p.hwC rfl rfl (HPK.out.later (show Below w0.heap.size w0 _ from HB5.out)).hw p.hw.length (by omega) (by omega) (HB5.out).size ?_
      intro A4 c4 w4 ho4 hg4
      have hb4 : Below w0.heap.size _ w4 := NO.below_of_grown hg4 (HB5.out).size (fun g e => by have e2 : w0.heap.size + 1 = g := Option.some.inj e; omega)
      have HB4 : Hid (Below w0.heap.size w0 w4) := Lib.hid ((HB5.out).trans hb4)
      have HBY : Hid (NO.By w4 w4.heap.size A4 p.hw) := Lib.hid (NO.By.of_own (by simpa using ho4))
      have HBX4 := Lib.hid (Bx.grown HBX5.out hg4 (by intro e; have e2 : w0.heap.size + 1 = w0.heap.size := Option.some.inj e; omega))
      clear hHeld
      refine hK.out _ _ ?hB22 (fun hHeld => ?_)
      case hB22 => (exact ⟨HP.out.below HB4.out HP.out.lt, HX.out.below HB4.out HX.out.lt⟩)
      clear hK K
      try simp only [Act.put, List.setIfInBounds_toArray, List.set_cons_zero, List.set_cons_succ]
      refine wpAnyH_take (i := 12) (oi := { dst := some 20, op := Op.build 32 #[(0, Operand.const (Value.int IntKind.i64 2)), (1, Operand.tmp 9), (3, Operand.tmp 11), (7, Operand.tmp 13), (8, Operand.tmp 17), (6, Operand.tmp 19)], type := 32, pos := "ref.go:69", after := #[{ on := 1, ground := Ground.data }, { on := 3, ground := Ground.data }, { on := 5, ground := Ground.data }, { on := 9, ground := Ground.data }, { on := 11, ground := Ground.data }], guard := none }) (v := ?vy23) rfl (by kernel_rfl) (by kernel_rfl) (by kernel_rfl) (fun _ _ _ h => h) (Or.inl ⟨by rfl, ?hy23⟩) (by assumption) ?_
      case hy23 => (intro W hSw; obtain ⟨z0, z1, z2, z3, z4, z5, z6, z7, z8, z9⟩ := NO.PBox.all (show NO.PBox W (w.heap.size + 1) p from hSw.1); have zs := hSw.2.at_ 3; go_simp; (try with_reducible rfl))
      try simp only [Act.put, List.setIfInBounds_toArray, List.set_cons_zero, List.set_cons_succ]
      refine wpAnyH_ready (rs := [14]) (by kernel_rfl) (by simp) ?_
      refine AllReadyH.cons (o := { dst := none, op := Op.store 32 (Operand.tmp 7) (Operand.tmp 20), type := 0, pos := "ref.go:69", after := #[{ on := 13, ground := Ground.data }, { on := 12, ground := Ground.data }, { on := 9, ground := Ground.chain }, { on := 0, ground := Ground.phase }, { on := 1, ground := Ground.phase }, { on := 2, ground := Ground.phase }, { on := 3, ground := Ground.phase }, { on := 4, ground := Ground.phase }, { on := 5, ground := Ground.phase }, { on := 6, ground := Ground.phase }, { on := 7, ground := Ground.phase }, { on := 8, ground := Ground.phase }, { on := 9, ground := Ground.phase }, { on := 10, ground := Ground.phase }, { on := 11, ground := Ground.phase }, { on := 12, ground := Ground.phase }, { on := 13, ground := Ground.phase }], guard := none }) rfl (fun K hK => ?_) AllReadyH.nil
      refine step_storeR rowP rfl _ _ rfl w0.heap.size (⟨2, p.xid, 0, p.flags, 0, 0, x.server, p.gi, A4, c4, p.hw, none, 0, []⟩ : NO.PktV).cells rfl rfl HBX4.out rfl rfl rfl ?_
      have hfin := (HB4.out).trans (below_setRow (B := w0.heap.size) _ w0.heap.size (⟨2, p.xid, 0, p.flags, 0, 0, x.server, p.gi, A4, c4, p.hw, none, 0, []⟩ : NO.PktV).cells (Nat.le_refl _))
      clear hHeld
      refine hK.out _ _ ?hB24 (fun hHeld => ?_)
      case hB24 => (exact ⟨HP.out.below hfin HP.out.lt, HX.out.below hfin HX.out.lt⟩)
      clear hK K
      try simp only [Act.put]
      refine wpAnyH_done (by kernel_rfl) ?_ _
      go_wp2
      go_meet
      exact ⟨w0.heap.size, A4, c4, rfl, RepS.mk' hfin HB0.out HZ.out ((HBX4.out).set _) (Nat.le_refl _) (by rw [setRow_size]; exact by_set HBY.out (HBX4.out) (pktP_no8 zeroP))⟩
  case rest =>
    obtain ⟨b, A1, c1, rfl, hR⟩ := hcut
    have HR := Lib.hid hR
    have HF := Lib.hid (fun V => rfourZ_any 54 (x.server : Int) (by omega) V)
    have hwr : IntKind.i64.wrap (x.server : Int) = x.server := IntWalk.i64_in _ (by omega)
    clear HX HP HZ HPK HB0 HW0
    have HXX2 : Hid (X = ⟨2, p.xid, 0, p.flags, if kind = 5 then p.ci else 0, 0, x.server, p.gi, p.hw, [(53, [kb]), (54, (NO.bytR (x.server : Int) 4).1)]⟩) := Lib.hid HXX.out
    clear HXX hR
    generalize (NO.bytR (x.server : Int) 4).1 = l5 at *
    obtain ⟨w4, hw4⟩ : ∃ w4, w4 = wc.alloc (.cells #[.int .u8 kind] 5) := ⟨_, rfl⟩
    have h4 : Below wc.heap.size wc w4 := by rw [hw4]; exact (Below.refl _ _).alloc (Nat.le_refl _) _
    have hd1 : NO.By w4 w4.heap.size (some ⟨wc.heap.size, 0, none⟩) [kb] := by_one kb (by rw [hw4, HKB.out]; exact Bx.new _ _ _)
    have HD1 := Lib.hid hd1
    have HR4 := Lib.hid (HR.out.later h4)
    have HW4 := Lib.hid hw4
    have y3 : (wc.alloc (.cells #[.int .u8 kind] 5)).cell? ⟨w.heap.size, 3, none⟩ = some (.int .u32 (x.server : Int)) := ((HXV.out.later HR.out.low).alloc _).at_ 3
    clear hw4 h4 hd1 HR
    obtain ⟨g4, hg4⟩ : ∃ g4, g4 = wc.heap.size := ⟨_, rfl⟩
    have HG4 := Lib.hid hg4
    rw [← hg4] at HD1
    clear hg4
    go_wp2_with fail
    rw [← HW4.out, ← HG4.out]
    refine (HF.out w4).mono ?_
    rintro e w5 ⟨z, rfl, HZC, hzb, hb5⟩
    have HR5 := Lib.hid (HR4.out.later hb5)
    have b9 : (w5.alloc (.cells #[.int .i64 53, .slice (some ⟨g4, 0, none⟩) 1 1, .int .i64 54, .slice z.ad z.data.length z.cap] 68)).cell? ⟨b, 9, none⟩ = some (.slice none 0 0) := (HR5.out.box.alloc _).at_ 9
    have f9 := (HR5.out.box.alloc (.cells #[.int .i64 53, .slice (some ⟨g4, 0, none⟩) 1 1, .int .i64 54, .slice z.ad z.data.length z.cap] 68)).free 9
    obtain ⟨y, hyc, hya, hyk, hyd, hyb⟩ : ∃ y : NO.OptV, y.code = 53 ∧ y.ad = some ⟨g4, 0, none⟩ ∧ y.cap = 1 ∧ y.data = [kb] ∧ NO.By w5 w5.heap.size y.ad y.data := ⟨⟨53, some ⟨g4, 0, none⟩, 1, [kb]⟩, rfl, rfl, rfl, rfl, HD1.out.later hb5⟩
    have HT := rep_opts HR5.out y z hyb hzb
    rw [hyc, hya, hyk, hyd, HZC.out.1, List.length_singleton] at HT
    have HYZ : Hid ([y.abs, z.abs] = [(53, [kb]), (54, l5)]) := Lib.hid (by unfold NO.OptV.abs; rw [hyc, hyd, HZC.out.1, HZC.out.2])
    have HT := Lib.hid HT
    clear hyc hya hyk hyd hyb hzb hb5 y3 HR4 HD1 HR5 HZC
    go_upto_if 33 with fail
    obtain ⟨B0, hB0⟩ : ∃ B0, B0 = w5.heap.size := ⟨_, rfl⟩
    rw [← hB0] at HT ⊢
    clear b9 f9 hB0
    generalize ((w5.alloc (.cells #[.int .i64 53, .slice (some ⟨g4, 0, none⟩) 1 1, .int .i64 54, .slice z.ad z.data.length z.cap] 68)).setCell ⟨b, 9, none⟩ (.slice (some ⟨B0, 0, none⟩) 2 2)) = w9 at *
    have p4 := (HPV.out.later HT.out.rep.low).at_ 4
    have b4 := HT.out.rep.box.at_ 4
    have f4 := HT.out.rep.box.free 4
    go_cut [] (fun wx => RepT v0 wx b ⟨2, p.xid, 0, p.flags, if kind = 5 then p.ci else 0, 0, x.server, p.gi, A1, c1, p.hw, some ⟨B0, 0, none⟩, 2, [y, z]⟩ B0)
    case first =>
      by_cases hk : kind = 5
      · have HR2 := Lib.hid (HT.out.put4 p.ci)
        have t5 : (kind == 5) = true := by simp [hk]
        have HKK := Lib.hid hk
        clear hk
        go_wp2
        go_meet
        rw [if_pos HKK.out]
        exact HR2.out
      · have t5 : (kind == 5) = false := by simpa using hk
        have HKK := Lib.hid hk
        clear hk
        go_wp2
        go_meet
        rw [if_neg HKK.out]
        exact HT.out
    case rest =>
      have HR2 := Lib.hid hcut
      clear hcut p4 b4 f4 HT
      generalize (if kind = 5 then p.ci else 0) = ci at *
      have hZ := HR2.out.rep.zero
      have HZ9 : Hid (Bx wc (w.heap.size + 1 + 1) 32 zeroP.cells) := Lib.hid (by rw [← HS2.out]; exact hZ)
      have HPS := Lib.hid (HR2.out.pks)
      rw [HS2.out] at HPS
      clear hZ
      go_wp2_with (first
        | (refine wp_loadR rowP rfl _ rfl b rfl HR2.out.rep.box rfl ?_)
        | (refine wp_storeR rowP rfl _ _ rfl (w.heap.size + 1 + 1) _ rfl rfl HZ9.out rfl rfl rfl ?_))
      have HE := Lib.hid (HPS.out.set HZ9.out (Nat.lt_succ_self _) (pktP_no8 zeroP) (NO.PktV.cells ⟨2, p.xid, 0, p.flags, ci, 0, x.server, p.gi, A1, c1, p.hw, some ⟨B0, 0, none⟩, 2, [y, z]⟩))
      have HL := Lib.hid ((HBV.out.trans (HR2.out.rep.low.mono HBV.out.size)).trans (below_setRow _ (w.heap.size + 1 + 1) (NO.PktV.cells ⟨2, p.xid, 0, p.flags, ci, 0, x.server, p.gi, A1, c1, p.hw, some ⟨B0, 0, none⟩, 2, [y, z]⟩) (by omega)))
      have HX9 := Lib.hid (HZ9.out.set (NO.PktV.cells ⟨2, p.xid, 0, p.flags, ci, 0, x.server, p.gi, A1, c1, p.hw, some ⟨B0, 0, none⟩, 2, [y, z]⟩))
      refine bodyPost_ret (v := NO.PktV.v ⟨2, p.xid, 0, p.flags, ci, 0, x.server, p.gi, A1, c1, p.hw, some ⟨B0, 0, none⟩, 2, [y, z]⟩) (results_R rowP rfl rfl HX9.out rfl) rfl ⟨_, rfl, Lib.hid ?_, HE.out.more (by omega), HL.out⟩
      rw [HXX2.out]
      show NO.PktA.mk _ _ _ _ _ _ _ _ _ [y.abs, z.abs] = _
      rw [HYZ.out]
end Go.Proofs.YtmaohnbddlccdaaGreat
end

/- engine, the document's: with. -/
section
namespace Go.Proofs.YtmaohnbddlccdaaGreat
open Go.RowKit Go.Sort

/-- .. in a row made since. -/
def GivesZN (w : World) (code : Int) (l : List UInt8) (e : Ending) (w' : World) : Prop := ∃ z : NO.OptV, e = .returned (.slice z.ad z.data.length z.cap) ∧ Hid (z.code = code ∧ z.data = l) ∧ NO.By w' w'.heap.size z.ad z.data ∧ (∀ b o, z.ad = some ⟨b, o, none⟩ → w.heap.size ≤ b) ∧ Below w.heap.size w w'
set_option maxRecDepth 100000 in
set_option maxHeartbeats 1000000 in
theorem rfourN_any (code n : Int) (hn : n < 9223372036854775808) (w : World) : Calls Tryz.prog 94 #[.int .i64 n] w (GivesZN w code (NO.bytR n 4).1) := by
  have HN := Lib.hid (NO.rbytesN_any n 4 hn w)
  unfold NO.GivesBN at HN
  go_enter Tryz.func94, Tryz.ntmps94
  go_wp2_with fail
  refine HN.out.mono ?_
  rintro e w1 ⟨A, c, rfl, hby, -, hlo, hb1⟩
  go_wp2
  go_ret
  exact ⟨⟨code, A, c, _⟩, rfl, Lib.hid ⟨rfl, rfl⟩, hby, hlo, hb1⟩
theorem pks_of {wb w : World} {lo : Nat} {p : NO.PktV} (hw : NO.By w w.heap.size p.hwA p.hw) (hr : RowE ElemO wb w (.slice p.opA p.L.length p.opC) p.L) (hd : ∀ x ∈ p.L, NO.By w w.heap.size x.ad x.data) (hlo : ∀ k, (Value.slice p.opA p.L.length p.opC).ownBlock = some k → lo ≤ k) : PkS lo w p := by
  refine ⟨⟨hw, op_of (El.of_own hr.own) hd⟩, ?_⟩
  intro b' o' e hn
  refine hlo b' ?_
  obtain ⟨g1, n1, c1, hv, -⟩ := hr.own.2.resolve_left (fun h0 => hn (List.eq_nil_of_length_eq_zero h0.2))
  rw [hv]
  have : (Value.slice p.opA p.L.length p.opC) = .slice (some ⟨g1, 0, none⟩) p.L.length n1 := hv
  injection this with e1 _ _
  rw [e1] at e
  injection e with e
  injection e with e
  rw [e]
  rfl
theorem by_far {w w' : World} {B : Nat} {A : Option Addr} {l : List UInt8} {row : Option Nat} (h : NO.By w B A l) (hB : B ≤ w.heap.size) (hg : w.grownBy w' row) (hne : ∀ b o, A = some ⟨b, o, none⟩ → some b ≠ row) : NO.By w' B A l :=
  ⟨fun i x hx => by
    obtain ⟨b, o, h1, h2, h3⟩ := h.at_ i x hx
    exact ⟨b, o, h1, h2, (hg.cell_far ⟨b, o + i, none⟩ (Nat.lt_of_lt_of_le h2 hB) (hne b o h1)).trans h3⟩⟩

set_option maxRecDepth 100000 in
set_option maxHeartbeats 4000000 in
theorem rwith_any (x : SiteV) (q : NO.PktV) (a : Nat) (n : Int) (w : World) (hq : NO.Pk w w.heap.size q) (hL : q.L.length ≤ 1000) (hn : n ≤ 4294967295) :
    Calls Tryz.prog 88 #[x.v, q.v, .int .u32 (a : Int), .int .i64 n] w (GivesP w { q.abs with yi := a, opts := q.abs.opts ++ moreE x n }) := by
  obtain ⟨w0, hw0⟩ : ∃ w0, w0 = ((w.alloc (.cells x.cells 27)).alloc (NO.pbox q)).alloc (NO.pbox zeroP) := ⟨_, rfl⟩
  have hs : (w.alloc (.cells x.cells 27)).heap.size = w.heap.size + 1 := by simp
  have hs2 : ((w.alloc (.cells x.cells 27)).alloc (NO.pbox q)).heap.size = w.heap.size + 1 + 1 := by simp
  have HB0 : Hid (Below w.heap.size w w0) := Lib.hid (by rw [hw0]; exact (((Below.refl _ _).alloc (Nat.le_refl _) _).alloc (by simp) _).alloc (by simp; omega) _)
  have HX : Hid (SBox w0 w.heap.size x) := Lib.hid (by rw [hw0]; exact ((Bx.new _ _ _).alloc _).alloc _)
  have HR0 : Hid (Bx w0 (w.heap.size + 1) 32 q.cells) := Lib.hid (by rw [hw0, ← hs]; exact (Bx.new _ _ _).alloc _)
  have HZ0 : Hid (Bx w0 (w.heap.size + 1 + 1) 32 zeroP.cells) := Lib.hid (by rw [hw0, ← hs2]; exact Bx.new _ _ _)
  have HW0 : Hid (w0 = (((w.alloc (.cells x.cells 27)).alloc (NO.pbox q)).alloc (.cells #[.int .i64 0, .int .u32 0, .int .i64 0, .int .i64 0, .int .u32 0, .int .u32 0, .int .u32 0, .int .u32 0, .slice none 0 0, .slice none 0 0] 32))) := Lib.hid (by rw [hw0]; rfl)
  have HQ := Lib.hid hq
  obtain ⟨X, hX⟩ : ∃ X : NO.PktA, X = { q.abs with yi := a, opts := q.abs.opts ++ moreE x n } := ⟨_, rfl⟩
  rw [← hX]
  unfold moreE optE at hX
  have hr1 := NR.Flo.partV_range n x.renew
  have hr2 := NR.Flo.partV_range n x.rebind
  have HTI := Lib.hid (fun V => NR.rtimes_any n x.renew x.rebind V)
  have hm : max (NR.Flo.partV n x.renew) (NR.Flo.partV n x.rebind) < 9223372036854775808 := by omega
  have hm1 : NR.Flo.partV n x.renew < 9223372036854775808 := by omega
  clear hr1 hr2
  generalize max (NR.Flo.partV n x.renew) (NR.Flo.partV n x.rebind) = n2 at *
  generalize NR.Flo.partV n x.renew = n1 at *
  have HXX := Lib.hid hX
  have HF1 := Lib.hid (fun V => rfourN_any 51 n (by omega) V)
  have HF2 := Lib.hid (fun V => rfourN_any 58 n1 hm1 V)
  have HF3 := Lib.hid (fun V => rfourN_any 59 n2 hm V)
  generalize (NO.bytR n 4).1 = d1 at *
  generalize (NO.bytR n1 4).1 = d2 at *
  generalize (NO.bytR n2 4).1 = d3 at *
  have x9 := HX.out.at_ 9
  have x10 := HX.out.at_ 10
  clear hw0 hs hs2 hq hX hm hm1
  go_enter Tryz.func88, Tryz.ntmps88
  go_upto_region 1 with fail
  rw [← HW0.out]
  go_wp2_with fail
  refine (HTI.out w0).mono ?_
  rintro e w' ⟨rfl, rfl⟩
  have r5 := HR0.out.at_ 5
  have f5 := HR0.out.free 5
  clear x9 x10 HX HTI HW0
  go_upto_region 3 with fail
  obtain ⟨w1, hw1⟩ : ∃ w1, w1 = w0.setCell ⟨w.heap.size + 1, 5, none⟩ (.int .u32 (a : Int)) := ⟨_, rfl⟩
  rw [← hw1]
  have HR1 : Hid (Bx w1 (w.heap.size + 1) 32 (NO.PktV.cells { q with yi := a })) := Lib.hid (by rw [hw1]; have h := HR0.out.store 5 (.int .u32 (a : Int)); exact h)
  have HZ1 : Hid (Bx w1 (w.heap.size + 1 + 1) 32 zeroP.cells) := Lib.hid (by rw [hw1]; exact HZ0.out.other (a := ⟨w.heap.size + 1, 5, none⟩) (by simp) _)
  have HB1 : Hid (Below w.heap.size w w1) := Lib.hid (by rw [hw1]; exact HB0.out.setCell (p := ⟨w.heap.size + 1, 5, none⟩) (Nat.le_succ _) _)
  clear r5 f5 hw1 HR0 HZ0 HB0
  have hal : Below w1.heap.size w1 (w1.alloc (.cells #[] 68)) := (Below.refl _ _).alloc (Nat.le_refl _) _
  have r9 : (w1.alloc (.cells #[] 68)).cell? ⟨w.heap.size + 1, 9, none⟩ = some (.slice q.opA q.L.length q.opC) := (HR1.out.later hal).at_ 9
  have HLIT : Hid (RowE ElemO w1 (w1.alloc (.cells #[] 68)) (.slice (some ⟨w1.heap.size, 0, none⟩) 0 0) []) := Lib.hid (RowE.lit (E := ElemO) (Below.refl _ w1) [] (by simp) #[] rfl)
  have HEL : Hid (El ElemO (w1.alloc (.cells #[] 68)) w.heap.size q.opA q.L) := Lib.hid ((el_of HQ.out.opt).below (HB1.out.trans (hal.mono HB1.out.size)))
  have hz1 : ([] : List NO.OptV).length + q.L.length ≤ 100000000000 := by simp; omega
  clear hal
  go_wp2_with (first
    | (at_builtin; refine wpList_rowE (E := ElemO) rfl (.tmp 22) (.tmp 24) rfl rfl HLIT.out q.L rfl rfl HEL.out hz1 ?_; intro A4 k4 w2 l4 HL4 hR4 hk4 _ _; have HR4 := Lib.hid hR4; have HOW : Hid (∀ k, (Value.slice A4 l4.length k4).ownBlock = some k → k < w2.heap.size) := Lib.hid (fun k e => (hR4.lt k e).2); have HLE : Hid (l4.length ≤ 1000) := Lib.hid (by rw [HL4.out]; simpa using hL); clear hR4 hk4 r9))
  refine (HF1.out w2).mono ?_
  rintro e w3 ⟨z1, rfl, HC1, hy1, hn1, hb3⟩
  have HN1 := Lib.hid hn1
  have HS3 := Lib.hid hb3.size
  clear hn1
  have HR5 := Lib.hid (HR4.out.later hb3)
  clear hb3
  go_wp2_with fail
  refine (HF2.out w3).mono ?_
  rintro e w4 ⟨z2, rfl, HC2, hy2, hn2, hb4⟩
  have HN2 : Hid (∀ b o, z2.ad = some ⟨b, o, none⟩ → w2.heap.size ≤ b) := Lib.hid (fun b o e => Nat.le_trans HS3.out (hn2 b o e))
  have HS4 := Lib.hid (Nat.le_trans HS3.out hb4.size)
  clear hn2
  have HR6 := Lib.hid (HR5.out.later hb4)
  have HY1 := Lib.hid (hy1.later hb4)
  clear hb4 hy1 HR4
  go_wp2_with fail
  refine (HF3.out w4).mono ?_
  rintro e w5 ⟨z3, rfl, HC3, hy3, hn3, hb5⟩
  have HN3 : Hid (∀ y ∈ [z1, z2, z3], ∀ b o, y.ad = some ⟨b, o, none⟩ → w2.heap.size ≤ b) := Lib.hid (fun y hy => by
    simp at hy
    rcases hy with rfl | rfl | rfl
    · exact HN1.out
    · exact HN2.out
    · exact fun b o e => Nat.le_trans HS4.out (hn3 b o e))
  clear hn3 HN1 HN2 HS3 HS4
  have HR7 := Lib.hid (HR6.out.later hb5)
  have HY : Hid (∀ y ∈ [z1, z2, z3], NO.By w5 w5.heap.size y.ad y.data) := Lib.hid (fun y hy => by
    simp at hy
    rcases hy with rfl | rfl | rfl
    · exact HY1.out.later hb5
    · exact hy2.later hb5
    · exact hy3)
  clear hb5 hy2 hy3 HY1 HR5 HR6
  have HLO : Hid (Below w.heap.size w w5) := Lib.hid (HB1.out.trans (HR7.out.low.mono HB1.out.size))
  have HRB : Hid (Bx w5 (w.heap.size + 1) 32 (NO.PktV.cells { q with yi := a })) := Lib.hid (HR1.out.later HR7.out.low)
  have HZB : Hid (Bx w5 (w.heap.size + 1 + 1) 32 zeroP.cells) := Lib.hid (HZ1.out.later HR7.out.low)
  have HRLT : Hid (w.heap.size + 1 < w1.heap.size) := Lib.hid HR1.out.lt
  have HZLT : Hid (w.heap.size + 1 + 1 < w1.heap.size) := Lib.hid HZ1.out.lt
  have hc1 : z1.code = 51 := HC1.out.1
  have hc2 : z2.code = 58 := HC2.out.1
  have hc3 : z3.code = 59 := HC3.out.1
  have hEL := El.lit (E := ElemO) w5 [z1, z2, z3] #[.int .i64 z1.code, .slice z1.ad z1.data.length z1.cap, .int .i64 z2.code, .slice z2.ad z2.data.length z2.cap, .int .i64 z3.code, .slice z3.ad z3.data.length z3.cap] 68 (by simp [ecells, ElemO])
  rw [hc1, hc2, hc3] at hEL
  have HEL3 := Lib.hid hEL
  have h6 : Below w5.heap.size w5 (w5.alloc (.cells #[.int .i64 51, .slice z1.ad z1.data.length z1.cap, .int .i64 58, .slice z2.ad z2.data.length z2.cap, .int .i64 59, .slice z3.ad z3.data.length z3.cap] 68)) := (Below.refl _ _).alloc (Nat.le_refl _) _
  have HR8 := Lib.hid (HR7.out.later h6)
  have HRB6 := Lib.hid (HRB.out.later h6)
  have HZB6 := Lib.hid (HZB.out.later h6)
  have HLO6 := Lib.hid (HLO.out.trans (h6.mono HLO.out.size))
  have HY6 := Lib.hid (fun y hy => (HY.out y hy).later h6)
  have hz2 : l4.length + ([z1, z2, z3] : List NO.OptV).length ≤ 100000000000 := by have := HLE.out; simp; omega
  have HABS : Hid (NO.absL [z1, z2, z3] = [(51, d1), (58, d2), (59, d3)]) := Lib.hid (by
    show [z1.abs, z2.abs, z3.abs] = _
    unfold NO.OptV.abs
    rw [hc1, hc2, hc3, HC1.out.2, HC2.out.2, HC3.out.2])
  clear hc1 hc2 hc3 hEL h6 HC1 HC2 HC3 HRB HZB HLO HR7 HR1 HZ1 HY
  go_wp2_with (first
    | (at_builtin; refine wpList_rowE (E := ElemO) rfl (.tmp 25) (.tmp 35) rfl rfl HR8.out [z1, z2, z3] rfl rfl HEL3.out hz2 ?_; intro A9 k9 w7 l9 HL9 hR9 hk9 hel9 hg9; have hb7 : Below w1.heap.size _ w7 := NO.below_of_grown hg9 HR8.out.low.size (fun g e => (HR8.out.lt g e).1); have HR9 := Lib.hid hR9; have hr9 := (HRB6.out.below hb7 HRLT.out).at_ 9; have fr9 := (HRB6.out.below hb7 HRLT.out).free 9; have HRB7 := Lib.hid (HRB6.out.below hb7 HRLT.out); have HLO7 := Lib.hid (HLO6.out.trans (hb7.mono HB1.out.size)); have HY7 : Hid (∀ y ∈ [z1, z2, z3], NO.By w7 w7.heap.size y.ad y.data) := Lib.hid (fun y hy => (by_far (HY6.out y hy) (Nat.le_refl _) hg9 (fun b o e e2 => by have h1 := HN3.out y hy b o e; have h2 := HOW.out b e2.symm; omega)).more hg9.size); have HF8 : Hid (Bx (w7.setCell ⟨w.heap.size + 1, 9, none⟩ (.slice A9 l9.length k9)) (w.heap.size + 1) 32 (NO.PktV.cells { q with yi := a, opA := A9, opC := k9, L := l9 })) := Lib.hid (HRB7.out.store 9 _); have HZ8 : Hid (Bx (w7.setCell ⟨w.heap.size + 1, 9, none⟩ (.slice A9 l9.length k9)) (w.heap.size + 1 + 1) 32 zeroP.cells) := Lib.hid ((HZB6.out.below hb7 HZLT.out).other (a := ⟨w.heap.size + 1, 9, none⟩) (by simp) _); clear hR9 hk9 hel9 hg9)
    | (refine wp_loadR rowP rfl _ rfl (w.heap.size + 1) rfl HF8.out rfl ?_)
    | (refine wp_storeR rowP rfl _ _ rfl (w.heap.size + 1 + 1) _ rfl rfl HZ8.out rfl rfl rfl ?_))
  obtain ⟨w8, hw8⟩ : ∃ w8, w8 = w7.setCell ⟨w.heap.size + 1, 9, none⟩ (.slice A9 l9.length k9) := ⟨_, rfl⟩
  have HLO8 : Hid (Below w.heap.size w w8) := Lib.hid (by rw [hw8]; exact HLO7.out.setCell (p := ⟨w.heap.size + 1, 9, none⟩) (Nat.le_succ _) _)
  have HL9 : Hid (l9 = q.L ++ [z1, z2, z3]) := Lib.hid (by rw [HL9.out, HL4.out]; simp)
  have HPS : Hid (PkS w1.heap.size w8 { q with yi := a, opA := A9, opC := k9, L := l9 }) := Lib.hid (by
    refine pks_of (wb := w) ((HQ.out.hw.below HLO8.out).more HLO8.out.size) ?_ ?_ (fun k hk => (HR9.out.lt k hk).1)
    · rw [hw8]
      exact RowE.cell (HR9.out.base HB1.out) (Nat.le_succ _) (fun e => by have h1 := (HR9.out.lt _ e).1; have h2 := HRLT.out; omega) 9 _
    · intro y hy
      rw [HL9.out] at hy
      rcases List.mem_append.1 hy with hy | hy
      · exact ((HQ.out.opt.data y hy).below HLO8.out).more HLO8.out.size
      · rw [hw8, setCell_size]
        exact by_cell (HY7.out y hy) HRB7.out (pktP_no8 _) 9 _)
  rw [← hw8] at HZ8 ⊢
  have HE := Lib.hid (HPS.out.set HZ8.out HZLT.out (pktP_no8 zeroP) (NO.PktV.cells { q with yi := a, opA := A9, opC := k9, L := l9 }))
  have HL := Lib.hid (HLO8.out.trans (below_setRow _ (w.heap.size + 1 + 1) (NO.PktV.cells { q with yi := a, opA := A9, opC := k9, L := l9 }) (by omega)))
  have HX9 := Lib.hid (HZ8.out.set (NO.PktV.cells { q with yi := a, opA := A9, opC := k9, L := l9 }))
  refine bodyPost_ret (v := NO.PktV.v { q with yi := a, opA := A9, opC := k9, L := l9 }) (results_R rowP rfl rfl HX9.out rfl) rfl ⟨_, rfl, Lib.hid ?_, HE.out.more (by have := HZLT.out; omega), HL.out⟩
  rw [HXX.out]
  show NO.PktA.mk _ _ _ _ _ _ _ _ _ (NO.absL l9) = _
  rw [HL9.out]
  have e : NO.absL (q.L ++ [z1, z2, z3]) = NO.absL q.L ++ [(51, d1), (58, d2), (59, d3)] := by rw [← HABS.out]; simp [NO.absL]
  rw [e]
  rfl
end Go.Proofs.YtmaohnbddlccdaaGreat
end
