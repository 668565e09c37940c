/- engine: reply. -/
import Derived.Test.YtmaohnbddlccdaaGreatMrgEngO
import Derived.Deep.RegionLaw
import Derived.Deep.DeepCutAuto
namespace Go.Proofs.YtmaohnbddlccdaaGreat
open Go.RowKit Go.Sort

/-- An append that tells where the row lies. -/
theorem wpList_rowW {P : Program} {V : Type} {E : Elem P V} {w0 w : World} {ops : Array Oper} {rest : List Oper} {o : Oper} {a : Act} {Q : Exit → Act → World → Prop} (hgd : o.guard = none) (s x : Operand)
    (ho : o.op = .call { callee := .builtin .append, args := #[s, x], argTypes := #[E.ty, E.ty] }) {v : Value} {l : List V} (hs : a.eval s = v) (h : RowE E w0 w v l)
    {B : Nat} {A : Option Addr} (l2 : List V) {m c : Nat} (hm : l2.length = m) (hx : a.eval x = .slice A m c) (hr : El E w B A l2) (hsz : l.length + l2.length ≤ 100000000000)
    (hk : ∀ A' c' w' l3, Hid (l3 = l ++ l2) → RowE E w0 w' (.slice A' l3.length c') l3 → l3.length ≤ c' → w.grownBy w' v.ownBlock → ((Value.slice A' l3.length c').ownBlock = v.ownBlock ∨ (Value.slice A' l3.length c').ownBlock = some w.heap.size) → wpList P ops Q rest (a.put o.dst (.slice A' l3.length c')) w') :
    wpList P ops Q (o :: rest) a w := by
  subst hm
  refine wpList_plain hgd fun K hK => ?_
  obtain ⟨v', w', h1, h2, h3, h7⟩ := run_appE w w0.heap.size o.type h.own c hr (E.small hsz) h.low.size
  have h4 : RowE E w0 w' v' (l ++ l2) := h.grows (by rw [List.length_append, ecells_append]; exact h2) h3
  unfold Oper.wp execOp
  simp only [ho, resolve, invoke, builtin, Sem.run_bind, Sem.run_pure, Result.andThen_ok, List.map_toArray, List.map_cons, List.map_nil, hs, hx, h1]
  obtain ⟨A', c', rfl, h5, h6⟩ := h4.form
  exact hK _ _ (hk A' c' w' _ (Lib.hid rfl) h4 h5 h3 h7)

theorem by_cell {w : World} {B g : Nat} {A : Option Addr} {l : List UInt8} {t : TypeId} {cs : Array Value} (h : NO.By w B A l) (hB : Bx w g t cs) (h8 : No8 cs) (i : Nat) (u : Value) : NO.By (w.setCell ⟨g, i, none⟩ u) B A l := by
  rw [setCell_eq_setRow w g i cs t _ u hB]
  exact by_set h hB h8
theorem pktP_no8 (p : NO.PktV) : No8 p.cells := no8_of rfl
theorem RowE.cell {w0 w : World} {v : Value} {l : List NO.OptV} {g : Nat} (h : RowE ElemO w0 w v l) (hg : w0.heap.size ≤ g) (hn : v.ownBlock ≠ some g) (i : Nat) (u : Value) : RowE ElemO w0 (w.setCell ⟨g, i, none⟩ u) v l :=
  h.kept (grown_set g i u) (fun k hk => by injection hk with hk; omega) (.inr fun e => hn e.symm)

/-- What stands behind the reply's first statement: its packet lies in block b. -/
structure RepS (w wx : World) (b : Nat) (p : NO.PktV) : Prop where
  box : Bx wx b 32 p.cells
  zero : Bx wx w.heap.size 32 zeroP.cells
  ge : w.heap.size < b
  low : Below w.heap.size w wx
  hw : NO.By wx wx.heap.size p.hwA p.hw
theorem RepS.later {w wx wy : World} {b : Nat} {p : NO.PktV} (h : RepS w wx b p) (hb : Below wx.heap.size wx wy) : RepS w wy b p :=
  ⟨h.box.later hb, h.zero.later hb, h.ge, h.low.trans (hb.mono h.low.size), h.hw.later hb⟩
theorem RepS.put {w wx : World} {b : Nat} {p : NO.PktV} (h : RepS w wx b p) (i : Nat) (u : Value) (p' : NO.PktV) (hp : p.cells.setIfInBounds i u = p'.cells) (h1 : p'.hwA = p.hwA) (h2 : p'.hw = p.hw) : RepS w (wx.setCell ⟨b, i, none⟩ u) b p' :=
  ⟨hp ▸ h.box.store i u, h.zero.other (a := ⟨b, i, none⟩) (Nat.ne_of_lt h.ge) u, h.ge, h.low.setCell (p := ⟨b, i, none⟩) (Nat.le_of_lt h.ge) u, by
    rw [h1, h2, (by simp [World.setCell] : (wx.setCell ⟨b, i, none⟩ u).heap.size = wx.heap.size)]
    exact by_cell h.hw h.box (pktP_no8 p) i u⟩

theorem by_below {w w' : World} {B : Nat} {A : Option Addr} {l : List UInt8} (h : NO.By w B A l) (hb : Below B w w') (hs : B ≤ w'.heap.size) : NO.By w' w'.heap.size A l := (h.below hb).more hs
/-- .. and its options lie in a row of its own, all their bytes below block B0. -/
structure RepT (w wx : World) (b : Nat) (p : NO.PktV) (B0 : Nat) : Prop where
  rep : RepS w wx b p
  row : RowE ElemO w wx (.slice p.opA p.L.length p.opC) p.L
  own : ∀ k, (Value.slice p.opA p.L.length p.opC).ownBlock = some k → B0 ≤ k
  hw : NO.By wx B0 p.hwA p.hw
  dat : ∀ x ∈ p.L, NO.By wx B0 x.ad x.data
  lt : b < B0
  le : B0 ≤ wx.heap.size
theorem setCell_size (w : World) (g i : Nat) (u : Value) : (w.setCell ⟨g, i, none⟩ u).heap.size = w.heap.size := by simp [World.setCell]
theorem repT_of {w w6 w8 : World} {b : Nat} {p : NO.PktV} {A8 : Option Addr} {k8 : Nat} {S8 : List NO.OptV} (h : RepS w w6 b p) (hr : RowE ElemO w6 w8 (.slice A8 S8.length k8) S8) (hg : w6.grownBy w8 none) (hd : ∀ x ∈ S8, NO.By w6 w6.heap.size x.ad x.data) :
    RepT w (w8.setCell ⟨b, 9, none⟩ (.slice A8 S8.length k8)) b { p with opA := A8, opC := k8, L := S8 } w6.heap.size := by
  have hb : Below w6.heap.size w6 w8 := NO.below_of_grown hg (Nat.le_refl _) (fun g e => by cases e)
  have h8 := h.later hb
  have hlt := h.box.lt
  refine ⟨h8.put 9 _ _ (by simp) rfl rfl, ?_, fun k hk => (hr.lt k hk).1, ?_, fun x hx => ?_, hlt, by rw [setCell_size]; exact hb.size⟩
  · exact RowE.cell (hr.base h.low) (Nat.le_of_lt h.ge) (fun e => by have := (hr.lt b e).1; omega) 9 _
  · exact by_cell (h.hw.below hb) h8.box (pktP_no8 p) 9 _
  · exact by_cell ((hd x hx).below hb) h8.box (pktP_no8 p) 9 _
/-- The packet with all its options. -/
theorem repT_grow {w w7 w8 : World} {b B0 : Nat} {p : NO.PktV} {A : Option Addr} {M : List NO.OptV} {A9 : Option Addr} {k9 : Nat} {S9 : List NO.OptV} (h : RepT w w7 b p B0) (hr : RowE ElemO w w8 (.slice A9 S9.length k9) S9) (hg : w7.grownBy w8 (Value.slice p.opA p.L.length p.opC).ownBlock) (hb9 : (Value.slice A9 S9.length k9).ownBlock = (Value.slice p.opA p.L.length p.opC).ownBlock ∨ (Value.slice A9 S9.length k9).ownBlock = some w7.heap.size) (hS : S9 = p.L ++ M) (hm : NO.Op w w.heap.size A M) :
    RepS w (w8.setCell ⟨b, 9, none⟩ (.slice A9 S9.length k9)) b { p with opA := A9, opC := k9, L := S9 } ∧ PkS (w.heap.size + 1) (w8.setCell ⟨b, 9, none⟩ (.slice A9 S9.length k9)) { p with opA := A9, opC := k9, L := S9 } := by
  have hw0 := h.rep.ge
  have hle := h.le
  have hlt := h.lt
  have hb : Below B0 w7 w8 := NO.below_of_grown hg h.le (fun g e => h.own g e)
  have hb8 : RepS w w8 b p := by
    refine ⟨h.rep.box.below hb hlt, h.rep.zero.below hb (by omega), hw0, h.rep.low.trans (hb.mono (by have := h.rep.low.size; omega)), ?_⟩
    exact by_below h.hw hb (by have := hb.size; omega)
  have hne : ∀ k, (Value.slice A9 S9.length k9).ownBlock = some k → B0 ≤ k := by
    intro k hk
    rcases hb9 with e | e
    · rw [e] at hk; exact h.own k hk
    · rw [e] at hk; injection hk with hk; omega
  have hr9 : RowE ElemO w (w8.setCell ⟨b, 9, none⟩ (.slice A9 S9.length k9)) (.slice A9 S9.length k9) S9 := RowE.cell hr (Nat.le_of_lt hw0) (fun e => by have := hne b e; omega) 9 _
  have hrep : RepS w (w8.setCell ⟨b, 9, none⟩ (.slice A9 S9.length k9)) b { p with opA := A9, opC := k9, L := S9 } := hb8.put 9 _ _ (by simp) rfl rfl
  refine ⟨hrep, ⟨⟨hrep.hw, op_of ?_ ?_⟩, ?_⟩⟩
  · exact El.of_own hr9.own
  · intro x hx
    rw [hS, List.mem_append] at hx
    rcases hx with hx | hx
    · rw [setCell_size]
      exact by_cell (by_below (h.dat x hx) hb (by have := hb.size; omega)) hb8.box (pktP_no8 p) 9 _
    · exact by_below (hm.data x hx) hrep.low (hrep.low.size)
  · intro b' o' e hn
    have h1 : (Value.slice A9 S9.length k9).ownBlock = some b' := by
      obtain ⟨g1, n1, c1, hv, hlo, hh⟩ := hr9.own.2.resolve_left (fun h0 => hn (List.eq_nil_of_length_eq_zero h0.2))
      have e' : A9 = some ⟨b', o', none⟩ := e
      rw [hv]
      have : (Value.slice A9 S9.length k9) = .slice (some ⟨g1, 0, none⟩) S9.length n1 := hv
      injection this with e1 _ _
      rw [e1] at e'
      injection e' with e'
      injection e' with e'
      rw [e']
      rfl
    have := hne b' h1
    omega

/-- A packet is laid into a box, cell by cell. -/
def storeP (W : World) (g : Nat) (p : NO.PktV) : World :=
  (((((((((W.setCell ⟨g, 0, none⟩ (.int .i64 p.op)).setCell ⟨g, 1, none⟩ (.int .u32 (p.xid : Int))).setCell ⟨g, 2, none⟩ (.int .i64 p.secs)).setCell ⟨g, 3, none⟩ (.int .i64 p.flags)).setCell ⟨g, 4, none⟩ (.int .u32 (p.ci : Int))).setCell ⟨g, 5, none⟩ (.int .u32 (p.yi : Int))).setCell ⟨g, 6, none⟩ (.int .u32 (p.si : Int))).setCell ⟨g, 7, none⟩ (.int .u32 (p.gi : Int))).setCell ⟨g, 8, none⟩ (.slice p.hwA p.hw.length p.hwC)).setCell ⟨g, 9, none⟩ (.slice p.opA p.L.length p.opC)

theorem cell_row {w : World} {g : Nat} {t : TypeId} {cs : Array Value} (h : Bx w g t cs) (i : Nat) (u : Value) : w.setCell ⟨g, i, none⟩ u = w.setRow g (cs.setIfInBounds i u) := setCell_eq_setRow w g i cs t _ u h
theorem row_cell {w : World} {g : Nat} {t : TypeId} {cs : Array Value} (h : Bx w g t cs) (c' : Array Value) (i : Nat) (u : Value) : (w.setRow g c').setCell ⟨g, i, none⟩ u = w.setRow g (c'.setIfInBounds i u) := by
  rw [cell_row (h.set c'), setRow_setRow]
theorem storeP_row {W : World} {g : Nat} {t : TypeId} {p0 : NO.PktV} (h : Bx W g t p0.cells) (p : NO.PktV) : storeP W g p = W.setRow g p.cells := by
  unfold storeP
  rw [cell_row h, row_cell h, row_cell h, row_cell h, row_cell h, row_cell h, row_cell h, row_cell h, row_cell h, row_cell h]
  simp only [List.setIfInBounds_toArray, List.set_cons_zero, List.set_cons_succ]
theorem RepS.mk' {w w0 wx : World} {b : Nat} {p : NO.PktV} (hb : Below w0.heap.size w0 wx) (h0 : Below w.heap.size w w0) (hz : Bx w0 w.heap.size 32 zeroP.cells)
    (hbx : Bx wx b 32 p.cells) (hge : w0.heap.size ≤ b) (hw : NO.By wx wx.heap.size p.hwA p.hw) : RepS w wx b p :=
  ⟨hbx, hz.later hb, Nat.lt_of_lt_of_le hz.lt hge, h0.trans (hb.mono h0.size), hw⟩

set_option maxRecDepth 100000 in
set_option maxHeartbeats 4000000 in
theorem reply_any {w : World} {g : Nat} {q : QV} (hq : QM w g q) (kind : Int) {M : List NO.OptV} {A : Option Addr} {c : Nat} (hM : NO.Op w w.heap.size A M) (hl : M.length ≤ 10) (hwl : q.p.hw.length ≤ 1000) (hsv : q.x.server < 4294967296) :
    Calls Tryz.prog 38 #[ptE g, .int .i64 kind, .slice A M.length c] w (GivesP w (replyE q.x q.p.abs kind (NO.absL M))) := by
  obtain ⟨w0, hw0⟩ : ∃ w0, w0 = w.alloc (.cells zeroP.cells 32) := ⟨_, rfl⟩
  have hB : Below w.heap.size w w0 := by rw [hw0]; exact (Below.refl _ _).alloc (Nat.le_refl _) _
  have hZ : Bx w0 w.heap.size 32 zeroP.cells := by rw [hw0]; exact Bx.new _ _ _
  have HQ := Lib.hid (hq.later hB)
  have HS0 : Hid (w.heap.size < w0.heap.size) := Lib.hid hZ.lt
  have HM0 := Lib.hid hM
  have HQ0 := Lib.hid hq
  have HB := Lib.hid hB
  have HZ := Lib.hid hZ
  have HW0 := Lib.hid hw0
  have HC := Lib.hid (fun V (h : NO.By V V.heap.size q.p.hwA q.p.hw) (hl : q.p.hw.length ≤ 140737488355328) => NO.clone_any q.p.hwA q.p.hwC q.p.hw V h hl)
  clear hq hM hw0 hB hZ
  obtain ⟨X, hX⟩ : ∃ X, X = replyE q.x q.p.abs kind (NO.absL M) := ⟨_, rfl⟩
  rw [← hX]
  have HXX := Lib.hid hX
  clear hX
  go_enter Tryz.func38, Tryz.ntmps38
  go_upto_region 1 with fail
  rw [show (w.alloc (.cells #[.int .i64 0, .int .u32 0, .int .i64 0, .int .i64 0, .int .u32 0, .int .u32 0, .int .u32 0, .int .u32 0, .slice none 0 0, .slice none 0 0] 32)) = w0 from HW0.out.symm]
  go_cut [7] (fun s7 wx => ∃ b A' c', s7 = ptE b ∧ RepS w wx b ⟨2, q.p.xid, 0, q.p.flags, 0, 0, q.x.server, q.p.gi, A', c', q.p.hw, none, 0, []⟩)
  case first =>
    have k0 : w0.drew.cell? ⟨g, 18, none⟩ = some (.int .u32 (q.p.xid : Int)) := HQ.out.c18
    have k1 : w0.drew.cell? ⟨g, 20, none⟩ = some (.int .i64 q.p.flags) := HQ.out.c20
    have k2 : w0.drew.cell? ⟨g, 3, none⟩ = some (.int .u32 (q.x.server : Int)) := HQ.out.c3
    have k3 : w0.drew.cell? ⟨g, 24, none⟩ = some (.int .u32 (q.p.gi : Int)) := HQ.out.c24
    have k4 : w0.drew.cell? ⟨g, 25, none⟩ = some (.slice q.p.hwA q.p.hw.length q.p.hwC) := HQ.out.c25
    obtain ⟨wz, hwz⟩ : ∃ wz, wz = (w0.alloc (.cells zeroP.cells 32)).drew := ⟨_, rfl⟩
    have hbz : Below w0.heap.size w0 wz := by rw [hwz]; exact ((Below.refl _ _).alloc (Nat.le_refl _) _).drew
    have HBZ := Lib.hid hbz
    have HZZ : Hid (Bx wz w0.heap.size 32 zeroP.cells) := Lib.hid (by rw [hwz]; exact (Bx.new w0 _ _).drew)
    have HQZ := Lib.hid (HQ.out.later hbz)
    have i0 := HQZ.out.c18
    have i1 := HQZ.out.c20
    have i2 := HQZ.out.c3
    have i3 := HQZ.out.c24
    have i4 := HQZ.out.c25
    have HWZ : Hid ((w0.alloc (.cells #[.int .i64 0, .int .u32 0, .int .i64 0, .int .i64 0, .int .u32 0, .int .u32 0, .int .u32 0, .int .u32 0, .slice none 0 0, .slice none 0 0] 32)).drew = wz) := Lib.hid hwz.symm
    clear hwz hbz
    have rb : ((w0.alloc (.cells #[.int .i64 0, .int .u32 0, .int .i64 0, .int .i64 0, .int .u32 0, .int .u32 0, .int .u32 0, .int .u32 0, .slice none 0 0, .slice none 0 0] 32)).drew).cell? ⟨g, 18, none⟩ = some (.int .u32 (q.p.xid : Int)) ∧ ((w0.alloc (.cells #[.int .i64 0, .int .u32 0, .int .i64 0, .int .i64 0, .int .u32 0, .int .u32 0, .int .u32 0, .int .u32 0, .slice none 0 0, .slice none 0 0] 32)).drew).cell? ⟨g, 20, none⟩ = some (.int .i64 q.p.flags) ∧ ((w0.alloc (.cells #[.int .i64 0, .int .u32 0, .int .i64 0, .int .i64 0, .int .u32 0, .int .u32 0, .int .u32 0, .int .u32 0, .slice none 0 0, .slice none 0 0] 32)).drew).cell? ⟨g, 3, none⟩ = some (.int .u32 (q.x.server : Int)) ∧ ((w0.alloc (.cells #[.int .i64 0, .int .u32 0, .int .i64 0, .int .i64 0, .int .u32 0, .int .u32 0, .int .u32 0, .int .u32 0, .slice none 0 0, .slice none 0 0] 32)).drew).cell? ⟨g, 24, none⟩ = some (.int .u32 (q.p.gi : Int)) ∧ ((w0.alloc (.cells #[.int .i64 0, .int .u32 0, .int .i64 0, .int .i64 0, .int .u32 0, .int .u32 0, .int .u32 0, .int .u32 0, .slice none 0 0, .slice none 0 0] 32)).drew).cell? ⟨g, 25, none⟩ = some (.slice q.p.hwA q.p.hw.length q.p.hwC) := by rw [HWZ.out]; exact ⟨i0, i1, i2, i3, i4⟩
    have KS : Hid (∀ W p, Bx W w0.heap.size 32 zeroP.cells → (W.cell? ⟨g, 18, none⟩ = some (.int .u32 (q.p.xid : Int)) ∧ W.cell? ⟨g, 20, none⟩ = some (.int .i64 q.p.flags) ∧ W.cell? ⟨g, 3, none⟩ = some (.int .u32 (q.x.server : Int)) ∧ W.cell? ⟨g, 24, none⟩ = some (.int .u32 (q.p.gi : Int)) ∧ W.cell? ⟨g, 25, none⟩ = some (.slice q.p.hwA q.p.hw.length q.p.hwC)) → (storeP W w0.heap.size p).cell? ⟨g, 18, none⟩ = some (.int .u32 (q.p.xid : Int)) ∧ (storeP W w0.heap.size p).cell? ⟨g, 20, none⟩ = some (.int .i64 q.p.flags) ∧ (storeP W w0.heap.size p).cell? ⟨g, 3, none⟩ = some (.int .u32 (q.x.server : Int)) ∧ (storeP W w0.heap.size p).cell? ⟨g, 24, none⟩ = some (.int .u32 (q.p.gi : Int)) ∧ (storeP W w0.heap.size p).cell? ⟨g, 25, none⟩ = some (.slice q.p.hwA q.p.hw.length q.p.hwC)) := Lib.hid (fun W p hx h => by
      have n : g ≠ w0.heap.size := by have := HQ.out.lt; omega
      rw [storeP_row (p0 := zeroP) hx]
      refine ⟨?_, ?_, ?_, ?_, ?_⟩ <;> rw [cell_setRow_other _ _ _ _ n]
      · exact h.1
      · exact h.2.1
      · exact h.2.2.1
      · exact h.2.2.2.1
      · exact h.2.2.2.2)
    go_region_held3 (fun w' => w'.cell? ⟨g, 18, none⟩ = some (.int .u32 (q.p.xid : Int)) ∧ w'.cell? ⟨g, 20, none⟩ = some (.int .i64 q.p.flags) ∧ w'.cell? ⟨g, 3, none⟩ = some (.int .u32 (q.x.server : Int)) ∧ w'.cell? ⟨g, 24, none⟩ = some (.int .u32 (q.p.gi : Int)) ∧ w'.cell? ⟨g, 25, none⟩ = some (.slice q.p.hwA q.p.hw.length q.p.hwC)) (first | (with_reducible exact rz) | (with_reducible exact ra) | (with_reducible exact rb) | go_keep) (first
      | (go_at_call 81; (with_reducible refine (HC.out _ ?_ (by omega)).mono ?_); (with_reducible exact HQ.out.drew.pk.hw); rintro e w4 ⟨A1, c1, rfl, ho4, hb4⟩; have j0 := (hb4.cell (block_lt_of_cell k0)).trans k0; have j1 := (hb4.cell (block_lt_of_cell k1)).trans k1; have j2 := (hb4.cell (block_lt_of_cell k2)).trans k2; have j3 := (hb4.cell (block_lt_of_cell k3)).trans k3; have j4 := (hb4.cell (block_lt_of_cell k4)).trans k4; have hal : Below w4.heap.size w4 (w4.alloc (.cells #[.int .i64 2, .int .u32 (q.p.xid : Int), .int .i64 0, .int .i64 q.p.flags, .int .u32 0, .int .u32 0, .int .u32 (q.x.server : Int), .int .u32 (q.p.gi : Int), .slice A1 q.p.hw.length c1, .slice none 0 0] 32)) := (Below.refl _ _).alloc (Nat.le_refl _) _; have ra : (w4.alloc (.cells #[.int .i64 2, .int .u32 (q.p.xid : Int), .int .i64 0, .int .i64 q.p.flags, .int .u32 0, .int .u32 0, .int .u32 (q.x.server : Int), .int .u32 (q.p.gi : Int), .slice A1 q.p.hw.length c1, .slice none 0 0] 32)).cell? ⟨g, 18, none⟩ = some (.int .u32 (q.p.xid : Int)) ∧ (w4.alloc (.cells #[.int .i64 2, .int .u32 (q.p.xid : Int), .int .i64 0, .int .i64 q.p.flags, .int .u32 0, .int .u32 0, .int .u32 (q.x.server : Int), .int .u32 (q.p.gi : Int), .slice A1 q.p.hw.length c1, .slice none 0 0] 32)).cell? ⟨g, 20, none⟩ = some (.int .i64 q.p.flags) ∧ (w4.alloc (.cells #[.int .i64 2, .int .u32 (q.p.xid : Int), .int .i64 0, .int .i64 q.p.flags, .int .u32 0, .int .u32 0, .int .u32 (q.x.server : Int), .int .u32 (q.p.gi : Int), .slice A1 q.p.hw.length c1, .slice none 0 0] 32)).cell? ⟨g, 3, none⟩ = some (.int .u32 (q.x.server : Int)) ∧ (w4.alloc (.cells #[.int .i64 2, .int .u32 (q.p.xid : Int), .int .i64 0, .int .i64 q.p.flags, .int .u32 0, .int .u32 0, .int .u32 (q.x.server : Int), .int .u32 (q.p.gi : Int), .slice A1 q.p.hw.length c1, .slice none 0 0] 32)).cell? ⟨g, 24, none⟩ = some (.int .u32 (q.p.gi : Int)) ∧ (w4.alloc (.cells #[.int .i64 2, .int .u32 (q.p.xid : Int), .int .i64 0, .int .i64 q.p.flags, .int .u32 0, .int .u32 0, .int .u32 (q.x.server : Int), .int .u32 (q.p.gi : Int), .slice A1 q.p.hw.length c1, .slice none 0 0] 32)).cell? ⟨g, 25, none⟩ = some (.slice q.p.hwA q.p.hw.length q.p.hwC) := ⟨(hal.cell (block_lt_of_cell j0)).trans j0, (hal.cell (block_lt_of_cell j1)).trans j1, (hal.cell (block_lt_of_cell j2)).trans j2, (hal.cell (block_lt_of_cell j3)).trans j3, (hal.cell (block_lt_of_cell j4)).trans j4⟩; clear hal; have hb5 : Below w0.heap.size w0 w4 := ⟨hb4.os, hb4.tape, hb4.output, hb4.size, hb4.block⟩; have LA : Hid (∃ b A' c', ptE w4.heap.size = ptE b ∧ RepS w (w4.alloc (NO.pbox (⟨2, q.p.xid, 0, q.p.flags, 0, 0, q.x.server, q.p.gi, A1, c1, q.p.hw, none, 0, []⟩ : NO.PktV))) b ⟨2, q.p.xid, 0, q.p.flags, 0, 0, q.x.server, q.p.gi, A', c', q.p.hw, none, 0, []⟩) := Lib.hid ⟨w4.heap.size, A1, c1, rfl, RepS.mk' (hb5.alloc hb5.size _) HB.out HZ.out (Bx.new _ _ _) hb5.size ((NO.By.of_own ho4).later ((Below.refl _ _).alloc (Nat.le_refl _) _))⟩; clear hb4 hb5 ho4)
      | (go_at_call 81; rw [HWZ.out]; (with_reducible refine (HC.out _ ?_ (by omega)).mono ?_); (with_reducible exact HQZ.out.pk.hw); rintro e w4 ⟨A1, c1, rfl, ho4, hb4⟩; have j0 := (hb4.cell (block_lt_of_cell i0)).trans i0; have j1 := (hb4.cell (block_lt_of_cell i1)).trans i1; have j2 := (hb4.cell (block_lt_of_cell i2)).trans i2; have j3 := (hb4.cell (block_lt_of_cell i3)).trans i3; have j4 := (hb4.cell (block_lt_of_cell i4)).trans i4; have hb5 := HBZ.out.trans (hb4.mono HBZ.out.size); have hx4 := HZZ.out.later hb4; have rz : ((((((((((w4.setCell ⟨w0.heap.size, 0, none⟩ (.int .i64 2)).setCell ⟨w0.heap.size, 1, none⟩ (.int .u32 (q.p.xid : Int))).setCell ⟨w0.heap.size, 2, none⟩ (.int .i64 0)).setCell ⟨w0.heap.size, 3, none⟩ (.int .i64 q.p.flags)).setCell ⟨w0.heap.size, 4, none⟩ (.int .u32 0)).setCell ⟨w0.heap.size, 5, none⟩ (.int .u32 0)).setCell ⟨w0.heap.size, 6, none⟩ (.int .u32 (q.x.server : Int))).setCell ⟨w0.heap.size, 7, none⟩ (.int .u32 (q.p.gi : Int))).setCell ⟨w0.heap.size, 8, none⟩ (.slice A1 q.p.hw.length c1)).setCell ⟨w0.heap.size, 9, none⟩ (.slice none 0 0)).cell? ⟨g, 18, none⟩ = some (.int .u32 (q.p.xid : Int)) ∧ ((((((((((w4.setCell ⟨w0.heap.size, 0, none⟩ (.int .i64 2)).setCell ⟨w0.heap.size, 1, none⟩ (.int .u32 (q.p.xid : Int))).setCell ⟨w0.heap.size, 2, none⟩ (.int .i64 0)).setCell ⟨w0.heap.size, 3, none⟩ (.int .i64 q.p.flags)).setCell ⟨w0.heap.size, 4, none⟩ (.int .u32 0)).setCell ⟨w0.heap.size, 5, none⟩ (.int .u32 0)).setCell ⟨w0.heap.size, 6, none⟩ (.int .u32 (q.x.server : Int))).setCell ⟨w0.heap.size, 7, none⟩ (.int .u32 (q.p.gi : Int))).setCell ⟨w0.heap.size, 8, none⟩ (.slice A1 q.p.hw.length c1)).setCell ⟨w0.heap.size, 9, none⟩ (.slice none 0 0)).cell? ⟨g, 20, none⟩ = some (.int .i64 q.p.flags) ∧ ((((((((((w4.setCell ⟨w0.heap.size, 0, none⟩ (.int .i64 2)).setCell ⟨w0.heap.size, 1, none⟩ (.int .u32 (q.p.xid : Int))).setCell ⟨w0.heap.size, 2, none⟩ (.int .i64 0)).setCell ⟨w0.heap.size, 3, none⟩ (.int .i64 q.p.flags)).setCell ⟨w0.heap.size, 4, none⟩ (.int .u32 0)).setCell ⟨w0.heap.size, 5, none⟩ (.int .u32 0)).setCell ⟨w0.heap.size, 6, none⟩ (.int .u32 (q.x.server : Int))).setCell ⟨w0.heap.size, 7, none⟩ (.int .u32 (q.p.gi : Int))).setCell ⟨w0.heap.size, 8, none⟩ (.slice A1 q.p.hw.length c1)).setCell ⟨w0.heap.size, 9, none⟩ (.slice none 0 0)).cell? ⟨g, 3, none⟩ = some (.int .u32 (q.x.server : Int)) ∧ ((((((((((w4.setCell ⟨w0.heap.size, 0, none⟩ (.int .i64 2)).setCell ⟨w0.heap.size, 1, none⟩ (.int .u32 (q.p.xid : Int))).setCell ⟨w0.heap.size, 2, none⟩ (.int .i64 0)).setCell ⟨w0.heap.size, 3, none⟩ (.int .i64 q.p.flags)).setCell ⟨w0.heap.size, 4, none⟩ (.int .u32 0)).setCell ⟨w0.heap.size, 5, none⟩ (.int .u32 0)).setCell ⟨w0.heap.size, 6, none⟩ (.int .u32 (q.x.server : Int))).setCell ⟨w0.heap.size, 7, none⟩ (.int .u32 (q.p.gi : Int))).setCell ⟨w0.heap.size, 8, none⟩ (.slice A1 q.p.hw.length c1)).setCell ⟨w0.heap.size, 9, none⟩ (.slice none 0 0)).cell? ⟨g, 24, none⟩ = some (.int .u32 (q.p.gi : Int)) ∧ ((((((((((w4.setCell ⟨w0.heap.size, 0, none⟩ (.int .i64 2)).setCell ⟨w0.heap.size, 1, none⟩ (.int .u32 (q.p.xid : Int))).setCell ⟨w0.heap.size, 2, none⟩ (.int .i64 0)).setCell ⟨w0.heap.size, 3, none⟩ (.int .i64 q.p.flags)).setCell ⟨w0.heap.size, 4, none⟩ (.int .u32 0)).setCell ⟨w0.heap.size, 5, none⟩ (.int .u32 0)).setCell ⟨w0.heap.size, 6, none⟩ (.int .u32 (q.x.server : Int))).setCell ⟨w0.heap.size, 7, none⟩ (.int .u32 (q.p.gi : Int))).setCell ⟨w0.heap.size, 8, none⟩ (.slice A1 q.p.hw.length c1)).setCell ⟨w0.heap.size, 9, none⟩ (.slice none 0 0)).cell? ⟨g, 25, none⟩ = some (.slice q.p.hwA q.p.hw.length q.p.hwC) := KS.out w4 (⟨2, q.p.xid, 0, q.p.flags, 0, 0, q.x.server, q.p.gi, A1, c1, q.p.hw, none, 0, []⟩ : NO.PktV) hx4 ⟨j0, j1, j2, j3, j4⟩; have LA : Hid (∃ b A' c', ptE w0.heap.size = ptE b ∧ RepS w (storeP w4 w0.heap.size (⟨2, q.p.xid, 0, q.p.flags, 0, 0, q.x.server, q.p.gi, A1, c1, q.p.hw, none, 0, []⟩ : NO.PktV)) b ⟨2, q.p.xid, 0, q.p.flags, 0, 0, q.x.server, q.p.gi, A', c', q.p.hw, none, 0, []⟩) := Lib.hid ⟨w0.heap.size, A1, c1, rfl, by rw [storeP_row (p0 := zeroP) hx4]; exact RepS.mk' (hb5.trans (below_setRow _ _ _ (Nat.le_refl _))) HB.out HZ.out (hx4.set _) (Nat.le_refl _) (by rw [setRow_size]; exact by_set (NO.By.of_own ho4) hx4 (pktP_no8 zeroP))⟩; have f0 := hx4.free 0; have f1 := hx4.free 1; have f2 := hx4.free 2; have f3 := hx4.free 3; have f4 := hx4.free 4; have f5 := hx4.free 5; have f6 := hx4.free 6; have f7 := hx4.free 7; have f8 := hx4.free 8; have f9 := hx4.free 9;have y0 := NO.PBox.c0 (p := zeroP) hx4; have y1 := NO.PBox.c1 (p := zeroP) hx4; have y2 := NO.PBox.c2 (p := zeroP) hx4; have y3 := NO.PBox.c3 (p := zeroP) hx4; have y4 := NO.PBox.c4 (p := zeroP) hx4; have y5 := NO.PBox.c5 (p := zeroP) hx4; have y6 := NO.PBox.c6 (p := zeroP) hx4; have y7 := NO.PBox.c7 (p := zeroP) hx4; have y8 := NO.PBox.c8 (p := zeroP) hx4; have y9 := NO.PBox.c9 (p := zeroP) hx4; clear hb4 hb5 ho4 hx4))
    all_goals
      go_wp2
      go_meet
      exact LA.out
  case rest =>
    obtain ⟨b, A1, c1, rfl, hR⟩ := hcut
    have HR := Lib.hid hR
    clear hR HC HS0 HB HZ HW0 HQ
    have c21 := (HQ0.out.later HR.out.low).c21
    have f4 := HR.out.box.free 4
    have b4 : wc.cell? ⟨b, 4, none⟩ = some (.int .u32 0) := HR.out.box.at_ 4
    go_upto_if 36 with fail
    go_cut [] (fun wx => RepS w wx b ⟨2, q.p.xid, 0, q.p.flags, if kind = 5 then q.p.ci else 0, 0, q.x.server, q.p.gi, A1, c1, q.p.hw, none, 0, []⟩)
    case first =>
      by_cases hk : kind = 5
      · have HR2 := Lib.hid (HR.out.put 4 (.int .u32 (q.p.ci : Int)) ⟨2, q.p.xid, 0, q.p.flags, q.p.ci, 0, q.x.server, q.p.gi, A1, c1, q.p.hw, none, 0, []⟩ rfl rfl rfl)
        go_wp2
        go_meet
        rw [if_pos hk]
        exact HR2.out
      · go_wp2
        go_meet
        rw [if_neg hk]
        exact HR.out
    case rest =>
      have HR2 := Lib.hid hcut
      clear hcut HR c21 f4 b4
      have HX0 : Hid (X = ⟨2, q.p.xid, 0, q.p.flags, if kind = 5 then q.p.ci else 0, 0, q.x.server, q.p.gi, q.p.hw, [optE 53 kind 1, optE 54 (q.x.server : Int) 4] ++ NO.absL M⟩) := Lib.hid HXX.out
      clear HXX
      generalize (if kind = 5 then q.p.ci else 0) = ci at *
      have HN1 := Lib.hid (fun V => number_any 53 kind 1 V)
      have HN2 := Lib.hid (fun V => number_any 54 (q.x.server : Int) 4 V)
      generalize optE 53 kind 1 = o1 at *
      generalize optE 54 (q.x.server : Int) 4 = o2 at *
      go_upto_region 4 with fail
      go_cut [] (fun wx => ∃ p B0, RepT w wx b p B0 ∧ p.abs = ⟨2, q.p.xid, 0, q.p.flags, ci, 0, q.x.server, q.p.gi, q.p.hw, [o1, o2]⟩)
      case first =>
        have d3 := (HQ0.out.later HR2.out.low).c3
        have d9 : wc.cell? ⟨b, 9, none⟩ = some (.slice none 0 0) := HR2.out.box.at_ 9
        have hwr : IntKind.i64.wrap (q.x.server : Int) = q.x.server := IntWalk.i64_in _ (by omega)
        have HRD := Lib.hid (HR2.out.later ((Below.refl _ wc).drew))
        go_region_law
          (first
            | (go_simp; go_at_call 82; (with_reducible refine (HN1.out _).mono ?_); rintro e w4 ⟨y1, rfl, HY1, hby1, hb4⟩; have HB1 := Lib.hid hby1; have HR4 := Lib.hid (RepS.later (wx := wc.drew) HRD.out hb4); have e3 := (HQ0.out.later HR4.out.low).c3; have e9 : w4.cell? ⟨b, 9, none⟩ = some (.slice none 0 0) := HR4.out.box.at_ 9; clear hb4 hby1)
            | (go_simp; go_at_call 82; (with_reducible refine (HN2.out _).mono ?_); rintro e w5 ⟨y2, rfl, HY2, hby2, hb5⟩; have HR5 := Lib.hid (HR4.out.later hb5); have HD5 : Hid (∀ x ∈ ([] : List NO.OptV) ++ [y1, y2], NO.By w5 w5.heap.size x.ad x.data) := Lib.hid (fun x hx => by simp at hx; rcases hx with rfl | rfl; exact HB1.out.later hb5; exact hby2); have g3 := (HQ0.out.later HR5.out.low).c3; have g9 : w5.cell? ⟨b, 9, none⟩ = some (.slice none 0 0) := HR5.out.box.at_ 9; have HEL : Hid (El ElemO (w5.alloc (.cells #[.int .i64 y1.code, .slice y1.ad y1.data.length y1.cap, .int .i64 y2.code, .slice y2.ad y2.data.length y2.cap] 68)) (w5.heap.size + 1) (some ⟨w5.heap.size, 0, none⟩) [y1, y2]) := Lib.hid (El.lit (E := ElemO) w5 [y1, y2] _ _ (by simp [ecells, ElemO])); have h6 : Below w5.heap.size w5 (w5.alloc (.cells #[.int .i64 y1.code, .slice y1.ad y1.data.length y1.cap, .int .i64 y2.code, .slice y2.ad y2.data.length y2.cap] 68)) := (Below.refl _ _).alloc (Nat.le_refl _) _; have HR6 := Lib.hid (HR5.out.later h6); have HD6 := Lib.hid (fun x hx => (HD5.out x hx).later h6); have q9 : (w5.alloc (.cells #[.int .i64 y1.code, .slice y1.ad y1.data.length y1.cap, .int .i64 y2.code, .slice y2.ad y2.data.length y2.cap] 68)).cell? ⟨b, 9, none⟩ = some (.slice none 0 0) := HR6.out.box.at_ 9; clear hb5 hby2 h6)
            | (refine step_rowE (E := ElemO) rfl (.tmp 44) (.tmp 54) rfl rfl (RowE.nil (E := ElemO) _) [y1, y2] rfl rfl HEL.out (by simp) ?_; intro A8 k8 w8 S8 HS8 hR8 hk8 hel8 hg8; have HT := Lib.hid (repT_of HR6.out hR8 hg8 (by have e := HS8.out; subst e; exact HD6.out)); have hb8 : Below _ _ w8 := NO.below_of_grown hg8 (Nat.le_refl _) (fun g e => by cases e); have h9 : w8.cell? ⟨b, 9, none⟩ = some (.slice none 0 0) := (HR6.out.later hb8).box.at_ 9; have f9 := (HR6.out.later hb8).box.free 9; clear hR8 hk8 hel8 hg8 hb8))
        all_goals
          go_wp2
          go_meet
          have e := HS8.out
          subst e
          refine ⟨_, _, HT.out, ?_⟩
          show NO.PktA.mk _ _ _ _ _ _ _ _ _ (NO.absL ([] ++ [y1, y2])) = _
          rw [← HY1.out, ← HY2.out]
          rfl
      case rest =>
        obtain ⟨p2, B0, hT2, hp2⟩ := hcut
        have HT := Lib.hid hT2
        have HP2 := Lib.hid hp2
        clear hT2 hp2 HR2
        have d9 : wc.cell? ⟨b, 9, none⟩ = some (.slice p2.opA p2.L.length p2.opC) := HT.out.rep.box.at_ 9
        have f9 := HT.out.rep.box.free 9
        have hz : p2.L.length + M.length ≤ 100000000000 := by
          have h1 : (NO.absL p2.L).length = 2 := congrArg (fun a : NO.PktA => a.opts.length) HP2.out
          rw [NO.absL, List.length_map] at h1
          omega
        have HELM := Lib.hid (el_of (HM0.out.later HT.out.rep.low))
        clear HN1 HN2
        go_wp2_with (first
          | (refine wpList_rowW (E := ElemO) rfl (.tmp 58) (.tmp 59) rfl rfl HT.out.row M rfl rfl HELM.out hz ?_; intro A9 k9 w9 S9 HS9 hR9 hk9 hg9 hb9; have HF := Lib.hid (repT_grow HT.out hR9 hg9 hb9 HS9.out HM0.out); have hg0 : Below B0 wc w9 := NO.below_of_grown hg9 HT.out.le (fun g e => HT.out.own g e); have h9 : w9.cell? ⟨b, 9, none⟩ = some (.slice p2.opA p2.L.length p2.opC) := (HT.out.rep.box.below hg0 HT.out.lt).at_ 9; have e9 := (HT.out.rep.box.below hg0 HT.out.lt).free 9; clear d9 f9 hR9 hk9 hg9 hb9 hg0)
          | (refine wp_loadR rowP rfl _ rfl b rfl HF.out.1.box rfl ?_)
          | (refine wp_storeR rowP rfl _ _ rfl w.heap.size _ rfl rfl HF.out.1.zero rfl rfl rfl ?_))
        have HE := Lib.hid (HF.out.2.set HF.out.1.zero (Nat.lt_succ_self _) (pktP_no8 zeroP) (NO.PktV.cells { p2 with opA := A9, opC := k9, L := S9 }))
        have HL := Lib.hid (HF.out.1.low.trans (below_setRow _ w.heap.size (NO.PktV.cells { p2 with opA := A9, opC := k9, L := S9 }) (Nat.le_refl _)))
        have HX9 := Lib.hid (HF.out.1.zero.set (NO.PktV.cells { p2 with opA := A9, opC := k9, L := S9 }))
        refine bodyPost_ret (v := NO.PktV.v { p2 with opA := A9, opC := k9, L := S9 }) (results_R rowP rfl rfl HX9.out rfl) rfl ⟨_, rfl, ?_, HE.out.more (Nat.le_succ _), HL.out⟩
        rw [HX0.out]
        refine Lib.hid ?_
        show NO.PktA.mk _ _ _ _ _ _ _ _ _ (NO.absL S9) = _
        rw [HS9.out]
        have e := HP2.out
        unfold NO.PktV.abs at e
        injection e with e0 e1 e2 e3 e4 e5 e6 e7 e8 e9
        rw [e0, e1, e2, e3, e4, e5, e6, e7, e8]
        congr 1
        rw [← e9]
        simp [NO.absL]
end Go.Proofs.YtmaohnbddlccdaaGreat
