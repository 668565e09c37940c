/- engine: answers and packets in memory, loaded and stored as a whole; options as elements of slices; sent, number. -/
import Derived.Test.YtmaohnbddlccdaaGreatMrgEngE
import Derived.Test.YtmaohnbddlccdaaGreatMrgBasM
import Derived.Test.YtmaohnbddlccdaaGreatMrgOptM
import Derived.Deep.WholeRow
namespace Go.Proofs.YtmaohnbddlccdaaGreat
open Go.RowKit Go.Sort

/-- Block g holds these cells. -/
def Bx (w : World) (g : Nat) (t : TypeId) (cs : Array Value) : Prop := w.heap[g]? = some (.cells cs t (0, 0))
section
variable {w w' : World} {g : Nat} {t : TypeId} {cs : Array Value}
theorem Bx.new (w : World) (t : TypeId) (cs : Array Value) : Bx (w.alloc (.cells cs t)) w.heap.size t cs := heap_alloc_new w _
theorem Bx.lt (h : Bx w g t cs) : g < w.heap.size := (Array.getElem?_eq_some_iff.1 h).1
theorem Bx.below (h : Bx w g t cs) {B : Nat} (hb : Below B w w') (hg : g < B) : Bx w' g t cs := (hb.block g hg).trans h
theorem Bx.later (h : Bx w g t cs) (hb : Below w.heap.size w w') : Bx w' g t cs := h.below hb h.lt
theorem Bx.alloc (h : Bx w g t cs) (o : Obj) : Bx (w.alloc o) g t cs := h.later ((Below.refl _ _).alloc (Nat.le_refl _) o)
theorem Bx.drew (h : Bx w g t cs) : Bx w.drew g t cs := h
theorem Bx.at_ (h : Bx w g t cs) (i : Nat) : w.cell? ⟨g, i, none⟩ = cs[i]? := cell_of_row w g i _ _ _ h
theorem Bx.free (h : Bx w g t cs) (i : Nat) : w.frozen? ⟨g, i, none⟩ = false := by
  simp [World.frozen?, (show w.heap[g]? = _ from h)]
theorem Bx.other (h : Bx w g t cs) {a : Addr} (ha : g ≠ a.block) (v : Value) : Bx (w.setCell a v) g t cs := (Below.heap_setCell w a v g ha).trans h
theorem Bx.set (h : Bx w g t cs) (cs' : Array Value) : Bx (w.setRow g cs') g t cs' := setRow_heap w g cs cs' t _ h
theorem Bx.grown (h : Bx w g t cs) {row : Option Nat} (hg : w.grownBy w' row) (hr : row ≠ some g) : Bx w' g t cs := (hg.block g h.lt (fun e => hr e.symm)).trans h
theorem Bx.store (h : Bx w g t cs) (i : Nat) (u : Value) : Bx (w.setCell ⟨g, i, none⟩ u) g t (cs.setIfInBounds i u) := by
  show (w.heap.modify g _)[g]? = _
  rw [Array.getElem?_modify, if_pos rfl, (show w.heap[g]? = _ from h)]
  rfl
theorem below_setRow {B : Nat} (w : World) (g : Nat) (cs : Array Value) (hg : B ≤ g) : Below B w (w.setRow g cs) :=
  ⟨rfl, rfl, rfl, by simp, fun k hk => setRow_other w g k cs (by omega)⟩
end

/-- A type that is laid out in n cells, and loaded as a whole. -/
structure RowT (T : TypeId) (n : Nat) : Prop where
  row : (Tryz.prog.underlying T).map TypeDesc.isRow = some true
  size : (Tryz.prog.info? T).map (·.size) = some n
theorem RowT.desc {T : TypeId} {n : Nat} (h : RowT T n) : ∃ d, Tryz.prog.underlying T = some d ∧ d.isRow = true := by
  cases hu : Tryz.prog.underlying T with
  | none => have := h.row; rw [hu] at this; simp at this
  | some d => have := h.row; rw [hu] at this; exact ⟨d, rfl, by simpa using this⟩
theorem rowA : RowT 44 21 := ⟨by kernel_rfl, by kernel_rfl⟩
theorem rowP : RowT 32 10 := ⟨by kernel_rfl, by kernel_rfl⟩
section
variable {ops : Array Oper} {rest : List Oper} {o : Oper} {a : Act} {w : World} {Q : Exit → Act → World → Prop}
theorem wp_loadR {T : TypeId} {n : Nat} (hT : RowT T n) (hgd : o.guard = none) (x : Operand) (ho : o.op = .load T x) (b : Nat) (hx : a.eval x = .pointer (some ⟨b, 0, none⟩)) {cs : Array Value} {t : TypeId} (hB : Bx w b t cs) (hl : cs.size = n)
    (h : wpList Tryz.prog ops Q rest (a.put o.dst (.agg cs)) w) : wpList Tryz.prog ops Q (o :: rest) a w := by
  obtain ⟨d, hu, hd⟩ := hT.desc
  cases d with
  | struct fs => exact wpList_load_row hgd _ x ho b hx t _ _ _ hB hu rfl (hT.size.trans (by rw [hl])) h
  | array m e => exact wpList_load_row hgd _ x ho b hx t _ _ _ hB hu rfl (hT.size.trans (by rw [hl])) h
  | _ => simp [TypeDesc.isRow] at hd
theorem wp_storeR {T : TypeId} {n : Nat} (hT : RowT T n) (hgd : o.guard = none) (x y : Operand) (ho : o.op = .store T x y) (b : Nat) (cs : Array Value) (hx : a.eval x = .pointer (some ⟨b, 0, none⟩)) (hy : a.eval y = .agg cs) {old : Array Value} {t : TypeId} (hB : Bx w b t old) (hl : old.size = n) (hc : cs.size = n) (h1 : cs.toList.all (·.oneCell') = true)
    (h : wpList Tryz.prog ops Q rest (a.put o.dst undef) (w.setRow b cs)) : wpList Tryz.prog ops Q (o :: rest) a w :=
  wpList_store_row hgd _ x y ho b _ hx hy t _ hB (hT.size.trans (by rw [hc])) (by rw [hl, hc]) (by rw [← Array.all_toList]; exact h1) h
/-- .. into the block that was made last. -/
theorem wp_storeL {T : TypeId} {n : Nat} (hT : RowT T n) (hgd : o.guard = none) (x y : Operand) (ho : o.op = .store T x y) (cs c : Array Value) (t : TypeId) (hx : a.eval x = .pointer (some ⟨w.heap.size, 0, none⟩)) (hy : a.eval y = .agg cs) (hl : c.size = n) (hc : cs.size = n) (h1 : cs.toList.all (·.oneCell') = true) (hd : o.dst = none)
    (h : wpList Tryz.prog ops Q rest a (w.alloc (.cells cs t))) : wpList Tryz.prog ops Q (o :: rest) a (w.alloc (.cells c t)) :=
  wpList_store_row hgd _ x y ho _ _ hx hy t _ (heap_alloc_last w _) (hT.size.trans (by rw [hc])) (by rw [hl, hc]) (by rw [← Array.all_toList]; exact h1) (by rw [World.setRow_alloc_new, hd]; exact h)
end
theorem results_R {T : TypeId} {n : Nat} (hT : RowT T n) {fn : Func} {p : Tmp} (h : fn.results = #[.cell p T]) {tmps : Array Value} {w : World} {b : Nat} {cs : Array Value} {t : TypeId}
    (hp : tmps.getD p undef = .pointer (some ⟨b, 0, none⟩)) (hB : Bx w b t cs) (hl : cs.size = n) : (results fn tmps).run Tryz.prog w = .ok (.agg cs) w := by
  obtain ⟨d, hu, hd⟩ := hT.desc
  cases d with
  | struct fs => exact results_cell_row h tmps w b t _ _ _ hp hB hu rfl (hT.size.trans (by rw [hl]))
  | array m e => exact results_cell_row h tmps w b t _ _ _ hp hB hu rfl (hT.size.trans (by rw [hl]))
  | _ => simp [TypeDesc.isRow] at hd

/-- An answer, as it lies. -/
structure AnW where
  send : Bool
  p : NO.PktV
  change : Bool
  l : LV
  pot : Int
abbrev AnW.cells (a : AnW) : Array Value := #[.bool a.send, .int .i64 a.p.op, .int .u32 (a.p.xid : Int), .int .i64 a.p.secs, .int .i64 a.p.flags, .int .u32 (a.p.ci : Int), .int .u32 (a.p.yi : Int), .int .u32 (a.p.si : Int), .int .u32 (a.p.gi : Int), .slice a.p.hwA a.p.hw.length a.p.hwC, .slice a.p.opA a.p.L.length a.p.opC, .bool a.change, .int .u32 (a.l.addr : Int), .int .i64 a.l.bind, .string a.l.cb, .int .i64 a.l.unt, .int .i64 a.l.acked, .int .i64 a.l.told, .int .i64 a.l.at_, .int .i64 a.l.ver, .int .i64 a.pot]
abbrev AnW.v (a : AnW) : Value := .agg a.cells
def AnW.abs (a : AnW) : AnsV := ⟨a.send, a.p.abs, a.change, a.l, a.pot⟩
def zeroP : NO.PktV := ⟨0, 0, 0, 0, 0, 0, 0, 0, none, 0, [], none, 0, []⟩
def zeroA : AnW := ⟨false, zeroP, false, zeroL, 0⟩
theorem zeroA_abs : zeroA.abs = noA := rfl
theorem zeroP_pk (w : World) (B : Nat) : NO.Pk w B zeroP := ⟨NO.By.nil, NO.Op.nil⟩
/-- No byte is among these cells. -/
def No8 (cs : Array Value) : Prop := ∀ (i : Nat) (x : Int), cs[i]? ≠ some (.int .u8 x)
theorem no8_of {cs : Array Value} (h : cs.toList.all (fun v => match v with | .int .u8 _ => false | _ => true) = true) : No8 cs := by
  intro i x e
  rw [List.all_eq_true] at h
  have h1 := h (.int .u8 x) (by have := Array.mem_of_getElem? e; simpa using this)
  simp at h1
theorem by_set {w : World} {B g : Nat} {A : Option Addr} {l : List UInt8} {t : TypeId} {cs cs' : Array Value} (h : NO.By w B A l) (hB : Bx w g t cs) (h8 : No8 cs) : NO.By (w.setRow g cs') B A l :=
  ⟨fun i x hx => by
    obtain ⟨b, o, h1, h2, h3⟩ := h.at_ i x hx
    refine ⟨b, o, h1, h2, ?_⟩
    by_cases hb : b = g
    · subst hb
      rw [hB.at_] at h3
      exact (h8 _ _ h3).elim
    · rw [cell_setRow_other w g cs' ⟨b, o + i, none⟩ hb]
      exact h3⟩
/-- A packet lies in memory, its options in a row made since block lo. -/
structure PkS (lo : Nat) (w : World) (p : NO.PktV) : Prop where
  pk : NO.Pk w w.heap.size p
  row : ∀ b o, p.opA = some ⟨b, o, none⟩ → p.L ≠ [] → lo ≤ b
section
variable {w w' : World} {lo g : Nat} {p : NO.PktV} {t : TypeId} {cs : Array Value}
theorem PkS.later (h : PkS lo w p) (hb : Below w.heap.size w w') : PkS lo w' p := ⟨h.pk.later hb, h.row⟩
theorem PkS.more {lo' : Nat} (h : PkS lo w p) (hl : lo' ≤ lo) : PkS lo' w p := ⟨h.pk, fun b o h1 h2 => Nat.le_trans hl (h.row b o h1 h2)⟩
theorem PkS.set (h : PkS lo w p) (hB : Bx w g t cs) (hg : g < lo) (h8 : No8 cs) (cs' : Array Value) : PkS lo (w.setRow g cs') p := by
  refine ⟨⟨?_, ⟨fun i x hx => ?_, fun x hx => ?_⟩⟩, h.row⟩
  · have := by_set (cs' := cs') h.pk.hw hB h8
    rwa [setRow_size]
  · obtain ⟨b, o, h1, h2, h3, h4⟩ := h.pk.opt.at_ i x hx
    have hb : b ≠ g := by have := h.row b o h1 (by intro e; rw [e] at hx; simp at hx); omega
    refine ⟨b, o, h1, by rwa [setRow_size], ?_, ?_⟩
    · rw [cell_setRow_other w g cs' ⟨b, o + i * 2, none⟩ hb]; exact h3
    · rw [cell_setRow_other w g cs' ⟨b, o + i * 2 + 1, none⟩ hb]; exact h4
  · have := by_set (cs' := cs') (h.pk.opt.data x hx) hB h8
    rwa [setRow_size]
end
theorem zeroP_pks (w : World) (lo : Nat) : PkS lo w zeroP := ⟨zeroP_pk w _, fun b o h => by cases h⟩
/-- An answer is given. -/
def GivesA (w : World) (x : AnsV) (e : Ending) (w' : World) : Prop := ∃ a : AnW, e = .returned a.v ∧ Hid (a.abs = x) ∧ PkS w.heap.size w' a.p ∧ Below w.heap.size w w'
/-- A packet is given. -/
def GivesP (w : World) (x : NO.PktA) (e : Ending) (w' : World) : Prop := ∃ p : NO.PktV, e = .returned p.v ∧ Hid (p.abs = x) ∧ PkS w.heap.size w' p ∧ Below w.heap.size w w'
theorem ansW_no8 (a : AnW) : No8 a.cells := no8_of rfl

theorem ans_end {w W : World} {x : AnsV} {a : AnW} {b : Nat} {p : Tmp} {fn : Func} {tmps : Array Value} (h : fn.results = #[.cell p 44]) (hp : tmps.getD p undef = .pointer (some ⟨b, 0, none⟩)) (hB : Bx W b 44 a.cells) (hx : a.abs = x) (hk : PkS w.heap.size W a.p) (hl : Below w.heap.size w W) :
    bodyPost Tryz.prog fn (GivesA w x) .ret { tmps := tmps, defers := [] } W :=
  bodyPost_ret (v := a.v) (results_R rowA h hp hB rfl) rfl ⟨a, rfl, Lib.hid hx, hk, hl⟩

theorem sent_any (p : NO.PktV) (w : World) :
    Calls Tryz.prog 37 #[p.v] w fun e w' => e = .returned (⟨true, p, false, zeroL, 0⟩ : AnW).v ∧ Below w.heap.size w w' := by
  have hb : Below w.heap.size w (w.alloc (NO.pbox p)) := (Below.refl _ _).alloc (Nat.le_refl _) _
  have hs : (w.alloc (NO.pbox p)).heap.size = w.heap.size + 1 := by simp
  have HB := Lib.hid (hb.alloc hb.size (.cells (⟨true, p, false, zeroL, 0⟩ : AnW).cells 44))
  have HX : Hid (Bx ((w.alloc (NO.pbox p)).alloc (.cells (⟨true, p, false, zeroL, 0⟩ : AnW).cells 44)) (w.heap.size + 1) 44 (⟨true, p, false, zeroL, 0⟩ : AnW).cells) := Lib.hid (by rw [← hs]; exact Bx.new _ _ _)
  have HS := Lib.hid hs
  clear hb hs
  go_enter Tryz.func37, Tryz.ntmps37
  go_wp2_with (first | (refine wp_storeL rowA rfl _ _ rfl _ _ _ (by rw [HS.out]; rfl) rfl rfl rfl rfl rfl ?_))
  exact bodyPost_ret (v := (⟨true, p, false, zeroL, 0⟩ : AnW).v) (results_R rowA rfl rfl HX.out rfl) rfl ⟨rfl, HB.out⟩

/-- Options as elements of slices. -/
def ElemO : Elem Tryz.prog NO.OptV where
  e := 68
  ty := 30
  m := 2
  bytes := 32
  zero := .agg #[.int .i64 0, .slice none 0 0]
  cells := fun x => [.int .i64 x.code, .slice x.ad x.data.length x.cap]
  hm := by decide
  hb0 := by decide
  hb := by decide
  len := fun _ => rfl
  one := fun v u hu => by
    simp at hu
    rcases hu with rfl | rfl <;> rfl
  und := Tryz.underlying30
  info := by kernel_rfl
  hz := rfl
theorem op_of {w : World} {B : Nat} {A : Option Addr} {l : List NO.OptV} (h : El ElemO w B A l) (hd : ∀ x ∈ l, NO.By w B x.ad x.data) : NO.Op w B A l :=
  ⟨fun i x hx => by
    obtain ⟨b, o, h1, h2, h3⟩ := h.at_ i x hx
    exact ⟨b, o, h1, h2, h3 0 _ rfl, h3 1 _ rfl⟩, hd⟩
theorem el_of {w : World} {B : Nat} {A : Option Addr} {l : List NO.OptV} (h : NO.Op w B A l) : El ElemO w B A l :=
  ⟨fun i x hx => by
    obtain ⟨b, o, h1, h2, h3, h4⟩ := h.at_ i x hx
    refine ⟨b, o, h1, h2, fun k u hu => ?_⟩
    match k with
    | 0 => injection hu with hu; subst hu; exact h3
    | 1 => injection hu with hu; subst hu; exact h4
    | k + 2 => cases hu⟩
/-- An option is given. -/
def GivesO (w : World) (x : Int × List UInt8) (e : Ending) (w' : World) : Prop := ∃ y : NO.OptV, e = .returned y.v ∧ Hid (y.abs = x) ∧ NO.By w' w'.heap.size y.ad y.data ∧ Below w.heap.size w w'
theorem rowO : RowT 68 2 := ⟨by kernel_rfl, by kernel_rfl⟩

set_option maxRecDepth 100000 in
set_option maxHeartbeats 1000000 in
theorem number_any (code n many : Int) (w : World) : Calls Tryz.prog 82 #[.int .i64 code, .int .i64 n, .int .i64 many] w (GivesO w (optE code n many)) := by
  obtain ⟨w0, hw0⟩ : ∃ w0, w0 = w.alloc (.cells #[.int .i64 0, .slice none 0 0] 68) := ⟨_, rfl⟩
  have HZ : Hid (Bx w0 w.heap.size 68 #[.int .i64 0, .slice none 0 0]) := Lib.hid (by rw [hw0]; exact Bx.new _ _ _)
  have HB : Hid (Below w.heap.size w w0) := Lib.hid (by rw [hw0]; exact (Below.refl _ _).alloc (Nat.le_refl _) _)
  have HN := Lib.hid (NO.bytes_any n many w0)
  unfold NO.GivesB at HN
  have HW0 := Lib.hid hw0
  clear hw0
  unfold optE
  go_enter Tryz.func82, Tryz.ntmps82
  go_upto_region 1 with fail
  rw [← HW0.out]
  go_wp2_with fail
  refine HN.out.mono ?_
  rintro e w1 ⟨A, c, rfl, hby, -, hb1⟩
  obtain ⟨y, hy⟩ : ∃ y : NO.OptV, y = ⟨code, A, c, (NO.bytR n many).1⟩ := ⟨_, rfl⟩
  have HZ1 := Lib.hid (HZ.out.later hb1)
  have h2 := below_setRow w1 w.heap.size #[.int .i64 y.code, .slice y.ad y.data.length y.cap] (Nat.le_refl _)
  have HB2 := Lib.hid ((HB.out.trans (hb1.mono HB.out.size)).trans h2)
  have HX2 : Hid (Bx (w1.setRow w.heap.size #[.int .i64 y.code, .slice y.ad y.data.length y.cap]) w.heap.size 68 #[.int .i64 y.code, .slice y.ad y.data.length y.cap]) := Lib.hid (HZ1.out.set _)
  have HY : Hid (NO.By (w1.setRow w.heap.size #[.int .i64 y.code, .slice y.ad y.data.length y.cap]) (w1.setRow w.heap.size #[.int .i64 y.code, .slice y.ad y.data.length y.cap]).heap.size y.ad y.data) := Lib.hid (by
    rw [setRow_size]
    refine by_set ?_ HZ1.out (no8_of rfl)
    rw [hy]
    exact hby)
  have HE : Hid (y.abs = (code, (NO.bytR n many).1)) := Lib.hid (by rw [hy]; rfl)
  clear hb1 h2
  go_wp2_with (first | (refine wp_storeR rowO rfl _ _ rfl w.heap.size #[.int .i64 y.code, .slice y.ad y.data.length y.cap] rfl (by rw [hy]; rfl) HZ1.out rfl rfl rfl ?_))
  exact bodyPost_ret (v := y.v) (results_R rowO rfl (p := 6) (tmps := _) rfl HX2.out rfl) rfl ⟨y, rfl, HE, HY.out, HB2.out⟩
end Go.Proofs.YtmaohnbddlccdaaGreat
