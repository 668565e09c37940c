/- Joined texts: EngV, EngW. -/
import Derived.Test.YtmaohnbddlccdaaGreatMrgEngS

/- engine: bound. (Written by wip/tools/genengv.py.) -/
section
namespace Go.Proofs.YtmaohnbddlccdaaGreat
open Go.RowKit Go.Sort

/-- A lease is laid into an answer, cell by cell. -/
def storeAt (W : World) (b : Nat) (l : LV) : World :=
  (((((((W.setCell ⟨b, 12, none⟩ (.int .u32 (l.addr : Int))).setCell ⟨b, 13, none⟩ (.int .i64 l.bind)).setCell ⟨b, 14, none⟩ (.string l.cb)).setCell ⟨b, 15, none⟩ (.int .i64 l.unt)).setCell ⟨b, 16, none⟩ (.int .i64 l.acked)).setCell ⟨b, 17, none⟩ (.int .i64 l.told)).setCell ⟨b, 18, none⟩ (.int .i64 l.at_)).setCell ⟨b, 19, none⟩ (.int .i64 l.ver)
theorem storeAt_row {W : World} {b : Nat} {t : TypeId} {a : AnW} (h : Bx W b t a.cells) (l : LV) : storeAt W b l = W.setRow b (AnW.cells { a with l := l }) := by
  unfold storeAt
  rw [cell_row h, row_cell h, row_cell h, row_cell h, row_cell h, row_cell h, row_cell h, row_cell h]
  simp only [List.setIfInBounds_toArray, List.set_cons_zero, List.set_cons_succ]
/-- What stands of an answer in the making: it lies in the block that was made behind w4. -/
def AnR (w4 : World) (a : AnW) (wx : World) : Prop := Bx wx w4.heap.size 44 a.cells ∧ Below w4.heap.size w4 wx
theorem AnR.at_ {w4 wx : World} {a : AnW} (h : AnR w4 a wx) {W : World} (hb : Below wx.heap.size wx W) : AnR w4 a W := ⟨h.1.later hb, h.2.trans (hb.mono h.2.size)⟩
theorem AnR.lease {w4 wx : World} {a : AnW} (h : AnR w4 a wx) (l : LV) : AnR w4 { a with l := l } (storeAt wx w4.heap.size l) := by
  rw [storeAt_row h.1]
  exact ⟨h.1.set _, h.2.trans (below_setRow _ _ _ (Nat.le_refl _))⟩
theorem AnR.put {w4 wx : World} {a : AnW} (h : AnR w4 a wx) (i : Nat) (u : Value) (a' : AnW) (he : a.cells.setIfInBounds i u = a'.cells) : AnR w4 a' (wx.setCell ⟨w4.heap.size, i, none⟩ u) :=
  ⟨he ▸ h.1.store i u, h.2.setCell (p := ⟨w4.heap.size, i, none⟩) (Nat.le_refl _) u⟩

/-- What comes of a promise that is kept. -/
def boundQ (q : QV) (m : LV) : AnsV :=
  ⟨true, promE q.x q.p.abs 5 m.addr (longQ q m), true, NC.lsV q.x.lead m ⟨q.cl.toArray⟩ q.now q.want, NC.potV (NC.lsV q.x.lead m ⟨q.cl.toArray⟩ q.now q.want) q.now q.want⟩

set_option maxRecDepth 100000 in
set_option maxHeartbeats 4000000 in
theorem bound_any {w : World} {g : Nat} {q : QV} (hq : QM w g q) (ho : QOk q) (m : LV) :
    Calls Tryz.prog 78 #[ptE g, m.v] w (GivesA w (boundQ q m)) := by
  obtain ⟨w0, hw0⟩ : ∃ w0, w0 = (w.alloc (lbox m)).alloc (.cells zeroA.cells 44) := ⟨_, rfl⟩
  have hs : (w.alloc (lbox m)).heap.size = w.heap.size + 1 := by simp
  have hB : Below w.heap.size w w0 := by rw [hw0]; exact ((Below.refl _ _).alloc (Nat.le_refl _) _).alloc (by simp) _
  have hZ : Bx w0 (w.heap.size + 1) 44 zeroA.cells := by rw [hw0, ← hs]; exact Bx.new _ _ _
  have HL : Hid (LBox w0 w.heap.size m) := Lib.hid (by rw [hw0]; exact (LBox.new w m).alloc _)
  have HQ := Lib.hid (hq.later hB)
  have HB := Lib.hid hB
  have HZ := Lib.hid hZ
  have HW0 : Hid (w0 = (w.alloc (lbox m)).alloc (.cells #[.bool false, .int .i64 0, .int .u32 0, .int .i64 0, .int .i64 0, .int .u32 0, .int .u32 0, .int .u32 0, .int .u32 0, .slice none 0 0, .slice none 0 0, .bool false, .int .u32 0, .int .i64 0, .string ⟨#[]⟩, .int .i64 0, .int .i64 0, .int .i64 0, .int .i64 0, .int .i64 0, .int .i64 0] 44)) := Lib.hid hw0
  have HPR := Lib.hid (fun V (h : QM V g q) => (show Calls Tryz.prog 74 #[ptE g, .int .i64 5, m.v] V (GivesP V (promE q.x q.p.abs 5 m.addr (longQ q m))) from promise_any h 5 m ho.hw ho.sv))
  have HLE := Lib.hid (fun V => NC.lease_any q.x.id q.x.lead q.x.guard q.now q.want m ⟨q.cl.toArray⟩ V)
  obtain ⟨X, hX⟩ : ∃ X, X = boundQ q m := ⟨_, rfl⟩
  rw [← hX]
  unfold boundQ at hX
  have HXX := Lib.hid hX
  generalize NC.lsV q.x.lead m ⟨q.cl.toArray⟩ q.now q.want = n at *
  have HPO := Lib.hid (fun V => NC.pot_any q.x.id q.x.lead q.x.guard q.now q.want n V)
  generalize NC.potV n q.now q.want = pt at *
  obtain ⟨l0, l1, l2, l3, l4, l5, l6, l7⟩ := HL.out.all
  clear hw0 hB hZ hq hs hX ho
  go_enter Tryz.func78, Tryz.ntmps78
  go_upto_region 1 with fail
  rw [← HW0.out]
  go_wp2_with fail
  refine (HPR.out _ HQ.out).mono ?_
  rintro e w3 ⟨p, rfl, HP, hps, hb3⟩
  have HS := Lib.hid (sent_any p w3)
  have HPS := Lib.hid hps
  have HB3 := Lib.hid hb3
  clear hps hb3 l0 l1 l2 l3 l4 l5 l6 l7
  go_wp2_with fail
  refine HS.out.mono ?_
  rintro e w4 ⟨rfl, hb4⟩
  have hb04 := HB3.out.trans (hb4.mono HB3.out.size)
  have HQ4 := Lib.hid (HQ.out.later hb04)
  have HZ4 := Lib.hid (HZ.out.later hb04)
  have HL4 := Lib.hid (HL.out.later hb04)
  have HB4 := Lib.hid (HB.out.trans (hb04.mono HB.out.size))
  have HP4 := Lib.hid (HPS.out.later hb4)
  have HLT : Hid (w.heap.size + 1 < w0.heap.size) := Lib.hid HZ.out.lt
  obtain ⟨b, hbb⟩ : ∃ b, b = w4.heap.size := ⟨_, rfl⟩
  obtain ⟨w5, hw5⟩ : ∃ w5, w5 = w4.alloc (.cells (AnW.cells ⟨true, p, false, zeroL, 0⟩) 44) := ⟨_, rfl⟩
  have HR5 : Hid (AnR w4 ⟨true, p, false, zeroL, 0⟩ w5) := Lib.hid (by rw [hw5]; exact ⟨Bx.new _ _ _, (Below.refl _ _).alloc (Nat.le_refl _) _⟩)
  have HW5 : Hid (w5 = w4.alloc (.cells (AnW.cells ⟨true, p, false, zeroL, 0⟩) 44)) := Lib.hid hw5
  have HBB := Lib.hid hbb
  clear hb4 hb04 hw5 hbb
  go_upto_region 2 with (first | (refine wp_storeL rowA rfl _ _ rfl _ _ _ rfl rfl rfl rfl rfl rfl ?_))
  go_simp
  rw [← HW5.out, ← HBB.out]
  have b11 : w5.cell? ⟨b, 11, none⟩ = some (.bool false) := by rw [HBB.out]; exact HR5.out.1.at_ 11
  have f11 : w5.frozen? ⟨b, 11, none⟩ = false := by rw [HBB.out]; exact HR5.out.1.free 11
  obtain ⟨w6, hw6⟩ : ∃ w6, w6 = w5.setCell ⟨b, 11, none⟩ (.bool true) := ⟨_, rfl⟩
  have HR6 : Hid (AnR w4 ⟨true, p, true, zeroL, 0⟩ w6) := Lib.hid (by rw [hw6, HBB.out]; exact HR5.out.put 11 _ _ rfl)
  have HW6 := Lib.hid hw6
  clear hw6
  go_upto_region 3 with fail
  rw [← HW6.out]
  clear b11 f11
  have HGB : Hid (g < w4.heap.size ∧ w.heap.size < w4.heap.size) := Lib.hid ⟨HQ4.out.lt, HL4.out.lt⟩
  go_cut [] (fun wx => AnR w4 ⟨true, p, true, n, 0⟩ wx)
  case first =>
    have HD := Lib.hid (AnR.at_ HR6.out ((Below.refl _ w6).drew))
    have HC := Lib.hid (fun V (hb : Below w4.heap.size w4 V) => (show (V).cell? ⟨g, 14, none⟩ = some (.int .i64 q.x.id) ∧ (V).cell? ⟨g, 15, none⟩ = some (.int .i64 q.x.lead) ∧ (V).cell? ⟨g, 16, none⟩ = some (.int .i64 q.x.guard) ∧ (V).cell? ⟨g, 27, none⟩ = some (.string ⟨q.cl.toArray⟩) ∧ (V).cell? ⟨g, 29, none⟩ = some (.int .i64 q.want) ∧ (V).cell? ⟨g, 32, none⟩ = some (.int .i64 q.now) ∧ (V).cell? ⟨w.heap.size, 0, none⟩ = some (.int .u32 (m.addr : Int)) ∧ (V).cell? ⟨w.heap.size, 1, none⟩ = some (.int .i64 m.bind) ∧ (V).cell? ⟨w.heap.size, 2, none⟩ = some (.string m.cb) ∧ (V).cell? ⟨w.heap.size, 3, none⟩ = some (.int .i64 m.unt) ∧ (V).cell? ⟨w.heap.size, 4, none⟩ = some (.int .i64 m.acked) ∧ (V).cell? ⟨w.heap.size, 5, none⟩ = some (.int .i64 m.told) ∧ (V).cell? ⟨w.heap.size, 6, none⟩ = some (.int .i64 m.at_) ∧ (V).cell? ⟨w.heap.size, 7, none⟩ = some (.int .i64 m.ver) from ⟨(HQ4.out.later hb).c14, (HQ4.out.later hb).c15, (HQ4.out.later hb).c16, (HQ4.out.later hb).c27, (HQ4.out.later hb).c29, (HQ4.out.later hb).c32, (HL4.out.later hb).c0, (HL4.out.later hb).c1, (HL4.out.later hb).c2, (HL4.out.later hb).c3, (HL4.out.later hb).c4, (HL4.out.later hb).c5, (HL4.out.later hb).c6, (HL4.out.later hb).c7⟩))
    obtain ⟨k0, k1, k2, k3, k4, k5, k6, k7, k8, k9, k10, k11, k12, k13⟩ := HC.out w6.drew HD.out.2
    clear HQ HL HB HZ HPR HS HPS HB3 HW0
    go_region_held3 (fun w' => (w').cell? ⟨g, 14, none⟩ = some (.int .i64 q.x.id) ∧ (w').cell? ⟨g, 15, none⟩ = some (.int .i64 q.x.lead) ∧ (w').cell? ⟨g, 16, none⟩ = some (.int .i64 q.x.guard) ∧ (w').cell? ⟨g, 27, none⟩ = some (.string ⟨q.cl.toArray⟩) ∧ (w').cell? ⟨g, 29, none⟩ = some (.int .i64 q.want) ∧ (w').cell? ⟨g, 32, none⟩ = some (.int .i64 q.now) ∧ (w').cell? ⟨w.heap.size, 0, none⟩ = some (.int .u32 (m.addr : Int)) ∧ (w').cell? ⟨w.heap.size, 1, none⟩ = some (.int .i64 m.bind) ∧ (w').cell? ⟨w.heap.size, 2, none⟩ = some (.string m.cb) ∧ (w').cell? ⟨w.heap.size, 3, none⟩ = some (.int .i64 m.unt) ∧ (w').cell? ⟨w.heap.size, 4, none⟩ = some (.int .i64 m.acked) ∧ (w').cell? ⟨w.heap.size, 5, none⟩ = some (.int .i64 m.told) ∧ (w').cell? ⟨w.heap.size, 6, none⟩ = some (.int .i64 m.at_) ∧ (w').cell? ⟨w.heap.size, 7, none⟩ = some (.int .i64 m.ver)) (first | (with_reducible exact rz) | go_keep) (first
      | (go_at_call 126; (with_reducible refine (HLE.out _).mono ?_); rintro e w7 ⟨rfl, hb7⟩; have HR7 := Lib.hid (AnR.at_ HD.out hb7); obtain ⟨j0, j1, j2, j3, j4, j5, j6, j7, j8, j9, j10, j11, j12, j13⟩ := HC.out w7 HR7.out.2; have rz : (((((((((w7.setCell ⟨b, 12, none⟩ (.int .u32 (n.addr : Int))).setCell ⟨b, 13, none⟩ (.int .i64 n.bind)).setCell ⟨b, 14, none⟩ (.string n.cb)).setCell ⟨b, 15, none⟩ (.int .i64 n.unt)).setCell ⟨b, 16, none⟩ (.int .i64 n.acked)).setCell ⟨b, 17, none⟩ (.int .i64 n.told)).setCell ⟨b, 18, none⟩ (.int .i64 n.at_)).setCell ⟨b, 19, none⟩ (.int .i64 n.ver))).cell? ⟨g, 14, none⟩ = some (.int .i64 q.x.id) ∧ (((((((((w7.setCell ⟨b, 12, none⟩ (.int .u32 (n.addr : Int))).setCell ⟨b, 13, none⟩ (.int .i64 n.bind)).setCell ⟨b, 14, none⟩ (.string n.cb)).setCell ⟨b, 15, none⟩ (.int .i64 n.unt)).setCell ⟨b, 16, none⟩ (.int .i64 n.acked)).setCell ⟨b, 17, none⟩ (.int .i64 n.told)).setCell ⟨b, 18, none⟩ (.int .i64 n.at_)).setCell ⟨b, 19, none⟩ (.int .i64 n.ver))).cell? ⟨g, 15, none⟩ = some (.int .i64 q.x.lead) ∧ (((((((((w7.setCell ⟨b, 12, none⟩ (.int .u32 (n.addr : Int))).setCell ⟨b, 13, none⟩ (.int .i64 n.bind)).setCell ⟨b, 14, none⟩ (.string n.cb)).setCell ⟨b, 15, none⟩ (.int .i64 n.unt)).setCell ⟨b, 16, none⟩ (.int .i64 n.acked)).setCell ⟨b, 17, none⟩ (.int .i64 n.told)).setCell ⟨b, 18, none⟩ (.int .i64 n.at_)).setCell ⟨b, 19, none⟩ (.int .i64 n.ver))).cell? ⟨g, 16, none⟩ = some (.int .i64 q.x.guard) ∧ (((((((((w7.setCell ⟨b, 12, none⟩ (.int .u32 (n.addr : Int))).setCell ⟨b, 13, none⟩ (.int .i64 n.bind)).setCell ⟨b, 14, none⟩ (.string n.cb)).setCell ⟨b, 15, none⟩ (.int .i64 n.unt)).setCell ⟨b, 16, none⟩ (.int .i64 n.acked)).setCell ⟨b, 17, none⟩ (.int .i64 n.told)).setCell ⟨b, 18, none⟩ (.int .i64 n.at_)).setCell ⟨b, 19, none⟩ (.int .i64 n.ver))).cell? ⟨g, 27, none⟩ = some (.string ⟨q.cl.toArray⟩) ∧ (((((((((w7.setCell ⟨b, 12, none⟩ (.int .u32 (n.addr : Int))).setCell ⟨b, 13, none⟩ (.int .i64 n.bind)).setCell ⟨b, 14, none⟩ (.string n.cb)).setCell ⟨b, 15, none⟩ (.int .i64 n.unt)).setCell ⟨b, 16, none⟩ (.int .i64 n.acked)).setCell ⟨b, 17, none⟩ (.int .i64 n.told)).setCell ⟨b, 18, none⟩ (.int .i64 n.at_)).setCell ⟨b, 19, none⟩ (.int .i64 n.ver))).cell? ⟨g, 29, none⟩ = some (.int .i64 q.want) ∧ (((((((((w7.setCell ⟨b, 12, none⟩ (.int .u32 (n.addr : Int))).setCell ⟨b, 13, none⟩ (.int .i64 n.bind)).setCell ⟨b, 14, none⟩ (.string n.cb)).setCell ⟨b, 15, none⟩ (.int .i64 n.unt)).setCell ⟨b, 16, none⟩ (.int .i64 n.acked)).setCell ⟨b, 17, none⟩ (.int .i64 n.told)).setCell ⟨b, 18, none⟩ (.int .i64 n.at_)).setCell ⟨b, 19, none⟩ (.int .i64 n.ver))).cell? ⟨g, 32, none⟩ = some (.int .i64 q.now) ∧ (((((((((w7.setCell ⟨b, 12, none⟩ (.int .u32 (n.addr : Int))).setCell ⟨b, 13, none⟩ (.int .i64 n.bind)).setCell ⟨b, 14, none⟩ (.string n.cb)).setCell ⟨b, 15, none⟩ (.int .i64 n.unt)).setCell ⟨b, 16, none⟩ (.int .i64 n.acked)).setCell ⟨b, 17, none⟩ (.int .i64 n.told)).setCell ⟨b, 18, none⟩ (.int .i64 n.at_)).setCell ⟨b, 19, none⟩ (.int .i64 n.ver))).cell? ⟨w.heap.size, 0, none⟩ = some (.int .u32 (m.addr : Int)) ∧ (((((((((w7.setCell ⟨b, 12, none⟩ (.int .u32 (n.addr : Int))).setCell ⟨b, 13, none⟩ (.int .i64 n.bind)).setCell ⟨b, 14, none⟩ (.string n.cb)).setCell ⟨b, 15, none⟩ (.int .i64 n.unt)).setCell ⟨b, 16, none⟩ (.int .i64 n.acked)).setCell ⟨b, 17, none⟩ (.int .i64 n.told)).setCell ⟨b, 18, none⟩ (.int .i64 n.at_)).setCell ⟨b, 19, none⟩ (.int .i64 n.ver))).cell? ⟨w.heap.size, 1, none⟩ = some (.int .i64 m.bind) ∧ (((((((((w7.setCell ⟨b, 12, none⟩ (.int .u32 (n.addr : Int))).setCell ⟨b, 13, none⟩ (.int .i64 n.bind)).setCell ⟨b, 14, none⟩ (.string n.cb)).setCell ⟨b, 15, none⟩ (.int .i64 n.unt)).setCell ⟨b, 16, none⟩ (.int .i64 n.acked)).setCell ⟨b, 17, none⟩ (.int .i64 n.told)).setCell ⟨b, 18, none⟩ (.int .i64 n.at_)).setCell ⟨b, 19, none⟩ (.int .i64 n.ver))).cell? ⟨w.heap.size, 2, none⟩ = some (.string m.cb) ∧ (((((((((w7.setCell ⟨b, 12, none⟩ (.int .u32 (n.addr : Int))).setCell ⟨b, 13, none⟩ (.int .i64 n.bind)).setCell ⟨b, 14, none⟩ (.string n.cb)).setCell ⟨b, 15, none⟩ (.int .i64 n.unt)).setCell ⟨b, 16, none⟩ (.int .i64 n.acked)).setCell ⟨b, 17, none⟩ (.int .i64 n.told)).setCell ⟨b, 18, none⟩ (.int .i64 n.at_)).setCell ⟨b, 19, none⟩ (.int .i64 n.ver))).cell? ⟨w.heap.size, 3, none⟩ = some (.int .i64 m.unt) ∧ (((((((((w7.setCell ⟨b, 12, none⟩ (.int .u32 (n.addr : Int))).setCell ⟨b, 13, none⟩ (.int .i64 n.bind)).setCell ⟨b, 14, none⟩ (.string n.cb)).setCell ⟨b, 15, none⟩ (.int .i64 n.unt)).setCell ⟨b, 16, none⟩ (.int .i64 n.acked)).setCell ⟨b, 17, none⟩ (.int .i64 n.told)).setCell ⟨b, 18, none⟩ (.int .i64 n.at_)).setCell ⟨b, 19, none⟩ (.int .i64 n.ver))).cell? ⟨w.heap.size, 4, none⟩ = some (.int .i64 m.acked) ∧ (((((((((w7.setCell ⟨b, 12, none⟩ (.int .u32 (n.addr : Int))).setCell ⟨b, 13, none⟩ (.int .i64 n.bind)).setCell ⟨b, 14, none⟩ (.string n.cb)).setCell ⟨b, 15, none⟩ (.int .i64 n.unt)).setCell ⟨b, 16, none⟩ (.int .i64 n.acked)).setCell ⟨b, 17, none⟩ (.int .i64 n.told)).setCell ⟨b, 18, none⟩ (.int .i64 n.at_)).setCell ⟨b, 19, none⟩ (.int .i64 n.ver))).cell? ⟨w.heap.size, 5, none⟩ = some (.int .i64 m.told) ∧ (((((((((w7.setCell ⟨b, 12, none⟩ (.int .u32 (n.addr : Int))).setCell ⟨b, 13, none⟩ (.int .i64 n.bind)).setCell ⟨b, 14, none⟩ (.string n.cb)).setCell ⟨b, 15, none⟩ (.int .i64 n.unt)).setCell ⟨b, 16, none⟩ (.int .i64 n.acked)).setCell ⟨b, 17, none⟩ (.int .i64 n.told)).setCell ⟨b, 18, none⟩ (.int .i64 n.at_)).setCell ⟨b, 19, none⟩ (.int .i64 n.ver))).cell? ⟨w.heap.size, 6, none⟩ = some (.int .i64 m.at_) ∧ (((((((((w7.setCell ⟨b, 12, none⟩ (.int .u32 (n.addr : Int))).setCell ⟨b, 13, none⟩ (.int .i64 n.bind)).setCell ⟨b, 14, none⟩ (.string n.cb)).setCell ⟨b, 15, none⟩ (.int .i64 n.unt)).setCell ⟨b, 16, none⟩ (.int .i64 n.acked)).setCell ⟨b, 17, none⟩ (.int .i64 n.told)).setCell ⟨b, 18, none⟩ (.int .i64 n.at_)).setCell ⟨b, 19, none⟩ (.int .i64 n.ver))).cell? ⟨w.heap.size, 7, none⟩ = some (.int .i64 m.ver) := by { have h := HC.out (storeAt w7 w4.heap.size n) (HR7.out.lease n).2; rw [← HBB.out] at h; exact h }; have LA := Lib.hid (HR7.out.lease n); have b12 := HR7.out.1.at_ 12; have f12 := HR7.out.1.free 12; rw [← HBB.out] at b12 f12; have b13 := HR7.out.1.at_ 13; have f13 := HR7.out.1.free 13; rw [← HBB.out] at b13 f13; have b14 := HR7.out.1.at_ 14; have f14 := HR7.out.1.free 14; rw [← HBB.out] at b14 f14; have b15 := HR7.out.1.at_ 15; have f15 := HR7.out.1.free 15; rw [← HBB.out] at b15 f15; have b16 := HR7.out.1.at_ 16; have f16 := HR7.out.1.free 16; rw [← HBB.out] at b16 f16; have b17 := HR7.out.1.at_ 17; have f17 := HR7.out.1.free 17; rw [← HBB.out] at b17 f17; have b18 := HR7.out.1.at_ 18; have f18 := HR7.out.1.free 18; rw [← HBB.out] at b18 f18; have b19 := HR7.out.1.at_ 19; have f19 := HR7.out.1.free 19; rw [← HBB.out] at b19 f19; clear hb7))
    all_goals
      go_wp2
      go_meet
      have h := LA.out
      rw [← HBB.out] at h
      exact h
  case rest =>
    have HR8 := Lib.hid hcut
    clear hcut HR5 HR6 HW5 HW6 HLE
    go_upto_region 4 with fail
    go_cut [] (fun wx => AnR w4 ⟨true, p, true, n, pt⟩ wx)
    case first =>
      have HD := Lib.hid (AnR.at_ HR8.out ((Below.refl _ wc).drew))
      have HC := Lib.hid (fun V x (h : AnR w4 ⟨true, p, true, n, x⟩ V) => (show (V).cell? ⟨g, 14, none⟩ = some (.int .i64 q.x.id) ∧ (V).cell? ⟨g, 15, none⟩ = some (.int .i64 q.x.lead) ∧ (V).cell? ⟨g, 16, none⟩ = some (.int .i64 q.x.guard) ∧ (V).cell? ⟨g, 29, none⟩ = some (.int .i64 q.want) ∧ (V).cell? ⟨g, 32, none⟩ = some (.int .i64 q.now) ∧ (V).cell? ⟨b, 12, none⟩ = some (.int .u32 (n.addr : Int)) ∧ (V).cell? ⟨b, 13, none⟩ = some (.int .i64 n.bind) ∧ (V).cell? ⟨b, 14, none⟩ = some (.string n.cb) ∧ (V).cell? ⟨b, 15, none⟩ = some (.int .i64 n.unt) ∧ (V).cell? ⟨b, 16, none⟩ = some (.int .i64 n.acked) ∧ (V).cell? ⟨b, 17, none⟩ = some (.int .i64 n.told) ∧ (V).cell? ⟨b, 18, none⟩ = some (.int .i64 n.at_) ∧ (V).cell? ⟨b, 19, none⟩ = some (.int .i64 n.ver) from by rw [HBB.out]; exact ⟨(HQ4.out.later h.2).c14, (HQ4.out.later h.2).c15, (HQ4.out.later h.2).c16, (HQ4.out.later h.2).c29, (HQ4.out.later h.2).c32, h.1.at_ 12, h.1.at_ 13, h.1.at_ 14, h.1.at_ 15, h.1.at_ 16, h.1.at_ 17, h.1.at_ 18, h.1.at_ 19⟩))
      obtain ⟨k0, k1, k2, k3, k4, k5, k6, k7, k8, k9, k10, k11, k12⟩ := HC.out wc.drew 0 HD.out
      go_region_held3 (fun w' => (w').cell? ⟨g, 14, none⟩ = some (.int .i64 q.x.id) ∧ (w').cell? ⟨g, 15, none⟩ = some (.int .i64 q.x.lead) ∧ (w').cell? ⟨g, 16, none⟩ = some (.int .i64 q.x.guard) ∧ (w').cell? ⟨g, 29, none⟩ = some (.int .i64 q.want) ∧ (w').cell? ⟨g, 32, none⟩ = some (.int .i64 q.now) ∧ (w').cell? ⟨b, 12, none⟩ = some (.int .u32 (n.addr : Int)) ∧ (w').cell? ⟨b, 13, none⟩ = some (.int .i64 n.bind) ∧ (w').cell? ⟨b, 14, none⟩ = some (.string n.cb) ∧ (w').cell? ⟨b, 15, none⟩ = some (.int .i64 n.unt) ∧ (w').cell? ⟨b, 16, none⟩ = some (.int .i64 n.acked) ∧ (w').cell? ⟨b, 17, none⟩ = some (.int .i64 n.told) ∧ (w').cell? ⟨b, 18, none⟩ = some (.int .i64 n.at_) ∧ (w').cell? ⟨b, 19, none⟩ = some (.int .i64 n.ver)) (first | (with_reducible exact rz) | go_keep) (first
        | (go_at_call 127; (with_reducible refine (HPO.out _).mono ?_); rintro e w7 ⟨rfl, hb7⟩; have HR7 := Lib.hid (AnR.at_ HD.out hb7); obtain ⟨j0, j1, j2, j3, j4, j5, j6, j7, j8, j9, j10, j11, j12⟩ := HC.out w7 0 HR7.out; have LA : Hid (AnR w4 ⟨true, p, true, n, pt⟩ (w7.setCell ⟨w4.heap.size, 20, none⟩ (.int .i64 pt))) := Lib.hid (HR7.out.put 20 _ _ rfl); have rz : (w7.setCell ⟨b, 20, none⟩ (.int .i64 pt)).cell? ⟨g, 14, none⟩ = some (.int .i64 q.x.id) ∧ (w7.setCell ⟨b, 20, none⟩ (.int .i64 pt)).cell? ⟨g, 15, none⟩ = some (.int .i64 q.x.lead) ∧ (w7.setCell ⟨b, 20, none⟩ (.int .i64 pt)).cell? ⟨g, 16, none⟩ = some (.int .i64 q.x.guard) ∧ (w7.setCell ⟨b, 20, none⟩ (.int .i64 pt)).cell? ⟨g, 29, none⟩ = some (.int .i64 q.want) ∧ (w7.setCell ⟨b, 20, none⟩ (.int .i64 pt)).cell? ⟨g, 32, none⟩ = some (.int .i64 q.now) ∧ (w7.setCell ⟨b, 20, none⟩ (.int .i64 pt)).cell? ⟨b, 12, none⟩ = some (.int .u32 (n.addr : Int)) ∧ (w7.setCell ⟨b, 20, none⟩ (.int .i64 pt)).cell? ⟨b, 13, none⟩ = some (.int .i64 n.bind) ∧ (w7.setCell ⟨b, 20, none⟩ (.int .i64 pt)).cell? ⟨b, 14, none⟩ = some (.string n.cb) ∧ (w7.setCell ⟨b, 20, none⟩ (.int .i64 pt)).cell? ⟨b, 15, none⟩ = some (.int .i64 n.unt) ∧ (w7.setCell ⟨b, 20, none⟩ (.int .i64 pt)).cell? ⟨b, 16, none⟩ = some (.int .i64 n.acked) ∧ (w7.setCell ⟨b, 20, none⟩ (.int .i64 pt)).cell? ⟨b, 17, none⟩ = some (.int .i64 n.told) ∧ (w7.setCell ⟨b, 20, none⟩ (.int .i64 pt)).cell? ⟨b, 18, none⟩ = some (.int .i64 n.at_) ∧ (w7.setCell ⟨b, 20, none⟩ (.int .i64 pt)).cell? ⟨b, 19, none⟩ = some (.int .i64 n.ver) := by { have h := HC.out _ pt LA.out; rw [← HBB.out] at h; exact h }; have b20 := HR7.out.1.at_ 20; have f20 := HR7.out.1.free 20; rw [← HBB.out] at b20 f20; clear hb7))
      all_goals
        go_wp2
        go_meet
        have h := LA.out
        rw [← HBB.out] at h
        exact h
    case rest =>
      have HR9 := Lib.hid hcut
      clear hcut HR8
      have HX9 : Hid (Bx wc b 44 (AnW.cells ⟨true, p, true, n, pt⟩)) := Lib.hid (by rw [HBB.out]; exact HR9.out.1)
      have HZ9 := Lib.hid (HZ4.out.below HR9.out.2 HZ4.out.lt)
      have HB9 := Lib.hid (HB4.out.trans (HR9.out.2.mono HB4.out.size))
      have HP9 := Lib.hid (HP4.out.later HR9.out.2)
      go_wp2_with (first
        | (refine wp_loadR rowA rfl _ rfl b rfl HX9.out rfl ?_)
        | (refine wp_storeR rowA rfl _ _ rfl (w.heap.size + 1) _ rfl rfl HZ9.out rfl rfl rfl ?_))
      exact ans_end (a := ⟨true, p, true, n, pt⟩) rfl rfl (HZ9.out.set _) (by rw [HXX.out]; show AnsV.mk _ p.abs _ _ _ = _; rw [HP.out]) ((HP9.out.set HZ9.out HLT.out (ansW_no8 zeroA) _).more (by have := HLT.out; omega)) (HB9.out.trans (below_setRow _ (w.heap.size + 1) _ (Nat.le_succ _)))
end Go.Proofs.YtmaohnbddlccdaaGreat
end

/- engine: gives, request. -/
section
namespace Go.Proofs.YtmaohnbddlccdaaGreat
open Go.RowKit Go.Sort

def givesQ (q : QV) (m : LV) : Bool := decide (1 ≤ longQ q m) && (theirsB m q.cl || mayQ q m)
def requestQ (q : QV) (L : List LV) : AnsV :=
  if toldE q.p.abs = true ∧ NO.numL (NO.fd q.p.abs 54) ≠ q.x.server then noA
  else match atE (givesQ q) L q.ad with
    | some m => boundQ q m
    | none => if (atE sharedB L q.ad).isSome = true ∧ toldE q.p.abs = false then noA else sentA (replyE q.x q.p.abs 6 [])

set_option maxRecDepth 100000 in
set_option maxHeartbeats 2000000 in
theorem qgives_any {g : Nat} {q : QV} (m : LV) {w : World} (hq : QM w g q) : Calls Tryz.prog 77 #[ptE g, m.v] w fun e w' => e = .returned (.bool (givesQ q m)) ∧ Below w.heap.size w w' := by
  obtain ⟨w0, hw0⟩ : ∃ w0, w0 = w.alloc (lbox m) := ⟨_, rfl⟩
  have HL : Hid (LBox w0 w.heap.size m) := Lib.hid (by rw [hw0]; exact LBox.new w m)
  have HQ : Hid (QM w0 g q) := Lib.hid (by rw [hw0]; exact hq.alloc _)
  have HB : Hid (Below w.heap.size w w0) := Lib.hid (by rw [hw0]; exact (Below.refl _ _).alloc (Nat.le_refl _) _)
  have HW0 := Lib.hid hw0
  have HLO := Lib.hid (fun V (h : QM V g q) => (show Calls Tryz.prog 73 #[ptE g, m.v] V fun e w' => e = .returned (.int .i64 (longQ q m)) ∧ Below V.heap.size V w' from qlong_any m h))
  have HH := Lib.hid (fun V (h : QM V g q) => qhas_any m h)
  have HM := Lib.hid (fun V (h : QM V g q) => (show Calls Tryz.prog 119 #[ptE g, m.v] V fun e w' => e = .returned (.bool (mayQ q m)) ∧ Below V.heap.size V w' from qmay_any m h))
  unfold givesQ
  generalize longQ q m = n at *
  generalize theirsB m q.cl = b1 at *
  generalize mayQ q m = b2 at *
  clear hw0 hq
  obtain ⟨l0, l1, l2, l3, l4, l5, l6, l7⟩ := HL.out.all
  by_cases hn : 1 ≤ n
  · rw [decide_eq_true hn]
    cases b1
    · go_enter Tryz.func77, Tryz.ntmps77
      go_upto_region 1 with fail
      rw [← HW0.out]
      go_wp2_with fail
      refine (HLO.out _ HQ.out).mono ?_
      rintro e w1 ⟨rfl, hb1⟩
      have HQ1 := Lib.hid (HQ.out.later hb1)
      have HL1 := Lib.hid (HL.out.later hb1)
      have HB1 := Lib.hid (HB.out.trans (hb1.mono HB.out.size))
      clear hb1 l0 l1 l2 l3 l4 l5 l6 l7
      obtain ⟨l0, l1, l2, l3, l4, l5, l6, l7⟩ := HL1.out.all
      go_wp2_with fail
      refine (HH.out _ HQ1.out).mono ?_
      rintro e w2 ⟨rfl, hb2⟩
      have HQ2 := Lib.hid (HQ1.out.later hb2)
      have HL2 := Lib.hid (HL1.out.later hb2)
      have HB2 := Lib.hid (HB1.out.trans (hb2.mono HB1.out.size))
      clear hb2 l0 l1 l2 l3 l4 l5 l6 l7
      obtain ⟨l0, l1, l2, l3, l4, l5, l6, l7⟩ := HL2.out.all
      go_wp2_with fail
      refine (HM.out _ HQ2.out).mono ?_
      rintro e w3 ⟨rfl, hb3⟩
      have HB3 := Lib.hid (HB2.out.trans (hb3.mono HB2.out.size))
      clear hb3 l0 l1 l2 l3 l4 l5 l6 l7
      go_wp2
      go_ret
      exact ⟨rfl, HB3.out⟩
    · go_enter Tryz.func77, Tryz.ntmps77
      go_upto_region 1 with fail
      rw [← HW0.out]
      go_wp2_with fail
      refine (HLO.out _ HQ.out).mono ?_
      rintro e w1 ⟨rfl, hb1⟩
      have HQ1 := Lib.hid (HQ.out.later hb1)
      have HL1 := Lib.hid (HL.out.later hb1)
      have HB1 := Lib.hid (HB.out.trans (hb1.mono HB.out.size))
      clear hb1 l0 l1 l2 l3 l4 l5 l6 l7
      obtain ⟨l0, l1, l2, l3, l4, l5, l6, l7⟩ := HL1.out.all
      go_wp2_with fail
      refine (HH.out _ HQ1.out).mono ?_
      rintro e w2 ⟨rfl, hb2⟩
      have HB2 := Lib.hid (HB1.out.trans (hb2.mono HB1.out.size))
      clear hb2 l0 l1 l2 l3 l4 l5 l6 l7
      go_wp2
      go_ret
      exact ⟨rfl, HB2.out⟩
  · rw [decide_eq_false hn]
    go_enter Tryz.func77, Tryz.ntmps77
    go_upto_region 1 with fail
    rw [← HW0.out]
    go_wp2_with fail
    refine (HLO.out _ HQ.out).mono ?_
    rintro e w1 ⟨rfl, hb1⟩
    have HB1 := Lib.hid (HB.out.trans (hb1.mono HB.out.size))
    clear hb1 l0 l1 l2 l3 l4 l5 l6 l7
    go_wp2
    go_ret
    exact ⟨rfl, HB1.out⟩

set_option maxRecDepth 100000 in
set_option maxHeartbeats 4000000 in
theorem request_any {T : World → (Nat → Prop) → Nat → List LV → Prop} (K : TabK T) {w : World} {P : Nat → Prop} {g gt : Nat} {q : QV} {L : List LV} (h : QT T w P g gt q L) (ho : QOk q) :
    Calls Tryz.prog 34 #[ptE g] w (GivesA w (requestQ q L)) := by
  obtain ⟨w0, hw0⟩ : ∃ w0, w0 = w.alloc (.cells zeroA.cells 44) := ⟨_, rfl⟩
  have hB : Below w.heap.size w w0 := by rw [hw0]; exact (Below.refl _ _).alloc (Nat.le_refl _) _
  have hZ : Bx w0 w.heap.size 44 zeroA.cells := by rw [hw0]; exact Bx.new _ _ _
  have HQ := Lib.hid (h.later K hB)
  have HB := Lib.hid hB
  have HZ := Lib.hid hZ
  have HK := Lib.hid K
  have HO := Lib.hid ho
  have HW0 : Hid (w0 = w.alloc (.cells #[.bool false, .int .i64 0, .int .u32 0, .int .i64 0, .int .i64 0, .int .u32 0, .int .u32 0, .int .u32 0, .int .u32 0, .slice none 0 0, .slice none 0 0, .bool false, .int .u32 0, .int .i64 0, .string ⟨#[]⟩, .int .i64 0, .int .i64 0, .int .i64 0, .int .i64 0, .int .i64 0, .int .i64 0] 44)) := Lib.hid hw0
  have HSV := Lib.hid (server_any HQ.out.m HO.out.len HO.out.dat)
  have HA1 := Lib.hid (fun V (hV : QT T V P g gt q L) => qat_any K hV q.ad HO.out.ad (f := 77) (pre := #[ptE g]) (p := givesQ q) (fun _ _ => rfl) (fun m W hW => qgives_any m hW.m))
  have HA2 := Lib.hid (fun V (hV : QT T V P g gt q L) => qat_any K hV q.ad HO.out.ad (f := 79) (pre := #[]) (p := sharedB) (fun _ _ => rfl) (fun m W _ => shared_any m W))
  obtain ⟨X, hX⟩ : ∃ X, X = requestQ q L := ⟨_, rfl⟩
  rw [← hX]
  unfold requestQ at hX
  have HXX := Lib.hid hX
  clear hw0 hB hZ h K ho hX
  generalize toldE q.p.abs = told at *
  generalize NO.numL (NO.fd q.p.abs 54) = srv at *
  obtain ⟨sv, hsv⟩ : ∃ sv, sv = (if told = true then (srv : Int) else 0) := ⟨_, rfl⟩
  rw [← hsv] at HSV
  have HSE := Lib.hid hsv
  clear hsv
  generalize atE (givesQ q) L q.ad = r at *
  generalize atE sharedB L q.ad = r2 at *
  go_enter Tryz.func34, Tryz.ntmps34
  go_upto_region 1 with fail
  rw [← HW0.out]
  go_wp2_with fail
  refine HSV.out.mono ?_
  rintro e w1 ⟨rfl, hb1⟩
  have HQ1 := Lib.hid (HQ.out.later HK.out hb1)
  have HZ1 := Lib.hid (HZ.out.later hb1)
  have HB1 := Lib.hid (HB.out.trans (hb1.mono HB.out.size))
  clear hb1 HQ HZ HB HW0
  have c3 := HQ1.out.m.c3
  have c28 := HQ1.out.m.c28
  go_upto_region 2 with fail
  go_cut [4, 23] (fun s4 s23 wx => s4 = .bool told ∧ s23 = .bool (told && decide (srv ≠ q.x.server)) ∧ wx = w1)
  case first =>
    cases told
    · go_wp2
      go_meet
      exact ⟨rfl, rfl, rfl⟩
    · have e := HSE.out
      rw [if_pos rfl] at e
      subst e
      by_cases hs : srv = q.x.server
      · have t1 : ((srv : Int) != (q.x.server : Int)) = false := by simp [hs]
        have HSS := Lib.hid hs
        clear hs
        go_wp2
        go_meet
        refine ⟨rfl, ?_, rfl⟩
        simp [HSS.out]
      · have t1 : ((srv : Int) != (q.x.server : Int)) = true := by simp; omega
        have HSS := Lib.hid hs
        clear hs
        go_wp2
        go_meet
        refine ⟨rfl, ?_, rfl⟩
        simp [HSS.out]
  case rest =>
    obtain ⟨rfl, rfl, hw⟩ := hcut
    have hbad : (told && decide (srv ≠ q.x.server)) = decide (told = true ∧ srv ≠ q.x.server) := by cases told <;> simp
    rw [hbad]
    rw [hw]
    clear hw hbad
    by_cases hb : told = true ∧ srv ≠ q.x.server
    · rw [if_pos hb] at HXX
      rw [decide_eq_true hb]
      clear hb c3 c28
      go_wp2_with (first | (refine wp_storeR rowA rfl _ _ rfl w.heap.size _ rfl rfl HZ1.out rfl rfl rfl ?_))
      exact ans_end (a := zeroA) rfl rfl (HZ1.out.set zeroA.cells) (by rw [HXX.out]; rfl) (zeroP_pks _ _) (HB1.out.trans (below_setRow _ w.heap.size zeroA.cells (Nat.le_refl _)))
    · rw [if_neg hb] at HXX
      rw [decide_eq_false hb]
      clear hb c3
      have HA1' := Lib.hid (HA1.out _ HQ1.out)
      cases r with
      | some m =>
        have HXS : Hid (X = boundQ q m) := Lib.hid HXX.out
        have HBO := Lib.hid (fun V (h : QM V g q) => bound_any h HO.out m)
        clear HXX HA1 HA2
        go_wp2_with fail
        refine HA1'.out.mono ?_
        rintro e w2 ⟨rfl, hb2⟩
        have HZ2 := Lib.hid ((HZ1.out.later hb2).alloc (lbox m))
        have h2 := HB1.out.trans (hb2.mono HB1.out.size)
        have HB2 := Lib.hid (h2.alloc h2.size (lbox m))
        have HQ2 := Lib.hid ((HQ1.out.later HK.out hb2).alloc HK.out (lbox m))
        have HX2 := Lib.hid (LBox.new w2 m)
        clear hb2 h2 c28
        obtain ⟨x0, x1, x2, x3, x4, x5, x6, x7⟩ := HX2.out.all
        go_wp2_with fail
        refine (HBO.out _ HQ2.out.m).mono ?_
        rintro e w3 ⟨a, rfl, HAB, hps, hb3⟩
        have HLT : Hid (w.heap.size < (w2.alloc (lbox m)).heap.size) := Lib.hid HZ2.out.lt
        have HZ3 := Lib.hid (HZ2.out.later hb3)
        have HB3 := Lib.hid (HB2.out.trans (hb3.mono HB2.out.size))
        have HP3 := Lib.hid hps
        clear hps hb3 x0 x1 x2 x3 x4 x5 x6 x7
        go_wp2_with (first | (refine wp_storeR rowA rfl _ _ rfl w.heap.size _ rfl rfl HZ3.out rfl rfl rfl ?_))
        exact ans_end (a := a) rfl rfl (HZ3.out.set _) (by rw [HXS.out]; exact HAB.out) ((HP3.out.set HZ3.out HLT.out (ansW_no8 zeroA) _).more (Nat.le_of_lt HLT.out)) (HB3.out.trans (below_setRow _ w.heap.size _ (Nat.le_refl _)))
      | none =>
        have HXN : Hid (X = if r2.isSome = true ∧ told = false then noA else sentA (replyE q.x q.p.abs 6 [])) := Lib.hid HXX.out
        clear HXX HA1
        go_wp2_with fail
        refine HA1'.out.mono ?_
        rintro e w2 ⟨rfl, hb2⟩
        have HZ2 := Lib.hid ((HZ1.out.later hb2).alloc (lbox zeroL))
        have h2 := HB1.out.trans (hb2.mono HB1.out.size)
        have HB2 := Lib.hid (h2.alloc h2.size (lbox zeroL))
        have HQ2 := Lib.hid ((HQ1.out.later HK.out hb2).alloc HK.out (lbox zeroL))
        clear hb2 h2 c28
        have c28 := HQ2.out.m.c28
        go_wp2_with fail
        refine (HA2.out _ HQ2.out).mono ?_
        rintro e w3 ⟨rfl, hb3⟩
        have HZ3 := Lib.hid ((HZ2.out.later hb3).alloc (lbox (r2.getD zeroL)))
        have h3 := HB2.out.trans (hb3.mono HB2.out.size)
        have HB3 := Lib.hid (h3.alloc h3.size (lbox (r2.getD zeroL)))
        have HQ3 := Lib.hid ((HQ2.out.later HK.out hb3).alloc HK.out (lbox (r2.getD zeroL)))
        clear hb3 h3 c28 HA2 HA1'
        generalize r2.getD zeroL = m3 at *
        generalize r2.isSome = is at *
        by_cases hc : is = true ∧ told = false
        · rw [if_pos hc] at HXN
          obtain ⟨rfl, rfl⟩ := hc
          go_wp2_with (first | (refine wp_storeR rowA rfl _ _ rfl w.heap.size _ rfl rfl HZ3.out rfl rfl rfl ?_))
          exact ans_end (a := zeroA) rfl rfl (HZ3.out.set zeroA.cells) (by rw [HXN.out]; rfl) (zeroP_pks _ _) (HB3.out.trans (below_setRow _ w.heap.size zeroA.cells (Nat.le_refl _)))
        · rw [if_neg hc] at HXN
          have HRP := Lib.hid (fun V (h : QM V g q) => (show Calls Tryz.prog 38 #[ptE g, .int .i64 6, .slice none 0 0] V (GivesP V (replyE q.x q.p.abs 6 [])) from reply_any (M := []) (A := none) (c := 0) h 6 NO.Op.nil (by simp) HO.out.hw HO.out.sv))
          generalize replyE q.x q.p.abs 6 [] = Y at *
          have hcc : is = false ∨ told = true := by cases is <;> cases told <;> simp_all
          clear hc
          rcases hcc with rfl | rfl
          · go_wp2_with fail
            refine (HRP.out _ HQ3.out.m).mono ?_
            rintro e w4 ⟨p, rfl, HP, hps, hb4⟩
            have HS := Lib.hid (sent_any p w4)
            have HPS := Lib.hid hps
            have HB4 := Lib.hid hb4
            clear hps hb4
            go_wp2_with fail
            refine HS.out.mono ?_
            rintro e w5 ⟨rfl, hb5⟩
            have HLT : Hid (w.heap.size < (w3.alloc (lbox m3)).heap.size) := Lib.hid HZ3.out.lt
            have HZ5 := Lib.hid ((HZ3.out.later HB4.out).later hb5)
            have HB5 := Lib.hid (HB3.out.trans ((HB4.out.trans (hb5.mono HB4.out.size)).mono HB3.out.size))
            have HP5 := Lib.hid (HPS.out.later hb5)
            clear hb5
            go_wp2_with (first | (refine wp_storeR rowA rfl _ _ rfl w.heap.size _ rfl rfl HZ5.out rfl rfl rfl ?_))
            exact ans_end (a := ⟨true, p, false, zeroL, 0⟩) rfl rfl (HZ5.out.set _) (by rw [HXN.out]; show AnsV.mk _ p.abs _ _ _ = _; rw [HP.out]; rfl) ((HP5.out.set HZ5.out HLT.out (ansW_no8 zeroA) _).more (Nat.le_of_lt HLT.out)) (HB5.out.trans (below_setRow _ w.heap.size _ (Nat.le_refl _)))
          · cases is
            all_goals
              go_wp2_with fail
              refine (HRP.out _ HQ3.out.m).mono ?_
              rintro e w4 ⟨p, rfl, HP, hps, hb4⟩
              have HS := Lib.hid (sent_any p w4)
              have HPS := Lib.hid hps
              have HB4 := Lib.hid hb4
              clear hps hb4
              go_wp2_with fail
              refine HS.out.mono ?_
              rintro e w5 ⟨rfl, hb5⟩
              have HLT : Hid (w.heap.size < (w3.alloc (lbox m3)).heap.size) := Lib.hid HZ3.out.lt
              have HZ5 := Lib.hid ((HZ3.out.later HB4.out).later hb5)
              have HB5 := Lib.hid (HB3.out.trans ((HB4.out.trans (hb5.mono HB4.out.size)).mono HB3.out.size))
              have HP5 := Lib.hid (HPS.out.later hb5)
              clear hb5
              go_wp2_with (first | (refine wp_storeR rowA rfl _ _ rfl w.heap.size _ rfl rfl HZ5.out rfl rfl rfl ?_))
              exact ans_end (a := ⟨true, p, false, zeroL, 0⟩) rfl rfl (HZ5.out.set _) (by rw [HXN.out]; show AnsV.mk _ p.abs _ _ _ = _; rw [HP.out]; rfl) ((HP5.out.set HZ5.out HLT.out (ansW_no8 zeroA) _).more (Nat.le_of_lt HLT.out)) (HB5.out.trans (below_setRow _ w.heap.size _ (Nat.le_refl _)))
end Go.Proofs.YtmaohnbddlccdaaGreat
end
