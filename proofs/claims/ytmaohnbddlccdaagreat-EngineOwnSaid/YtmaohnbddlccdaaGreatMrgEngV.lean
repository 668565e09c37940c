/- engine: bound. (Written by wip/tools/genengv.py.) -/
import Derived.Test.YtmaohnbddlccdaaGreatMrgEngS
namespace Go.Proofs.YtmaohnbddlccdaaGreat
open Go.RowKit Go.Sort

/-- A lease is laid into an answer, cell by cell. -/
def storeAt (W : World) (b : Nat) (l : LV) : World :=
  (((((((W.setCell ⟨b, 12, none⟩ (.int .u32 (l.addr : Int))).setCell ⟨b, 13, none⟩ (.int .i64 l.bind)).setCell ⟨b, 14, none⟩ (.string l.cb)).setCell ⟨b, 15, none⟩ (.int .i64 l.unt)).setCell ⟨b, 16, none⟩ (.int .i64 l.acked)).setCell ⟨b, 17, none⟩ (.int .i64 l.told)).setCell ⟨b, 18, none⟩ (.int .i64 l.at_)).setCell ⟨b, 19, none⟩ (.int .i64 l.ver)
theorem storeAt_row {W : World} {b : Nat} {t : TypeId} {a : AnW} (h : Bx W b t a.cells) (l : LV) : storeAt W b l = W.setRow b (AnW.cells { a with l := l }) := by
  unfold storeAt
  rw [cell_row h, row_cell h, row_cell h, row_cell h, row_cell h, row_cell h, row_cell h, row_cell h]
  simp only [List.setIfInBounds_toArray, List.set_cons_zero, List.set_cons_succ]
/-- What stands of an answer in the making: it lies in the block that was made behind w4. -/
def AnR (w4 : World) (a : AnW) (wx : World) : Prop := Bx wx w4.heap.size 44 a.cells ∧ Below w4.heap.size w4 wx
theorem AnR.at_ {w4 wx : World} {a : AnW} (h : AnR w4 a wx) {W : World} (hb : Below wx.heap.size wx W) : AnR w4 a W := ⟨h.1.later hb, h.2.trans (hb.mono h.2.size)⟩
theorem AnR.lease {w4 wx : World} {a : AnW} (h : AnR w4 a wx) (l : LV) : AnR w4 { a with l := l } (storeAt wx w4.heap.size l) := by
  rw [storeAt_row h.1]
  exact ⟨h.1.set _, h.2.trans (below_setRow _ _ _ (Nat.le_refl _))⟩
theorem AnR.put {w4 wx : World} {a : AnW} (h : AnR w4 a wx) (i : Nat) (u : Value) (a' : AnW) (he : a.cells.setIfInBounds i u = a'.cells) : AnR w4 a' (wx.setCell ⟨w4.heap.size, i, none⟩ u) :=
  ⟨he ▸ h.1.store i u, h.2.setCell (p := ⟨w4.heap.size, i, none⟩) (Nat.le_refl _) u⟩

/-- What comes of a promise that is kept. -/
def boundQ (q : QV) (m : LV) : AnsV :=
  ⟨true, promE q.x q.p.abs 5 m.addr (longQ q m), true, NC.lsV q.x.lead m ⟨q.cl.toArray⟩ q.now q.want, NC.potV (NC.lsV q.x.lead m ⟨q.cl.toArray⟩ q.now q.want) q.now q.want⟩

set_option maxRecDepth 100000 in
set_option maxHeartbeats 4000000 in
theorem bound_any {w : World} {g : Nat} {q : QV} (hq : QM w g q) (ho : QOk q) (m : LV) :
    Calls Tryz.prog 78 #[ptE g, m.v] w (GivesA w (boundQ q m)) := by
  obtain ⟨w0, hw0⟩ : ∃ w0, w0 = (w.alloc (lbox m)).alloc (.cells zeroA.cells 44) := ⟨_, rfl⟩
  have hs : (w.alloc (lbox m)).heap.size = w.heap.size + 1 := by simp
  have hB : Below w.heap.size w w0 := by rw [hw0]; exact ((Below.refl _ _).alloc (Nat.le_refl _) _).alloc (by simp) _
  have hZ : Bx w0 (w.heap.size + 1) 44 zeroA.cells := by rw [hw0, ← hs]; exact Bx.new _ _ _
  have HL : Hid (LBox w0 w.heap.size m) := Lib.hid (by rw [hw0]; exact (LBox.new w m).alloc _)
  have HQ := Lib.hid (hq.later hB)
  have HB := Lib.hid hB
  have HZ := Lib.hid hZ
  have HW0 : Hid (w0 = (w.alloc (lbox m)).alloc (.cells #[.bool false, .int .i64 0, .int .u32 0, .int .i64 0, .int .i64 0, .int .u32 0, .int .u32 0, .int .u32 0, .int .u32 0, .slice none 0 0, .slice none 0 0, .bool false, .int .u32 0, .int .i64 0, .string ⟨#[]⟩, .int .i64 0, .int .i64 0, .int .i64 0, .int .i64 0, .int .i64 0, .int .i64 0] 44)) := Lib.hid hw0
  have HPR := Lib.hid (fun V (h : QM V g q) => (show Calls Tryz.prog 74 #[ptE g, .int .i64 5, m.v] V (GivesP V (promE q.x q.p.abs 5 m.addr (longQ q m))) from promise_any h 5 m ho.hw ho.sv))
  have HLE := Lib.hid (fun V => NC.lease_any q.x.id q.x.lead q.x.guard q.now q.want m ⟨q.cl.toArray⟩ V)
  obtain ⟨X, hX⟩ : ∃ X, X = boundQ q m := ⟨_, rfl⟩
  rw [← hX]
  unfold boundQ at hX
  have HXX := Lib.hid hX
  generalize NC.lsV q.x.lead m ⟨q.cl.toArray⟩ q.now q.want = n at *
  have HPO := Lib.hid (fun V => NC.pot_any q.x.id q.x.lead q.x.guard q.now q.want n V)
  generalize NC.potV n q.now q.want = pt at *
  obtain ⟨l0, l1, l2, l3, l4, l5, l6, l7⟩ := HL.out.all
  clear hw0 hB hZ hq hs hX ho
  go_enter Tryz.func78, Tryz.ntmps78
  go_upto_region 1 with fail
  rw [← HW0.out]
  go_wp2_with fail
  refine (HPR.out _ HQ.out).mono ?_
  rintro e w3 ⟨p, rfl, HP, hps, hb3⟩
  have HS := Lib.hid (sent_any p w3)
  have HPS := Lib.hid hps
  have HB3 := Lib.hid hb3
  clear hps hb3 l0 l1 l2 l3 l4 l5 l6 l7
  go_wp2_with fail
  refine HS.out.mono ?_
  rintro e w4 ⟨rfl, hb4⟩
  have hb04 := HB3.out.trans (hb4.mono HB3.out.size)
  have HQ4 := Lib.hid (HQ.out.later hb04)
  have HZ4 := Lib.hid (HZ.out.later hb04)
  have HL4 := Lib.hid (HL.out.later hb04)
  have HB4 := Lib.hid (HB.out.trans (hb04.mono HB.out.size))
  have HP4 := Lib.hid (HPS.out.later hb4)
  have HLT : Hid (w.heap.size + 1 < w0.heap.size) := Lib.hid HZ.out.lt
  obtain ⟨b, hbb⟩ : ∃ b, b = w4.heap.size := ⟨_, rfl⟩
  obtain ⟨w5, hw5⟩ : ∃ w5, w5 = w4.alloc (.cells (AnW.cells ⟨true, p, false, zeroL, 0⟩) 44) := ⟨_, rfl⟩
  have HR5 : Hid (AnR w4 ⟨true, p, false, zeroL, 0⟩ w5) := Lib.hid (by rw [hw5]; exact ⟨Bx.new _ _ _, (Below.refl _ _).alloc (Nat.le_refl _) _⟩)
  have HW5 : Hid (w5 = w4.alloc (.cells (AnW.cells ⟨true, p, false, zeroL, 0⟩) 44)) := Lib.hid hw5
  have HBB := Lib.hid hbb
  clear hb4 hb04 hw5 hbb
  go_upto_region 2 with (first | (refine wp_storeL rowA rfl _ _ rfl _ _ _ rfl rfl rfl rfl rfl rfl ?_))
  go_simp
  rw [← HW5.out, ← HBB.out]
  have b11 : w5.cell? ⟨b, 11, none⟩ = some (.bool false) := by rw [HBB.out]; exact HR5.out.1.at_ 11
  have f11 : w5.frozen? ⟨b, 11, none⟩ = false := by rw [HBB.out]; exact HR5.out.1.free 11
  obtain ⟨w6, hw6⟩ : ∃ w6, w6 = w5.setCell ⟨b, 11, none⟩ (.bool true) := ⟨_, rfl⟩
  have HR6 : Hid (AnR w4 ⟨true, p, true, zeroL, 0⟩ w6) := Lib.hid (by rw [hw6, HBB.out]; exact HR5.out.put 11 _ _ rfl)
  have HW6 := Lib.hid hw6
  clear hw6
  go_upto_region 3 with fail
  rw [← HW6.out]
  clear b11 f11
  have HGB : Hid (g < w4.heap.size ∧ w.heap.size < w4.heap.size) := Lib.hid ⟨HQ4.out.lt, HL4.out.lt⟩
  go_cut [] (fun wx => AnR w4 ⟨true, p, true, n, 0⟩ wx)
  case first =>
    have HD := Lib.hid (AnR.at_ HR6.out ((Below.refl _ w6).drew))
    have HC := Lib.hid (fun V (hb : Below w4.heap.size w4 V) => (show (V).cell? ⟨g, 14, none⟩ = some (.int .i64 q.x.id) ∧ (V).cell? ⟨g, 15, none⟩ = some (.int .i64 q.x.lead) ∧ (V).cell? ⟨g, 16, none⟩ = some (.int .i64 q.x.guard) ∧ (V).cell? ⟨g, 27, none⟩ = some (.string ⟨q.cl.toArray⟩) ∧ (V).cell? ⟨g, 29, none⟩ = some (.int .i64 q.want) ∧ (V).cell? ⟨g, 32, none⟩ = some (.int .i64 q.now) ∧ (V).cell? ⟨w.heap.size, 0, none⟩ = some (.int .u32 (m.addr : Int)) ∧ (V).cell? ⟨w.heap.size, 1, none⟩ = some (.int .i64 m.bind) ∧ (V).cell? ⟨w.heap.size, 2, none⟩ = some (.string m.cb) ∧ (V).cell? ⟨w.heap.size, 3, none⟩ = some (.int .i64 m.unt) ∧ (V).cell? ⟨w.heap.size, 4, none⟩ = some (.int .i64 m.acked) ∧ (V).cell? ⟨w.heap.size, 5, none⟩ = some (.int .i64 m.told) ∧ (V).cell? ⟨w.heap.size, 6, none⟩ = some (.int .i64 m.at_) ∧ (V).cell? ⟨w.heap.size, 7, none⟩ = some (.int .i64 m.ver) from ⟨(HQ4.out.later hb).c14, (HQ4.out.later hb).c15, (HQ4.out.later hb).c16, (HQ4.out.later hb).c27, (HQ4.out.later hb).c29, (HQ4.out.later hb).c32, (HL4.out.later hb).c0, (HL4.out.later hb).c1, (HL4.out.later hb).c2, (HL4.out.later hb).c3, (HL4.out.later hb).c4, (HL4.out.later hb).c5, (HL4.out.later hb).c6, (HL4.out.later hb).c7⟩))
    obtain ⟨k0, k1, k2, k3, k4, k5, k6, k7, k8, k9, k10, k11, k12, k13⟩ := HC.out w6.drew HD.out.2
    clear HQ HL HB HZ HPR HS HPS HB3 HW0
    go_region_held3 (fun w' => (w').cell? ⟨g, 14, none⟩ = some (.int .i64 q.x.id) ∧ (w').cell? ⟨g, 15, none⟩ = some (.int .i64 q.x.lead) ∧ (w').cell? ⟨g, 16, none⟩ = some (.int .i64 q.x.guard) ∧ (w').cell? ⟨g, 27, none⟩ = some (.string ⟨q.cl.toArray⟩) ∧ (w').cell? ⟨g, 29, none⟩ = some (.int .i64 q.want) ∧ (w').cell? ⟨g, 32, none⟩ = some (.int .i64 q.now) ∧ (w').cell? ⟨w.heap.size, 0, none⟩ = some (.int .u32 (m.addr : Int)) ∧ (w').cell? ⟨w.heap.size, 1, none⟩ = some (.int .i64 m.bind) ∧ (w').cell? ⟨w.heap.size, 2, none⟩ = some (.string m.cb) ∧ (w').cell? ⟨w.heap.size, 3, none⟩ = some (.int .i64 m.unt) ∧ (w').cell? ⟨w.heap.size, 4, none⟩ = some (.int .i64 m.acked) ∧ (w').cell? ⟨w.heap.size, 5, none⟩ = some (.int .i64 m.told) ∧ (w').cell? ⟨w.heap.size, 6, none⟩ = some (.int .i64 m.at_) ∧ (w').cell? ⟨w.heap.size, 7, none⟩ = some (.int .i64 m.ver)) (first | (with_reducible exact rz) | go_keep) (first
      | (go_at_call 126; (with_reducible refine (HLE.out _).mono ?_); rintro e w7 ⟨rfl, hb7⟩; have HR7 := Lib.hid (AnR.at_ HD.out hb7); obtain ⟨j0, j1, j2, j3, j4, j5, j6, j7, j8, j9, j10, j11, j12, j13⟩ := HC.out w7 HR7.out.2; have rz : (((((((((w7.setCell ⟨b, 12, none⟩ (.int .u32 (n.addr : Int))).setCell ⟨b, 13, none⟩ (.int .i64 n.bind)).setCell ⟨b, 14, none⟩ (.string n.cb)).setCell ⟨b, 15, none⟩ (.int .i64 n.unt)).setCell ⟨b, 16, none⟩ (.int .i64 n.acked)).setCell ⟨b, 17, none⟩ (.int .i64 n.told)).setCell ⟨b, 18, none⟩ (.int .i64 n.at_)).setCell ⟨b, 19, none⟩ (.int .i64 n.ver))).cell? ⟨g, 14, none⟩ = some (.int .i64 q.x.id) ∧ (((((((((w7.setCell ⟨b, 12, none⟩ (.int .u32 (n.addr : Int))).setCell ⟨b, 13, none⟩ (.int .i64 n.bind)).setCell ⟨b, 14, none⟩ (.string n.cb)).setCell ⟨b, 15, none⟩ (.int .i64 n.unt)).setCell ⟨b, 16, none⟩ (.int .i64 n.acked)).setCell ⟨b, 17, none⟩ (.int .i64 n.told)).setCell ⟨b, 18, none⟩ (.int .i64 n.at_)).setCell ⟨b, 19, none⟩ (.int .i64 n.ver))).cell? ⟨g, 15, none⟩ = some (.int .i64 q.x.lead) ∧ (((((((((w7.setCell ⟨b, 12, none⟩ (.int .u32 (n.addr : Int))).setCell ⟨b, 13, none⟩ (.int .i64 n.bind)).setCell ⟨b, 14, none⟩ (.string n.cb)).setCell ⟨b, 15, none⟩ (.int .i64 n.unt)).setCell ⟨b, 16, none⟩ (.int .i64 n.acked)).setCell ⟨b, 17, none⟩ (.int .i64 n.told)).setCell ⟨b, 18, none⟩ (.int .i64 n.at_)).setCell ⟨b, 19, none⟩ (.int .i64 n.ver))).cell? ⟨g, 16, none⟩ = some (.int .i64 q.x.guard) ∧ (((((((((w7.setCell ⟨b, 12, none⟩ (.int .u32 (n.addr : Int))).setCell ⟨b, 13, none⟩ (.int .i64 n.bind)).setCell ⟨b, 14, none⟩ (.string n.cb)).setCell ⟨b, 15, none⟩ (.int .i64 n.unt)).setCell ⟨b, 16, none⟩ (.int .i64 n.acked)).setCell ⟨b, 17, none⟩ (.int .i64 n.told)).setCell ⟨b, 18, none⟩ (.int .i64 n.at_)).setCell ⟨b, 19, none⟩ (.int .i64 n.ver))).cell? ⟨g, 27, none⟩ = some (.string ⟨q.cl.toArray⟩) ∧ (((((((((w7.setCell ⟨b, 12, none⟩ (.int .u32 (n.addr : Int))).setCell ⟨b, 13, none⟩ (.int .i64 n.bind)).setCell ⟨b, 14, none⟩ (.string n.cb)).setCell ⟨b, 15, none⟩ (.int .i64 n.unt)).setCell ⟨b, 16, none⟩ (.int .i64 n.acked)).setCell ⟨b, 17, none⟩ (.int .i64 n.told)).setCell ⟨b, 18, none⟩ (.int .i64 n.at_)).setCell ⟨b, 19, none⟩ (.int .i64 n.ver))).cell? ⟨g, 29, none⟩ = some (.int .i64 q.want) ∧ (((((((((w7.setCell ⟨b, 12, none⟩ (.int .u32 (n.addr : Int))).setCell ⟨b, 13, none⟩ (.int .i64 n.bind)).setCell ⟨b, 14, none⟩ (.string n.cb)).setCell ⟨b, 15, none⟩ (.int .i64 n.unt)).setCell ⟨b, 16, none⟩ (.int .i64 n.acked)).setCell ⟨b, 17, none⟩ (.int .i64 n.told)).setCell ⟨b, 18, none⟩ (.int .i64 n.at_)).setCell ⟨b, 19, none⟩ (.int .i64 n.ver))).cell? ⟨g, 32, none⟩ = some (.int .i64 q.now) ∧ (((((((((w7.setCell ⟨b, 12, none⟩ (.int .u32 (n.addr : Int))).setCell ⟨b, 13, none⟩ (.int .i64 n.bind)).setCell ⟨b, 14, none⟩ (.string n.cb)).setCell ⟨b, 15, none⟩ (.int .i64 n.unt)).setCell ⟨b, 16, none⟩ (.int .i64 n.acked)).setCell ⟨b, 17, none⟩ (.int .i64 n.told)).setCell ⟨b, 18, none⟩ (.int .i64 n.at_)).setCell ⟨b, 19, none⟩ (.int .i64 n.ver))).cell? ⟨w.heap.size, 0, none⟩ = some (.int .u32 (m.addr : Int)) ∧ (((((((((w7.setCell ⟨b, 12, none⟩ (.int .u32 (n.addr : Int))).setCell ⟨b, 13, none⟩ (.int .i64 n.bind)).setCell ⟨b, 14, none⟩ (.string n.cb)).setCell ⟨b, 15, none⟩ (.int .i64 n.unt)).setCell ⟨b, 16, none⟩ (.int .i64 n.acked)).setCell ⟨b, 17, none⟩ (.int .i64 n.told)).setCell ⟨b, 18, none⟩ (.int .i64 n.at_)).setCell ⟨b, 19, none⟩ (.int .i64 n.ver))).cell? ⟨w.heap.size, 1, none⟩ = some (.int .i64 m.bind) ∧ (((((((((w7.setCell ⟨b, 12, none⟩ (.int .u32 (n.addr : Int))).setCell ⟨b, 13, none⟩ (.int .i64 n.bind)).setCell ⟨b, 14, none⟩ (.string n.cb)).setCell ⟨b, 15, none⟩ (.int .i64 n.unt)).setCell ⟨b, 16, none⟩ (.int .i64 n.acked)).setCell ⟨b, 17, none⟩ (.int .i64 n.told)).setCell ⟨b, 18, none⟩ (.int .i64 n.at_)).setCell ⟨b, 19, none⟩ (.int .i64 n.ver))).cell? ⟨w.heap.size, 2, none⟩ = some (.string m.cb) ∧ (((((((((w7.setCell ⟨b, 12, none⟩ (.int .u32 (n.addr : Int))).setCell ⟨b, 13, none⟩ (.int .i64 n.bind)).setCell ⟨b, 14, none⟩ (.string n.cb)).setCell ⟨b, 15, none⟩ (.int .i64 n.unt)).setCell ⟨b, 16, none⟩ (.int .i64 n.acked)).setCell ⟨b, 17, none⟩ (.int .i64 n.told)).setCell ⟨b, 18, none⟩ (.int .i64 n.at_)).setCell ⟨b, 19, none⟩ (.int .i64 n.ver))).cell? ⟨w.heap.size, 3, none⟩ = some (.int .i64 m.unt) ∧ (((((((((w7.setCell ⟨b, 12, none⟩ (.int .u32 (n.addr : Int))).setCell ⟨b, 13, none⟩ (.int .i64 n.bind)).setCell ⟨b, 14, none⟩ (.string n.cb)).setCell ⟨b, 15, none⟩ (.int .i64 n.unt)).setCell ⟨b, 16, none⟩ (.int .i64 n.acked)).setCell ⟨b, 17, none⟩ (.int .i64 n.told)).setCell ⟨b, 18, none⟩ (.int .i64 n.at_)).setCell ⟨b, 19, none⟩ (.int .i64 n.ver))).cell? ⟨w.heap.size, 4, none⟩ = some (.int .i64 m.acked) ∧ (((((((((w7.setCell ⟨b, 12, none⟩ (.int .u32 (n.addr : Int))).setCell ⟨b, 13, none⟩ (.int .i64 n.bind)).setCell ⟨b, 14, none⟩ (.string n.cb)).setCell ⟨b, 15, none⟩ (.int .i64 n.unt)).setCell ⟨b, 16, none⟩ (.int .i64 n.acked)).setCell ⟨b, 17, none⟩ (.int .i64 n.told)).setCell ⟨b, 18, none⟩ (.int .i64 n.at_)).setCell ⟨b, 19, none⟩ (.int .i64 n.ver))).cell? ⟨w.heap.size, 5, none⟩ = some (.int .i64 m.told) ∧ (((((((((w7.setCell ⟨b, 12, none⟩ (.int .u32 (n.addr : Int))).setCell ⟨b, 13, none⟩ (.int .i64 n.bind)).setCell ⟨b, 14, none⟩ (.string n.cb)).setCell ⟨b, 15, none⟩ (.int .i64 n.unt)).setCell ⟨b, 16, none⟩ (.int .i64 n.acked)).setCell ⟨b, 17, none⟩ (.int .i64 n.told)).setCell ⟨b, 18, none⟩ (.int .i64 n.at_)).setCell ⟨b, 19, none⟩ (.int .i64 n.ver))).cell? ⟨w.heap.size, 6, none⟩ = some (.int .i64 m.at_) ∧ (((((((((w7.setCell ⟨b, 12, none⟩ (.int .u32 (n.addr : Int))).setCell ⟨b, 13, none⟩ (.int .i64 n.bind)).setCell ⟨b, 14, none⟩ (.string n.cb)).setCell ⟨b, 15, none⟩ (.int .i64 n.unt)).setCell ⟨b, 16, none⟩ (.int .i64 n.acked)).setCell ⟨b, 17, none⟩ (.int .i64 n.told)).setCell ⟨b, 18, none⟩ (.int .i64 n.at_)).setCell ⟨b, 19, none⟩ (.int .i64 n.ver))).cell? ⟨w.heap.size, 7, none⟩ = some (.int .i64 m.ver) := by { have h := HC.out (storeAt w7 w4.heap.size n) (HR7.out.lease n).2; rw [← HBB.out] at h; exact h }; have LA := Lib.hid (HR7.out.lease n); have b12 := HR7.out.1.at_ 12; have f12 := HR7.out.1.free 12; rw [← HBB.out] at b12 f12; have b13 := HR7.out.1.at_ 13; have f13 := HR7.out.1.free 13; rw [← HBB.out] at b13 f13; have b14 := HR7.out.1.at_ 14; have f14 := HR7.out.1.free 14; rw [← HBB.out] at b14 f14; have b15 := HR7.out.1.at_ 15; have f15 := HR7.out.1.free 15; rw [← HBB.out] at b15 f15; have b16 := HR7.out.1.at_ 16; have f16 := HR7.out.1.free 16; rw [← HBB.out] at b16 f16; have b17 := HR7.out.1.at_ 17; have f17 := HR7.out.1.free 17; rw [← HBB.out] at b17 f17; have b18 := HR7.out.1.at_ 18; have f18 := HR7.out.1.free 18; rw [← HBB.out] at b18 f18; have b19 := HR7.out.1.at_ 19; have f19 := HR7.out.1.free 19; rw [← HBB.out] at b19 f19; clear hb7))
    all_goals
      go_wp2
      go_meet
      have h := LA.out
      rw [← HBB.out] at h
      exact h
  case rest =>
    have HR8 := Lib.hid hcut
    clear hcut HR5 HR6 HW5 HW6 HLE
    go_upto_region 4 with fail
    go_cut [] (fun wx => AnR w4 ⟨true, p, true, n, pt⟩ wx)
    case first =>
      have HD := Lib.hid (AnR.at_ HR8.out ((Below.refl _ wc).drew))
      have HC := Lib.hid (fun V x (h : AnR w4 ⟨true, p, true, n, x⟩ V) => (show (V).cell? ⟨g, 14, none⟩ = some (.int .i64 q.x.id) ∧ (V).cell? ⟨g, 15, none⟩ = some (.int .i64 q.x.lead) ∧ (V).cell? ⟨g, 16, none⟩ = some (.int .i64 q.x.guard) ∧ (V).cell? ⟨g, 29, none⟩ = some (.int .i64 q.want) ∧ (V).cell? ⟨g, 32, none⟩ = some (.int .i64 q.now) ∧ (V).cell? ⟨b, 12, none⟩ = some (.int .u32 (n.addr : Int)) ∧ (V).cell? ⟨b, 13, none⟩ = some (.int .i64 n.bind) ∧ (V).cell? ⟨b, 14, none⟩ = some (.string n.cb) ∧ (V).cell? ⟨b, 15, none⟩ = some (.int .i64 n.unt) ∧ (V).cell? ⟨b, 16, none⟩ = some (.int .i64 n.acked) ∧ (V).cell? ⟨b, 17, none⟩ = some (.int .i64 n.told) ∧ (V).cell? ⟨b, 18, none⟩ = some (.int .i64 n.at_) ∧ (V).cell? ⟨b, 19, none⟩ = some (.int .i64 n.ver) from by rw [HBB.out]; exact ⟨(HQ4.out.later h.2).c14, (HQ4.out.later h.2).c15, (HQ4.out.later h.2).c16, (HQ4.out.later h.2).c29, (HQ4.out.later h.2).c32, h.1.at_ 12, h.1.at_ 13, h.1.at_ 14, h.1.at_ 15, h.1.at_ 16, h.1.at_ 17, h.1.at_ 18, h.1.at_ 19⟩))
      obtain ⟨k0, k1, k2, k3, k4, k5, k6, k7, k8, k9, k10, k11, k12⟩ := HC.out wc.drew 0 HD.out
      go_region_held3 (fun w' => (w').cell? ⟨g, 14, none⟩ = some (.int .i64 q.x.id) ∧ (w').cell? ⟨g, 15, none⟩ = some (.int .i64 q.x.lead) ∧ (w').cell? ⟨g, 16, none⟩ = some (.int .i64 q.x.guard) ∧ (w').cell? ⟨g, 29, none⟩ = some (.int .i64 q.want) ∧ (w').cell? ⟨g, 32, none⟩ = some (.int .i64 q.now) ∧ (w').cell? ⟨b, 12, none⟩ = some (.int .u32 (n.addr : Int)) ∧ (w').cell? ⟨b, 13, none⟩ = some (.int .i64 n.bind) ∧ (w').cell? ⟨b, 14, none⟩ = some (.string n.cb) ∧ (w').cell? ⟨b, 15, none⟩ = some (.int .i64 n.unt) ∧ (w').cell? ⟨b, 16, none⟩ = some (.int .i64 n.acked) ∧ (w').cell? ⟨b, 17, none⟩ = some (.int .i64 n.told) ∧ (w').cell? ⟨b, 18, none⟩ = some (.int .i64 n.at_) ∧ (w').cell? ⟨b, 19, none⟩ = some (.int .i64 n.ver)) (first | (with_reducible exact rz) | go_keep) (first
        | (go_at_call 127; (with_reducible refine (HPO.out _).mono ?_); rintro e w7 ⟨rfl, hb7⟩; have HR7 := Lib.hid (AnR.at_ HD.out hb7); obtain ⟨j0, j1, j2, j3, j4, j5, j6, j7, j8, j9, j10, j11, j12⟩ := HC.out w7 0 HR7.out; have LA : Hid (AnR w4 ⟨true, p, true, n, pt⟩ (w7.setCell ⟨w4.heap.size, 20, none⟩ (.int .i64 pt))) := Lib.hid (HR7.out.put 20 _ _ rfl); have rz : (w7.setCell ⟨b, 20, none⟩ (.int .i64 pt)).cell? ⟨g, 14, none⟩ = some (.int .i64 q.x.id) ∧ (w7.setCell ⟨b, 20, none⟩ (.int .i64 pt)).cell? ⟨g, 15, none⟩ = some (.int .i64 q.x.lead) ∧ (w7.setCell ⟨b, 20, none⟩ (.int .i64 pt)).cell? ⟨g, 16, none⟩ = some (.int .i64 q.x.guard) ∧ (w7.setCell ⟨b, 20, none⟩ (.int .i64 pt)).cell? ⟨g, 29, none⟩ = some (.int .i64 q.want) ∧ (w7.setCell ⟨b, 20, none⟩ (.int .i64 pt)).cell? ⟨g, 32, none⟩ = some (.int .i64 q.now) ∧ (w7.setCell ⟨b, 20, none⟩ (.int .i64 pt)).cell? ⟨b, 12, none⟩ = some (.int .u32 (n.addr : Int)) ∧ (w7.setCell ⟨b, 20, none⟩ (.int .i64 pt)).cell? ⟨b, 13, none⟩ = some (.int .i64 n.bind) ∧ (w7.setCell ⟨b, 20, none⟩ (.int .i64 pt)).cell? ⟨b, 14, none⟩ = some (.string n.cb) ∧ (w7.setCell ⟨b, 20, none⟩ (.int .i64 pt)).cell? ⟨b, 15, none⟩ = some (.int .i64 n.unt) ∧ (w7.setCell ⟨b, 20, none⟩ (.int .i64 pt)).cell? ⟨b, 16, none⟩ = some (.int .i64 n.acked) ∧ (w7.setCell ⟨b, 20, none⟩ (.int .i64 pt)).cell? ⟨b, 17, none⟩ = some (.int .i64 n.told) ∧ (w7.setCell ⟨b, 20, none⟩ (.int .i64 pt)).cell? ⟨b, 18, none⟩ = some (.int .i64 n.at_) ∧ (w7.setCell ⟨b, 20, none⟩ (.int .i64 pt)).cell? ⟨b, 19, none⟩ = some (.int .i64 n.ver) := by { have h := HC.out _ pt LA.out; rw [← HBB.out] at h; exact h }; have b20 := HR7.out.1.at_ 20; have f20 := HR7.out.1.free 20; rw [← HBB.out] at b20 f20; clear hb7))
      all_goals
        go_wp2
        go_meet
        have h := LA.out
        rw [← HBB.out] at h
        exact h
    case rest =>
      have HR9 := Lib.hid hcut
      clear hcut HR8
      have HX9 : Hid (Bx wc b 44 (AnW.cells ⟨true, p, true, n, pt⟩)) := Lib.hid (by rw [HBB.out]; exact HR9.out.1)
      have HZ9 := Lib.hid (HZ4.out.below HR9.out.2 HZ4.out.lt)
      have HB9 := Lib.hid (HB4.out.trans (HR9.out.2.mono HB4.out.size))
      have HP9 := Lib.hid (HP4.out.later HR9.out.2)
      go_wp2_with (first
        | (refine wp_loadR rowA rfl _ rfl b rfl HX9.out rfl ?_)
        | (refine wp_storeR rowA rfl _ _ rfl (w.heap.size + 1) _ rfl rfl HZ9.out rfl rfl rfl ?_))
      exact ans_end (a := ⟨true, p, true, n, pt⟩) rfl rfl (HZ9.out.set _) (by rw [HXX.out]; show AnsV.mk _ p.abs _ _ _ = _; rw [HP.out]) ((HP9.out.set HZ9.out HLT.out (ansW_no8 zeroA) _).more (by have := HLT.out; omega)) (HB9.out.trans (below_setRow _ (w.heap.size + 1) _ (Nat.le_succ _)))
end Go.Proofs.YtmaohnbddlccdaaGreat
