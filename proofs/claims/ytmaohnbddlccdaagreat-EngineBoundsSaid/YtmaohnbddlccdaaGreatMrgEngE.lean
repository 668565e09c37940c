/- engine: the three closures of choice. (Written by wip/tools/genenge.py.) -/
import Derived.Test.YtmaohnbddlccdaaGreatMrgEngC
import Derived.Deep.RegionHeld3
namespace Go.Proofs.YtmaohnbddlccdaaGreat
open Go.RowKit Go.Sort

section
variable {T : World → (Nat → Prop) → Nat → List LV → Prop} {w w' : World} {P : Nat → Prop} {g gt : Nat} {q : QV} {L : List LV}
theorem QT.drew (K : TabK T) (h : QT T w P g gt q L) : QT T w.drew P g gt q L := h.later K ((Below.refl _ w).drew)
end
/-- Which lease a client has; which may be given. -/
def hasE (q : QV) (m : LV) : Bool := theirsB m q.cl
def mayQ (q : QV) (m : LV) : Bool := mayE q.x q.s q.now q.entry m
theorem of_sub {L : List LV} {c : List UInt8} {x : LV} (h : x ∈ ofL L c) : x ∈ L := (List.mem_filter.1 h).1
theorem of_len (L : List LV) (c : List UInt8) : (ofL L c).length ≤ L.length := List.length_filter_le _ _

theorem choice2_end {w W : World} {g : Nat} {z m : LV} {b : Bool} {t : Array Value} (hz : LBox W g z) (hB : Below w.heap.size w W) (hg : w.heap.size ≤ g) (h2 : t[1]?.getD undef = .pointer (some ⟨g, 0, none⟩)) (h3 : t[2]?.getD undef = .bool b) :
    bodyPost Tryz.prog Tryz.f118 (fun e w' => e = .returned (.tuple #[m.v, .bool b]) ∧ Below w.heap.size w w') .ret { tmps := t, defers := [] } (storeL W g m) := by
  refine bodyPost_ret (v := .tuple #[m.v, .bool b]) ?_ ?_ ?_
  · obtain ⟨r0, r1, r2, r3, r4, r5, r6, r7⟩ := (storeL_box hz m).all
    simp [results, Tryz.f118, go_sem, h2, h3, r0, r1, r2, r3, r4, r5, r6, r7]
  · rfl
  · exact ⟨rfl, hB.trans (storeL_low W _ g hg m)⟩

set_option maxRecDepth 100000 in
set_option maxHeartbeats 2000000 in
theorem choice2_any {T : World → (Nat → Prop) → Nat → List LV → Prop} (K : TabK T) {w : World} {P : Nat → Prop} {g gt c : Nat} {q : QV} {L : List LV} (h : QT T w P g gt q L) (ha : q.ad < 4294967296) (hc : w.cell? ⟨c, 0, none⟩ = some (ptE g)) :
    Calls Tryz.prog 118 #[ptE c] w fun e w' => e = .returned (.tuple #[((atE (mayQ q) L q.ad).getD zeroL).v, .bool (atE (mayQ q) L q.ad).isSome]) ∧ Below w.heap.size w w' := by
  have HA := Lib.hid (fun W (hQ : QT T W P g gt q L) => qat_any K hQ q.ad ha (f := 119) (pre := #[ptE g]) (p := mayQ q) (fun _ _ => rfl) (fun m W hW => qmay_any m hW.m))
  obtain ⟨w0, hw0⟩ : ∃ w0, w0 = w.alloc (.cells #[.int .u32 0, .int .i64 0, .string ⟨#[]⟩, .int .i64 0, .int .i64 0, .int .i64 0, .int .i64 0, .int .i64 0] 42) := ⟨_, rfl⟩
  have HZ : Hid (LBox w0 w.heap.size zeroL) := Lib.hid (by rw [hw0]; exact LBox.new w zeroL)
  have hb0 : Below w.heap.size w w0 := by rw [hw0]; exact (Below.refl _ _).alloc (Nat.le_refl _) _
  have HQ := Lib.hid (h.later K hb0)
  have HB := Lib.hid hb0
  have d0 : w0.cell? ⟨c, 0, none⟩ = some (ptE g) := (hb0.cell (block_lt_of_cell hc)).trans hc
  have N1 : Hid (c < w.heap.size) := Lib.hid (block_lt_of_cell hc)
  have N2 : Hid (g < w.heap.size) := Lib.hid h.m.lt
  have HW0 := Lib.hid hw0
  have HD := Lib.hid (HQ.out.drew K)
  obtain ⟨r, hr⟩ : ∃ r, r = atE (mayQ q) L q.ad := ⟨_, rfl⟩
  rw [← hr] at HA ⊢
  clear hw0 h hc hb0 K hr
  go_enter Tryz.func118, Tryz.ntmps118
  go_upto_region 1 with fail
  rw [← HW0.out]
  have k0 : w0.drew.cell? ⟨c, 0, none⟩ = some (ptE g) := d0
  have k1 : w0.drew.cell? ⟨g, 28, none⟩ = some (.int .u32 (q.ad : Int)) := HQ.out.m.c28
  go_region_held3 (fun w' => w'.cell? ⟨c, 0, none⟩ = some (ptE g) ∧ w'.cell? ⟨g, 28, none⟩ = some (.int .u32 (q.ad : Int))) (first | (with_reducible exact rz) | go_keep) (first
    | (go_at_call 76; (with_reducible refine (HA.out _ ?_).mono ?_); (with_reducible exact HD.out); rintro e w2 ⟨rfl, hb2⟩; have j0 : w2.cell? ⟨c, 0, none⟩ = some (ptE g) := (hb2.cell (block_lt_of_cell k0)).trans k0; have j1 : w2.cell? ⟨g, 28, none⟩ = some (.int .u32 (q.ad : Int)) := (hb2.cell (block_lt_of_cell k1)).trans k1; have rz : (storeL w2 w.heap.size (r.getD zeroL)).cell? ⟨c, 0, none⟩ = some (ptE g) ∧ (storeL w2 w.heap.size (r.getD zeroL)).cell? ⟨g, 28, none⟩ = some (.int .u32 (q.ad : Int)) := ⟨((storeL_low w2 _ _ (Nat.le_refl w.heap.size) _).cell N1.out).trans j0, ((storeL_low w2 _ _ (Nat.le_refl w.heap.size) _).cell N2.out).trans j1⟩; unfold storeL at rz; have HZZ := Lib.hid (LBox.later (w := w0.drew) HZ.out hb2); have HBB := Lib.hid (HB.out.drew.trans (hb2.mono HB.out.size)); clear hb2; obtain ⟨z0, z1, z2, z3, z4, z5, z6, z7⟩ := HZZ.out.all; obtain ⟨f0, f1, f2, f3, f4, f5, f6, f7⟩ := HZZ.out.allF))
  all_goals
    go_wp2
    exact choice2_end (W := w2) (m := r.getD zeroL) (b := r.isSome) HZZ.out HBB.out (Nat.le_refl _) rfl rfl

theorem choice3_end {w W : World} {g : Nat} {z m : LV} {b : Bool} {t : Array Value} (hz : LBox W g z) (hB : Below w.heap.size w W) (hg : w.heap.size ≤ g) (h2 : t[1]?.getD undef = .pointer (some ⟨g, 0, none⟩)) (h3 : t[2]?.getD undef = .bool b) :
    bodyPost Tryz.prog Tryz.f120 (fun e w' => e = .returned (.tuple #[m.v, .bool b]) ∧ Below w.heap.size w w') .ret { tmps := t, defers := [] } (storeL W g m) := by
  refine bodyPost_ret (v := .tuple #[m.v, .bool b]) ?_ ?_ ?_
  · obtain ⟨r0, r1, r2, r3, r4, r5, r6, r7⟩ := (storeL_box hz m).all
    simp [results, Tryz.f120, go_sem, h2, h3, r0, r1, r2, r3, r4, r5, r6, r7]
  · rfl
  · exact ⟨rfl, hB.trans (storeL_low W _ g hg m)⟩

set_option maxRecDepth 100000 in
set_option maxHeartbeats 2000000 in
theorem choice3_any {T : World → (Nat → Prop) → Nat → List LV → Prop} (K : TabK T) {w : World} {P : Nat → Prop} {g gt c : Nat} {q : QV} {L : List LV} (h : QT T w P g gt q L) (hc : w.cell? ⟨c, 0, none⟩ = some (ptE g)) :
    Calls Tryz.prog 120 #[ptE c] w fun e w' => e = .returned (.tuple #[((firstE (mayQ q) L L).getD zeroL).v, .bool (firstE (mayQ q) L L).isSome]) ∧ Below w.heap.size w w' := by
  have HO := Lib.hid (fun W (hQ : QT T W P g gt q L) => K.all' hQ.t)
  have hlen : L.length ≤ 1000 := by have := K.few h.t; omega
  have hw32 : ∀ x ∈ L, x.addr < 4294967296 := fun x hx => h.w32 x (hx)
  have HF := Lib.hid (fun W A c (hQ : QT T W P g gt q L) (hE : El ElemL W W.heap.size A L) => qfirst_any (c := c) K hQ hE hw32 hlen (f := 119) (pre := #[ptE g]) (p := mayQ q) (fun _ _ => rfl) (fun m W hW => qmay_any m hW.m))
  obtain ⟨w0, hw0⟩ : ∃ w0, w0 = w.alloc (.cells #[.int .u32 0, .int .i64 0, .string ⟨#[]⟩, .int .i64 0, .int .i64 0, .int .i64 0, .int .i64 0, .int .i64 0] 42) := ⟨_, rfl⟩
  have HZ : Hid (LBox w0 w.heap.size zeroL) := Lib.hid (by rw [hw0]; exact LBox.new w zeroL)
  have hb0 : Below w.heap.size w w0 := by rw [hw0]; exact (Below.refl _ _).alloc (Nat.le_refl _) _
  have HQ := Lib.hid (h.later K hb0)
  have HB := Lib.hid hb0
  have d0 : w0.cell? ⟨c, 0, none⟩ = some (ptE g) := (hb0.cell (block_lt_of_cell hc)).trans hc
  have N1 : Hid (c < w.heap.size) := Lib.hid (block_lt_of_cell hc)
  have N2 : Hid (g < w.heap.size) := Lib.hid h.m.lt
  have HW0 := Lib.hid hw0
  have HD := Lib.hid (HQ.out.drew K)
  obtain ⟨r, hr⟩ : ∃ r, r = firstE (mayQ q) L L := ⟨_, rfl⟩
  rw [← hr] at HF ⊢
  have c30 := HQ.out.m.c30
  rw [HQ.out.tp] at c30
  have HLK := Lib.hid (fun V (hb : Below w0.drew.heap.size w0.drew V) => HD.out.later K hb)
  clear hw0 h hc hb0 K hr hlen hw32
  go_enter Tryz.func120, Tryz.ntmps120
  go_upto_region 1 with fail
  rw [← HW0.out]
  have k0 : w0.drew.cell? ⟨c, 0, none⟩ = some (ptE g) := d0
  have k1 : w0.drew.cell? ⟨g, 30, none⟩ = some (ptE gt) := c30
  go_region_held3 (fun w' => w'.cell? ⟨c, 0, none⟩ = some (ptE g) ∧ w'.cell? ⟨g, 30, none⟩ = some (ptE gt)) (first | (with_reducible exact rz) | go_keep) (first
    | (go_at_call 121; (with_reducible refine (HO.out _ ?_).mono ?_); (with_reducible exact HD.out); rintro e w1 ⟨A1, c1, l1, rfl, HL1, hE1, -, hb1⟩; have HQ1 := Lib.hid (HLK.out _ hb1); have HB1 := Lib.hid (HB.out.drew.trans (hb1.mono HB.out.size)); have HZ1 := Lib.hid (LBox.later (w := w0.drew) HZ.out hb1); have el1 := HL1.out; subst el1; have HE1 := Lib.hid hE1; have i0 : w1.cell? ⟨c, 0, none⟩ = some (ptE g) := (hb1.cell (block_lt_of_cell k0)).trans k0; have i1 : w1.cell? ⟨g, 30, none⟩ = some (ptE gt) := (hb1.cell (block_lt_of_cell k1)).trans k1; clear hb1 hE1)
    | (go_at_call 116; (with_reducible refine (HF.out _ _ _ ?_ ?_).mono ?_); (with_reducible exact HQ1.out); (with_reducible exact HE1.out); rintro e w2 ⟨rfl, hb2⟩; have j0 : w2.cell? ⟨c, 0, none⟩ = some (ptE g) := (hb2.cell (block_lt_of_cell i0)).trans i0; have j1 : w2.cell? ⟨g, 30, none⟩ = some (ptE gt) := (hb2.cell (block_lt_of_cell i1)).trans i1; have rz : (storeL w2 w.heap.size (r.getD zeroL)).cell? ⟨c, 0, none⟩ = some (ptE g) ∧ (storeL w2 w.heap.size (r.getD zeroL)).cell? ⟨g, 30, none⟩ = some (ptE gt) := ⟨((storeL_low w2 _ _ (Nat.le_refl w.heap.size) _).cell N1.out).trans j0, ((storeL_low w2 _ _ (Nat.le_refl w.heap.size) _).cell N2.out).trans j1⟩; unfold storeL at rz; have HZZ := Lib.hid (HZ1.out.later hb2); have HBB := Lib.hid (HB1.out.trans (hb2.mono HB1.out.size)); clear hb2; obtain ⟨z0, z1, z2, z3, z4, z5, z6, z7⟩ := HZZ.out.all; obtain ⟨f0, f1, f2, f3, f4, f5, f6, f7⟩ := HZZ.out.allF))
  all_goals
    go_wp2
    exact choice3_end (W := w2) (m := r.getD zeroL) (b := r.isSome) HZZ.out HBB.out (Nat.le_refl _) rfl rfl

theorem choice1_end {w W : World} {g : Nat} {z m : LV} {b : Bool} {t : Array Value} (hz : LBox W g z) (hB : Below w.heap.size w W) (hg : w.heap.size ≤ g) (h2 : t[1]?.getD undef = .pointer (some ⟨g, 0, none⟩)) (h3 : t[2]?.getD undef = .bool b) :
    bodyPost Tryz.prog Tryz.f115 (fun e w' => e = .returned (.tuple #[m.v, .bool b]) ∧ Below w.heap.size w w') .ret { tmps := t, defers := [] } (storeL W g m) := by
  refine bodyPost_ret (v := .tuple #[m.v, .bool b]) ?_ ?_ ?_
  · obtain ⟨r0, r1, r2, r3, r4, r5, r6, r7⟩ := (storeL_box hz m).all
    simp [results, Tryz.f115, go_sem, h2, h3, r0, r1, r2, r3, r4, r5, r6, r7]
  · rfl
  · exact ⟨rfl, hB.trans (storeL_low W _ g hg m)⟩

set_option maxRecDepth 100000 in
set_option maxHeartbeats 2000000 in
theorem choice1_any {T : World → (Nat → Prop) → Nat → List LV → Prop} (K : TabK T) {w : World} {P : Nat → Prop} {g gt c : Nat} {q : QV} {L : List LV} (h : QT T w P g gt q L) (hc : w.cell? ⟨c, 0, none⟩ = some (ptE g)) :
    Calls Tryz.prog 115 #[ptE c] w fun e w' => e = .returned (.tuple #[((firstE (hasE q) L (ofL L q.cl)).getD zeroL).v, .bool (firstE (hasE q) L (ofL L q.cl)).isSome]) ∧ Below w.heap.size w w' := by
  have HO := Lib.hid (fun W (hQ : QT T W P g gt q L) => (K.of' ⟨q.cl.toArray⟩ hQ.t : Calls Tryz.prog 117 #[.pointer (some ⟨gt, 0, none⟩), .string ⟨q.cl.toArray⟩] W (GivesTt W (ofL L q.cl))))
  obtain ⟨M, hM⟩ : ∃ M, M = (ofL L q.cl) := ⟨_, rfl⟩
  rw [← hM] at HO ⊢
  have hlen : M.length ≤ 1000 := by have := K.few h.t; have := of_len L q.cl; rw [hM]; omega
  have hw32 : ∀ x ∈ M, x.addr < 4294967296 := fun x hx => h.w32 x (of_sub (hM ▸ hx))
  have HF := Lib.hid (fun W A c (hQ : QT T W P g gt q L) (hE : El ElemL W W.heap.size A M) => qfirst_any (c := c) K hQ hE hw32 hlen (f := 80) (pre := #[ptE g]) (p := hasE q) (fun _ _ => rfl) (fun m W hW => qhas_any m hW.m))
  obtain ⟨w0, hw0⟩ : ∃ w0, w0 = w.alloc (.cells #[.int .u32 0, .int .i64 0, .string ⟨#[]⟩, .int .i64 0, .int .i64 0, .int .i64 0, .int .i64 0, .int .i64 0] 42) := ⟨_, rfl⟩
  have HZ : Hid (LBox w0 w.heap.size zeroL) := Lib.hid (by rw [hw0]; exact LBox.new w zeroL)
  have hb0 : Below w.heap.size w w0 := by rw [hw0]; exact (Below.refl _ _).alloc (Nat.le_refl _) _
  have HQ := Lib.hid (h.later K hb0)
  have HB := Lib.hid hb0
  have d0 : w0.cell? ⟨c, 0, none⟩ = some (ptE g) := (hb0.cell (block_lt_of_cell hc)).trans hc
  have N1 : Hid (c < w.heap.size) := Lib.hid (block_lt_of_cell hc)
  have N2 : Hid (g < w.heap.size) := Lib.hid h.m.lt
  have HW0 := Lib.hid hw0
  have HD := Lib.hid (HQ.out.drew K)
  obtain ⟨r, hr⟩ : ∃ r, r = firstE (hasE q) L M := ⟨_, rfl⟩
  rw [← hr] at HF ⊢
  have c30 := HQ.out.m.c30
  rw [HQ.out.tp] at c30
  have HLK := Lib.hid (fun V (hb : Below w0.drew.heap.size w0.drew V) => HD.out.later K hb)
  clear hw0 h hc hb0 K hr hlen hw32 hM
  go_enter Tryz.func115, Tryz.ntmps115
  go_upto_region 1 with fail
  rw [← HW0.out]
  have k0 : w0.drew.cell? ⟨c, 0, none⟩ = some (ptE g) := d0
  have k1 : w0.drew.cell? ⟨g, 30, none⟩ = some (ptE gt) := c30
  have k2 : w0.drew.cell? ⟨g, 27, none⟩ = some (.string ⟨q.cl.toArray⟩) := HQ.out.m.c27
  go_region_held3 (fun w' => w'.cell? ⟨c, 0, none⟩ = some (ptE g) ∧ w'.cell? ⟨g, 30, none⟩ = some (ptE gt) ∧ w'.cell? ⟨g, 27, none⟩ = some (.string ⟨q.cl.toArray⟩)) (first | (with_reducible exact rz) | go_keep) (first
    | (go_at_call 117; (with_reducible refine (HO.out _ ?_).mono ?_); (with_reducible exact HD.out); rintro e w1 ⟨A1, c1, l1, rfl, HL1, hE1, -, hb1⟩; have HQ1 := Lib.hid (HLK.out _ hb1); have HB1 := Lib.hid (HB.out.drew.trans (hb1.mono HB.out.size)); have HZ1 := Lib.hid (LBox.later (w := w0.drew) HZ.out hb1); have el1 := HL1.out; subst el1; have HE1 := Lib.hid hE1; have i0 : w1.cell? ⟨c, 0, none⟩ = some (ptE g) := (hb1.cell (block_lt_of_cell k0)).trans k0; have i1 : w1.cell? ⟨g, 30, none⟩ = some (ptE gt) := (hb1.cell (block_lt_of_cell k1)).trans k1; have i2 : w1.cell? ⟨g, 27, none⟩ = some (.string ⟨q.cl.toArray⟩) := (hb1.cell (block_lt_of_cell k2)).trans k2; clear hb1 hE1)
    | (go_at_call 116; (with_reducible refine (HF.out _ _ _ ?_ ?_).mono ?_); (with_reducible exact HQ1.out); (with_reducible exact HE1.out); rintro e w2 ⟨rfl, hb2⟩; have j0 : w2.cell? ⟨c, 0, none⟩ = some (ptE g) := (hb2.cell (block_lt_of_cell i0)).trans i0; have j1 : w2.cell? ⟨g, 30, none⟩ = some (ptE gt) := (hb2.cell (block_lt_of_cell i1)).trans i1; have j2 : w2.cell? ⟨g, 27, none⟩ = some (.string ⟨q.cl.toArray⟩) := (hb2.cell (block_lt_of_cell i2)).trans i2; have rz : (storeL w2 w.heap.size (r.getD zeroL)).cell? ⟨c, 0, none⟩ = some (ptE g) ∧ (storeL w2 w.heap.size (r.getD zeroL)).cell? ⟨g, 30, none⟩ = some (ptE gt) ∧ (storeL w2 w.heap.size (r.getD zeroL)).cell? ⟨g, 27, none⟩ = some (.string ⟨q.cl.toArray⟩) := ⟨((storeL_low w2 _ _ (Nat.le_refl w.heap.size) _).cell N1.out).trans j0, ((storeL_low w2 _ _ (Nat.le_refl w.heap.size) _).cell N2.out).trans j1, ((storeL_low w2 _ _ (Nat.le_refl w.heap.size) _).cell N2.out).trans j2⟩; unfold storeL at rz; have HZZ := Lib.hid (HZ1.out.later hb2); have HBB := Lib.hid (HB1.out.trans (hb2.mono HB1.out.size)); clear hb2; obtain ⟨z0, z1, z2, z3, z4, z5, z6, z7⟩ := HZZ.out.all; obtain ⟨f0, f1, f2, f3, f4, f5, f6, f7⟩ := HZZ.out.allF))
  all_goals
    go_wp2
    exact choice1_end (W := w2) (m := r.getD zeroL) (b := r.isSome) HZZ.out HBB.out (Nat.le_refl _) rfl rfl
end Go.Proofs.YtmaohnbddlccdaaGreat
