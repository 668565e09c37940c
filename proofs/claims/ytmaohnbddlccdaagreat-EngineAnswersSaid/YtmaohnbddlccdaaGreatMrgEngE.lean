/- Joined texts: EngE, EngF. -/
import Derived.Test.YtmaohnbddlccdaaGreatMrgEngC
import Derived.Deep.RegionHeld3

/- engine: the three closures of choice. (Written by wip/tools/genenge.py.) -/
section
namespace Go.Proofs.YtmaohnbddlccdaaGreat
open Go.RowKit Go.Sort

section
variable {T : World → (Nat → Prop) → Nat → List LV → Prop} {w w' : World} {P : Nat → Prop} {g gt : Nat} {q : QV} {L : List LV}
theorem QT.drew (K : TabK T) (h : QT T w P g gt q L) : QT T w.drew P g gt q L := h.later K ((Below.refl _ w).drew)
end
/-- Which lease a client has; which may be given. -/
def hasE (q : QV) (m : LV) : Bool := theirsB m q.cl
def mayQ (q : QV) (m : LV) : Bool := mayE q.x q.s q.now q.entry m
theorem of_sub {L : List LV} {c : List UInt8} {x : LV} (h : x ∈ ofL L c) : x ∈ L := (List.mem_filter.1 h).1
theorem of_len (L : List LV) (c : List UInt8) : (ofL L c).length ≤ L.length := List.length_filter_le _ _

theorem choice2_end {w W : World} {g : Nat} {z m : LV} {b : Bool} {t : Array Value} (hz : LBox W g z) (hB : Below w.heap.size w W) (hg : w.heap.size ≤ g) (h2 : t[1]?.getD undef = .pointer (some ⟨g, 0, none⟩)) (h3 : t[2]?.getD undef = .bool b) :
    bodyPost Tryz.prog Tryz.f118 (fun e w' => e = .returned (.tuple #[m.v, .bool b]) ∧ Below w.heap.size w w') .ret { tmps := t, defers := [] } (storeL W g m) := by
  refine bodyPost_ret (v := .tuple #[m.v, .bool b]) ?_ ?_ ?_
  · obtain ⟨r0, r1, r2, r3, r4, r5, r6, r7⟩ := (storeL_box hz m).all
    simp [results, Tryz.f118, go_sem, h2, h3, r0, r1, r2, r3, r4, r5, r6, r7]
  · rfl
  · exact ⟨rfl, hB.trans (storeL_low W _ g hg m)⟩

set_option maxRecDepth 100000 in
set_option maxHeartbeats 2000000 in
theorem choice2_any {T : World → (Nat → Prop) → Nat → List LV → Prop} (K : TabK T) {w : World} {P : Nat → Prop} {g gt c : Nat} {q : QV} {L : List LV} (h : QT T w P g gt q L) (ha : q.ad < 4294967296) (hc : w.cell? ⟨c, 0, none⟩ = some (ptE g)) :
    Calls Tryz.prog 118 #[ptE c] w fun e w' => e = .returned (.tuple #[((atE (mayQ q) L q.ad).getD zeroL).v, .bool (atE (mayQ q) L q.ad).isSome]) ∧ Below w.heap.size w w' := by
  have HA := Lib.hid (fun W (hQ : QT T W P g gt q L) => qat_any K hQ q.ad ha (f := 119) (pre := #[ptE g]) (p := mayQ q) (fun _ _ => rfl) (fun m W hW => qmay_any m hW.m))
  obtain ⟨w0, hw0⟩ : ∃ w0, w0 = w.alloc (.cells #[.int .u32 0, .int .i64 0, .string ⟨#[]⟩, .int .i64 0, .int .i64 0, .int .i64 0, .int .i64 0, .int .i64 0] 42) := ⟨_, rfl⟩
  have HZ : Hid (LBox w0 w.heap.size zeroL) := Lib.hid (by rw [hw0]; exact LBox.new w zeroL)
  have hb0 : Below w.heap.size w w0 := by rw [hw0]; exact (Below.refl _ _).alloc (Nat.le_refl _) _
  have HQ := Lib.hid (h.later K hb0)
  have HB := Lib.hid hb0
  have d0 : w0.cell? ⟨c, 0, none⟩ = some (ptE g) := (hb0.cell (block_lt_of_cell hc)).trans hc
  have N1 : Hid (c < w.heap.size) := Lib.hid (block_lt_of_cell hc)
  have N2 : Hid (g < w.heap.size) := Lib.hid h.m.lt
  have HW0 := Lib.hid hw0
  have HD := Lib.hid (HQ.out.drew K)
  obtain ⟨r, hr⟩ : ∃ r, r = atE (mayQ q) L q.ad := ⟨_, rfl⟩
  rw [← hr] at HA ⊢
  clear hw0 h hc hb0 K hr
  go_enter Tryz.func118, Tryz.ntmps118
  go_upto_region 1 with fail
  rw [← HW0.out]
  have k0 : w0.drew.cell? ⟨c, 0, none⟩ = some (ptE g) := d0
  have k1 : w0.drew.cell? ⟨g, 28, none⟩ = some (.int .u32 (q.ad : Int)) := HQ.out.m.c28
  go_region_held3 (fun w' => w'.cell? ⟨c, 0, none⟩ = some (ptE g) ∧ w'.cell? ⟨g, 28, none⟩ = some (.int .u32 (q.ad : Int))) (first | (with_reducible exact rz) | go_keep) (first
    | (go_at_call 76; (with_reducible refine (HA.out _ ?_).mono ?_); (with_reducible exact HD.out); rintro e w2 ⟨rfl, hb2⟩; have j0 : w2.cell? ⟨c, 0, none⟩ = some (ptE g) := (hb2.cell (block_lt_of_cell k0)).trans k0; have j1 : w2.cell? ⟨g, 28, none⟩ = some (.int .u32 (q.ad : Int)) := (hb2.cell (block_lt_of_cell k1)).trans k1; have rz : (storeL w2 w.heap.size (r.getD zeroL)).cell? ⟨c, 0, none⟩ = some (ptE g) ∧ (storeL w2 w.heap.size (r.getD zeroL)).cell? ⟨g, 28, none⟩ = some (.int .u32 (q.ad : Int)) := ⟨((storeL_low w2 _ _ (Nat.le_refl w.heap.size) _).cell N1.out).trans j0, ((storeL_low w2 _ _ (Nat.le_refl w.heap.size) _).cell N2.out).trans j1⟩; unfold storeL at rz; have HZZ := Lib.hid (LBox.later (w := w0.drew) HZ.out hb2); have HBB := Lib.hid (HB.out.drew.trans (hb2.mono HB.out.size)); clear hb2; obtain ⟨z0, z1, z2, z3, z4, z5, z6, z7⟩ := HZZ.out.all; obtain ⟨f0, f1, f2, f3, f4, f5, f6, f7⟩ := HZZ.out.allF))
  all_goals
    go_wp2
    exact choice2_end (W := w2) (m := r.getD zeroL) (b := r.isSome) HZZ.out HBB.out (Nat.le_refl _) rfl rfl

theorem choice3_end {w W : World} {g : Nat} {z m : LV} {b : Bool} {t : Array Value} (hz : LBox W g z) (hB : Below w.heap.size w W) (hg : w.heap.size ≤ g) (h2 : t[1]?.getD undef = .pointer (some ⟨g, 0, none⟩)) (h3 : t[2]?.getD undef = .bool b) :
    bodyPost Tryz.prog Tryz.f120 (fun e w' => e = .returned (.tuple #[m.v, .bool b]) ∧ Below w.heap.size w w') .ret { tmps := t, defers := [] } (storeL W g m) := by
  refine bodyPost_ret (v := .tuple #[m.v, .bool b]) ?_ ?_ ?_
  · obtain ⟨r0, r1, r2, r3, r4, r5, r6, r7⟩ := (storeL_box hz m).all
    simp [results, Tryz.f120, go_sem, h2, h3, r0, r1, r2, r3, r4, r5, r6, r7]
  · rfl
  · exact ⟨rfl, hB.trans (storeL_low W _ g hg m)⟩

set_option maxRecDepth 100000 in
set_option maxHeartbeats 2000000 in
theorem choice3_any {T : World → (Nat → Prop) → Nat → List LV → Prop} (K : TabK T) {w : World} {P : Nat → Prop} {g gt c : Nat} {q : QV} {L : List LV} (h : QT T w P g gt q L) (hc : w.cell? ⟨c, 0, none⟩ = some (ptE g)) :
    Calls Tryz.prog 120 #[ptE c] w fun e w' => e = .returned (.tuple #[((firstE (mayQ q) L L).getD zeroL).v, .bool (firstE (mayQ q) L L).isSome]) ∧ Below w.heap.size w w' := by
  have HO := Lib.hid (fun W (hQ : QT T W P g gt q L) => K.all' hQ.t)
  have hlen : L.length ≤ 1000 := by have := K.few h.t; omega
  have hw32 : ∀ x ∈ L, x.addr < 4294967296 := fun x hx => h.w32 x (hx)
  have HF := Lib.hid (fun W A c (hQ : QT T W P g gt q L) (hE : El ElemL W W.heap.size A L) => qfirst_any (c := c) K hQ hE hw32 hlen (f := 119) (pre := #[ptE g]) (p := mayQ q) (fun _ _ => rfl) (fun m W hW => qmay_any m hW.m))
  obtain ⟨w0, hw0⟩ : ∃ w0, w0 = w.alloc (.cells #[.int .u32 0, .int .i64 0, .string ⟨#[]⟩, .int .i64 0, .int .i64 0, .int .i64 0, .int .i64 0, .int .i64 0] 42) := ⟨_, rfl⟩
  have HZ : Hid (LBox w0 w.heap.size zeroL) := Lib.hid (by rw [hw0]; exact LBox.new w zeroL)
  have hb0 : Below w.heap.size w w0 := by rw [hw0]; exact (Below.refl _ _).alloc (Nat.le_refl _) _
  have HQ := Lib.hid (h.later K hb0)
  have HB := Lib.hid hb0
  have d0 : w0.cell? ⟨c, 0, none⟩ = some (ptE g) := (hb0.cell (block_lt_of_cell hc)).trans hc
  have N1 : Hid (c < w.heap.size) := Lib.hid (block_lt_of_cell hc)
  have N2 : Hid (g < w.heap.size) := Lib.hid h.m.lt
  have HW0 := Lib.hid hw0
  have HD := Lib.hid (HQ.out.drew K)
  obtain ⟨r, hr⟩ : ∃ r, r = firstE (mayQ q) L L := ⟨_, rfl⟩
  rw [← hr] at HF ⊢
  have c30 := HQ.out.m.c30
  rw [HQ.out.tp] at c30
  have HLK := Lib.hid (fun V (hb : Below w0.drew.heap.size w0.drew V) => HD.out.later K hb)
  clear hw0 h hc hb0 K hr hlen hw32
  go_enter Tryz.func120, Tryz.ntmps120
  go_upto_region 1 with fail
  rw [← HW0.out]
  have k0 : w0.drew.cell? ⟨c, 0, none⟩ = some (ptE g) := d0
  have k1 : w0.drew.cell? ⟨g, 30, none⟩ = some (ptE gt) := c30
  go_region_held3 (fun w' => w'.cell? ⟨c, 0, none⟩ = some (ptE g) ∧ w'.cell? ⟨g, 30, none⟩ = some (ptE gt)) (first | (with_reducible exact rz) | go_keep) (first
    | (go_at_call 121; (with_reducible refine (HO.out _ ?_).mono ?_); (with_reducible exact HD.out); rintro e w1 ⟨A1, c1, l1, rfl, HL1, hE1, -, hb1⟩; have HQ1 := Lib.hid (HLK.out _ hb1); have HB1 := Lib.hid (HB.out.drew.trans (hb1.mono HB.out.size)); have HZ1 := Lib.hid (LBox.later (w := w0.drew) HZ.out hb1); have el1 := HL1.out; subst el1; have HE1 := Lib.hid hE1; have i0 : w1.cell? ⟨c, 0, none⟩ = some (ptE g) := (hb1.cell (block_lt_of_cell k0)).trans k0; have i1 : w1.cell? ⟨g, 30, none⟩ = some (ptE gt) := (hb1.cell (block_lt_of_cell k1)).trans k1; clear hb1 hE1)
    | (go_at_call 116; (with_reducible refine (HF.out _ _ _ ?_ ?_).mono ?_); (with_reducible exact HQ1.out); (with_reducible exact HE1.out); rintro e w2 ⟨rfl, hb2⟩; have j0 : w2.cell? ⟨c, 0, none⟩ = some (ptE g) := (hb2.cell (block_lt_of_cell i0)).trans i0; have j1 : w2.cell? ⟨g, 30, none⟩ = some (ptE gt) := (hb2.cell (block_lt_of_cell i1)).trans i1; have rz : (storeL w2 w.heap.size (r.getD zeroL)).cell? ⟨c, 0, none⟩ = some (ptE g) ∧ (storeL w2 w.heap.size (r.getD zeroL)).cell? ⟨g, 30, none⟩ = some (ptE gt) := ⟨((storeL_low w2 _ _ (Nat.le_refl w.heap.size) _).cell N1.out).trans j0, ((storeL_low w2 _ _ (Nat.le_refl w.heap.size) _).cell N2.out).trans j1⟩; unfold storeL at rz; have HZZ := Lib.hid (HZ1.out.later hb2); have HBB := Lib.hid (HB1.out.trans (hb2.mono HB1.out.size)); clear hb2; obtain ⟨z0, z1, z2, z3, z4, z5, z6, z7⟩ := HZZ.out.all; obtain ⟨f0, f1, f2, f3, f4, f5, f6, f7⟩ := HZZ.out.allF))
  all_goals
    go_wp2
    exact choice3_end (W := w2) (m := r.getD zeroL) (b := r.isSome) HZZ.out HBB.out (Nat.le_refl _) rfl rfl

theorem choice1_end {w W : World} {g : Nat} {z m : LV} {b : Bool} {t : Array Value} (hz : LBox W g z) (hB : Below w.heap.size w W) (hg : w.heap.size ≤ g) (h2 : t[1]?.getD undef = .pointer (some ⟨g, 0, none⟩)) (h3 : t[2]?.getD undef = .bool b) :
    bodyPost Tryz.prog Tryz.f115 (fun e w' => e = .returned (.tuple #[m.v, .bool b]) ∧ Below w.heap.size w w') .ret { tmps := t, defers := [] } (storeL W g m) := by
  refine bodyPost_ret (v := .tuple #[m.v, .bool b]) ?_ ?_ ?_
  · obtain ⟨r0, r1, r2, r3, r4, r5, r6, r7⟩ := (storeL_box hz m).all
    simp [results, Tryz.f115, go_sem, h2, h3, r0, r1, r2, r3, r4, r5, r6, r7]
  · rfl
  · exact ⟨rfl, hB.trans (storeL_low W _ g hg m)⟩

set_option maxRecDepth 100000 in
set_option maxHeartbeats 2000000 in
theorem choice1_any {T : World → (Nat → Prop) → Nat → List LV → Prop} (K : TabK T) {w : World} {P : Nat → Prop} {g gt c : Nat} {q : QV} {L : List LV} (h : QT T w P g gt q L) (hc : w.cell? ⟨c, 0, none⟩ = some (ptE g)) :
    Calls Tryz.prog 115 #[ptE c] w fun e w' => e = .returned (.tuple #[((firstE (hasE q) L (ofL L q.cl)).getD zeroL).v, .bool (firstE (hasE q) L (ofL L q.cl)).isSome]) ∧ Below w.heap.size w w' := by
  have HO := Lib.hid (fun W (hQ : QT T W P g gt q L) => (K.of' ⟨q.cl.toArray⟩ hQ.t : Calls Tryz.prog 117 #[.pointer (some ⟨gt, 0, none⟩), .string ⟨q.cl.toArray⟩] W (GivesTt W (ofL L q.cl))))
  obtain ⟨M, hM⟩ : ∃ M, M = (ofL L q.cl) := ⟨_, rfl⟩
  rw [← hM] at HO ⊢
  have hlen : M.length ≤ 1000 := by have := K.few h.t; have := of_len L q.cl; rw [hM]; omega
  have hw32 : ∀ x ∈ M, x.addr < 4294967296 := fun x hx => h.w32 x (of_sub (hM ▸ hx))
  have HF := Lib.hid (fun W A c (hQ : QT T W P g gt q L) (hE : El ElemL W W.heap.size A M) => qfirst_any (c := c) K hQ hE hw32 hlen (f := 80) (pre := #[ptE g]) (p := hasE q) (fun _ _ => rfl) (fun m W hW => qhas_any m hW.m))
  obtain ⟨w0, hw0⟩ : ∃ w0, w0 = w.alloc (.cells #[.int .u32 0, .int .i64 0, .string ⟨#[]⟩, .int .i64 0, .int .i64 0, .int .i64 0, .int .i64 0, .int .i64 0] 42) := ⟨_, rfl⟩
  have HZ : Hid (LBox w0 w.heap.size zeroL) := Lib.hid (by rw [hw0]; exact LBox.new w zeroL)
  have hb0 : Below w.heap.size w w0 := by rw [hw0]; exact (Below.refl _ _).alloc (Nat.le_refl _) _
  have HQ := Lib.hid (h.later K hb0)
  have HB := Lib.hid hb0
  have d0 : w0.cell? ⟨c, 0, none⟩ = some (ptE g) := (hb0.cell (block_lt_of_cell hc)).trans hc
  have N1 : Hid (c < w.heap.size) := Lib.hid (block_lt_of_cell hc)
  have N2 : Hid (g < w.heap.size) := Lib.hid h.m.lt
  have HW0 := Lib.hid hw0
  have HD := Lib.hid (HQ.out.drew K)
  obtain ⟨r, hr⟩ : ∃ r, r = firstE (hasE q) L M := ⟨_, rfl⟩
  rw [← hr] at HF ⊢
  have c30 := HQ.out.m.c30
  rw [HQ.out.tp] at c30
  have HLK := Lib.hid (fun V (hb : Below w0.drew.heap.size w0.drew V) => HD.out.later K hb)
  clear hw0 h hc hb0 K hr hlen hw32 hM
  go_enter Tryz.func115, Tryz.ntmps115
  go_upto_region 1 with fail
  rw [← HW0.out]
  have k0 : w0.drew.cell? ⟨c, 0, none⟩ = some (ptE g) := d0
  have k1 : w0.drew.cell? ⟨g, 30, none⟩ = some (ptE gt) := c30
  have k2 : w0.drew.cell? ⟨g, 27, none⟩ = some (.string ⟨q.cl.toArray⟩) := HQ.out.m.c27
  go_region_held3 (fun w' => w'.cell? ⟨c, 0, none⟩ = some (ptE g) ∧ w'.cell? ⟨g, 30, none⟩ = some (ptE gt) ∧ w'.cell? ⟨g, 27, none⟩ = some (.string ⟨q.cl.toArray⟩)) (first | (with_reducible exact rz) | go_keep) (first
    | (go_at_call 117; (with_reducible refine (HO.out _ ?_).mono ?_); (with_reducible exact HD.out); rintro e w1 ⟨A1, c1, l1, rfl, HL1, hE1, -, hb1⟩; have HQ1 := Lib.hid (HLK.out _ hb1); have HB1 := Lib.hid (HB.out.drew.trans (hb1.mono HB.out.size)); have HZ1 := Lib.hid (LBox.later (w := w0.drew) HZ.out hb1); have el1 := HL1.out; subst el1; have HE1 := Lib.hid hE1; have i0 : w1.cell? ⟨c, 0, none⟩ = some (ptE g) := (hb1.cell (block_lt_of_cell k0)).trans k0; have i1 : w1.cell? ⟨g, 30, none⟩ = some (ptE gt) := (hb1.cell (block_lt_of_cell k1)).trans k1; have i2 : w1.cell? ⟨g, 27, none⟩ = some (.string ⟨q.cl.toArray⟩) := (hb1.cell (block_lt_of_cell k2)).trans k2; clear hb1 hE1)
    | (go_at_call 116; (with_reducible refine (HF.out _ _ _ ?_ ?_).mono ?_); (with_reducible exact HQ1.out); (with_reducible exact HE1.out); rintro e w2 ⟨rfl, hb2⟩; have j0 : w2.cell? ⟨c, 0, none⟩ = some (ptE g) := (hb2.cell (block_lt_of_cell i0)).trans i0; have j1 : w2.cell? ⟨g, 30, none⟩ = some (ptE gt) := (hb2.cell (block_lt_of_cell i1)).trans i1; have j2 : w2.cell? ⟨g, 27, none⟩ = some (.string ⟨q.cl.toArray⟩) := (hb2.cell (block_lt_of_cell i2)).trans i2; have rz : (storeL w2 w.heap.size (r.getD zeroL)).cell? ⟨c, 0, none⟩ = some (ptE g) ∧ (storeL w2 w.heap.size (r.getD zeroL)).cell? ⟨g, 30, none⟩ = some (ptE gt) ∧ (storeL w2 w.heap.size (r.getD zeroL)).cell? ⟨g, 27, none⟩ = some (.string ⟨q.cl.toArray⟩) := ⟨((storeL_low w2 _ _ (Nat.le_refl w.heap.size) _).cell N1.out).trans j0, ((storeL_low w2 _ _ (Nat.le_refl w.heap.size) _).cell N2.out).trans j1, ((storeL_low w2 _ _ (Nat.le_refl w.heap.size) _).cell N2.out).trans j2⟩; unfold storeL at rz; have HZZ := Lib.hid (HZ1.out.later hb2); have HBB := Lib.hid (HB1.out.trans (hb2.mono HB1.out.size)); clear hb2; obtain ⟨z0, z1, z2, z3, z4, z5, z6, z7⟩ := HZZ.out.all; obtain ⟨f0, f1, f2, f3, f4, f5, f6, f7⟩ := HZZ.out.allF))
  all_goals
    go_wp2
    exact choice1_end (W := w2) (m := r.getD zeroL) (b := r.isSome) HZZ.out HBB.out (Nat.le_refl _) rfl rfl
end Go.Proofs.YtmaohnbddlccdaaGreat
end

/- engine: choice. (Written by wip/tools/genengf.py.) -/
section
namespace Go.Proofs.YtmaohnbddlccdaaGreat
open Go.RowKit Go.Sort

/-- The address that is offered. -/
def chooseQ (q : QV) (L : List LV) : Option LV := (firstE (hasE q) L (ofL L q.cl)).or ((atE (mayQ q) L q.ad).or (firstE (mayQ q) L L))

theorem choice_end {w W : World} {g : Nat} {z m : LV} {b : Bool} {t : Array Value} (hz : LBox W g z) (hB : Below w.heap.size w W) (hg : w.heap.size ≤ g) (h2 : t[2]?.getD undef = .pointer (some ⟨g, 0, none⟩)) (h3 : t[3]?.getD undef = .bool b) :
    bodyPost Tryz.prog Tryz.f72 (fun e w' => e = .returned (.tuple #[m.v, .bool b]) ∧ Below w.heap.size w w') .ret { tmps := t, defers := [] } (storeL W g m) := by
  refine bodyPost_ret (v := .tuple #[m.v, .bool b]) ?_ ?_ ?_
  · obtain ⟨r0, r1, r2, r3, r4, r5, r6, r7⟩ := (storeL_box hz m).all
    simp [results, Tryz.f72, go_sem, h2, h3, r0, r1, r2, r3, r4, r5, r6, r7]
  · rfl
  · exact ⟨rfl, hB.trans (storeL_low W _ g hg m)⟩

/-- A closure over the query's pointer. -/
abbrev cloE (f c : Nat) : Value := .func (.func f) #[] #[.pointer (some ⟨c, 0, none⟩)]

set_option maxRecDepth 100000 in
set_option maxHeartbeats 4000000 in
theorem choice_any {T : World → (Nat → Prop) → Nat → List LV → Prop} (K : TabK T) {w : World} {P : Nat → Prop} {g gt : Nat} {q : QV} {L : List LV} (h : QT T w P g gt q L) (ha : q.ad < 4294967296) :
    Calls Tryz.prog 72 #[ptE g] w fun e w' => e = .returned (.tuple #[((chooseQ q L).getD zeroL).v, .bool (chooseQ q L).isSome]) ∧ Below w.heap.size w w' := by
  obtain ⟨c, hc⟩ : ∃ c, c = w.heap.size := ⟨_, rfl⟩
  obtain ⟨w3, hw3⟩ : ∃ w3, w3 = ((w.alloc (.cells #[ptE g] 74)).alloc (.cells #[.int .u32 0, .int .i64 0, .string ⟨#[]⟩, .int .i64 0, .int .i64 0, .int .i64 0, .int .i64 0, .int .i64 0] 42)).alloc (.cells #[cloE 115 c, cloE 118 c, cloE 120 c] 111) := ⟨_, rfl⟩
  have e1 : (w.alloc (.cells #[ptE g] 74)).heap.size = c + 1 := by rw [hc]; simp
  have e2 : ((w.alloc (.cells #[ptE g] 74)).alloc (.cells #[.int .u32 0, .int .i64 0, .string ⟨#[]⟩, .int .i64 0, .int .i64 0, .int .i64 0, .int .i64 0, .int .i64 0] 42)).heap.size = c + 1 + 1 := by rw [hc]; simp
  have HB : Hid (Below w.heap.size w w3) := Lib.hid (by rw [hw3]; exact (((Below.refl _ _).alloc (Nat.le_refl _) _).alloc (by simp) _).alloc (by simp; omega) _)
  have hz3 : LBox w3 (c + 1) zeroL := by
    rw [hw3]
    have h1 := LBox.new (w.alloc (.cells #[ptE g] 74)) zeroL
    rw [e1] at h1
    exact h1.alloc _
  have hb3 : w3.heap[c]? = some (.cells #[ptE g] 74 (0, 0)) := by
    have h1 : (w.alloc (.cells #[ptE g] 74)).heap[w.heap.size]? = some (.cells #[ptE g] 74 (0, 0)) := heap_alloc_new w _
    rw [← hc] at h1
    rw [hw3]
    have hq : Below (c + 1) (w.alloc (.cells #[ptE g] 74)) (((w.alloc (.cells #[ptE g] 74)).alloc (.cells #[.int .u32 0, .int .i64 0, .string ⟨#[]⟩, .int .i64 0, .int .i64 0, .int .i64 0, .int .i64 0, .int .i64 0] 42)).alloc (.cells #[cloE 115 c, cloE 118 c, cloE 120 c] 111)) := ((Below.refl _ _).alloc (by rw [e1]; exact Nat.le_refl _) _).alloc (by rw [e2]; omega) _
    exact (hq.block c (by omega)).trans h1
  have ha3 : w3.heap[c + 1 + 1]? = some (.cells #[cloE 115 c, cloE 118 c, cloE 120 c] 111 (0, 0)) := by
    rw [hw3]
    have h1 := heap_alloc_new ((w.alloc (.cells #[ptE g] 74)).alloc (.cells #[.int .u32 0, .int .i64 0, .string ⟨#[]⟩, .int .i64 0, .int .i64 0, .int .i64 0, .int .i64 0, .int .i64 0] 42)) (.cells #[cloE 115 c, cloE 118 c, cloE 120 c] 111)
    rw [e2] at h1
    exact h1
  have HZ := Lib.hid hz3
  have HQ := Lib.hid (h.later K HB.out)
  have HC0 := Lib.hid (fun (V : World) (hv : Below w3.heap.size w3 V) => (cell_of_row V c 0 _ _ _ ((hv.block c (Array.getElem?_eq_some_iff.1 hb3).1).trans hb3) : V.cell? ⟨c, 0, none⟩ = some (ptE g)))
  have HA0 := Lib.hid (fun (V : World) (hv : Below w3.heap.size w3 V) => (cell_of_row V (c + 1 + 1) 0 _ _ _ ((hv.block (c + 1 + 1) (Array.getElem?_eq_some_iff.1 ha3).1).trans ha3) : V.cell? ⟨c + 1 + 1, 0, none⟩ = some (cloE 115 c)))
  have HA1 := Lib.hid (fun (V : World) (hv : Below w3.heap.size w3 V) => (cell_of_row V (c + 1 + 1) 1 _ _ _ ((hv.block (c + 1 + 1) (Array.getElem?_eq_some_iff.1 ha3).1).trans ha3) : V.cell? ⟨c + 1 + 1, 1, none⟩ = some (cloE 118 c)))
  have HA2 := Lib.hid (fun (V : World) (hv : Below w3.heap.size w3 V) => (cell_of_row V (c + 1 + 1) 2 _ _ _ ((hv.block (c + 1 + 1) (Array.getElem?_eq_some_iff.1 ha3).1).trans ha3) : V.cell? ⟨c + 1 + 1, 2, none⟩ = some (cloE 120 c)))
  have HLK := Lib.hid (fun (V : World) (hv : Below w3.heap.size w3 V) => HQ.out.later K hv)
  have H1 := Lib.hid (fun V (hQ : QT T V P g gt q L) (hc : V.cell? ⟨c, 0, none⟩ = some (ptE g)) => choice1_any K hQ hc)
  have H2 := Lib.hid (fun V (hQ : QT T V P g gt q L) (hc : V.cell? ⟨c, 0, none⟩ = some (ptE g)) => choice2_any K hQ ha hc)
  have H3 := Lib.hid (fun V (hQ : QT T V P g gt q L) (hc : V.cell? ⟨c, 0, none⟩ = some (ptE g)) => choice3_any K hQ hc)
  obtain ⟨r, hr⟩ : ∃ r, r = chooseQ q L := ⟨_, rfl⟩
  rw [← hr]
  unfold chooseQ at hr
  generalize firstE (hasE q) L (ofL L q.cl) = r1 at *
  generalize atE (mayQ q) L q.ad = r2 at *
  generalize firstE (mayQ q) L L = r3 at *
  have HR := Lib.hid hr
  have HW3 := Lib.hid hw3
  have HC := Lib.hid hc
  clear hw3 hc e1 e2 hz3 hb3 ha3 h hr K
  go_enter Tryz.func72, Tryz.ntmps72
  go_upto_region 2 with fail
  rw [← HC.out, ← HW3.out]
  go_wp2
  go_loopw [15] (fun i wr => ∃ j : Nat, j ≤ 3 ∧ i = .int .i64 (j : Int) ∧ Hid ((1 ≤ j → r1 = none) ∧ (2 ≤ j → r2 = none) ∧ (3 ≤ j → r3 = none)) ∧ Hid (Below w3.heap.size w3 wr)) (fun i _ => 3 - (intOf i).toNat)
  case atStart => exact ⟨0, by omega, rfl, Lib.hid ⟨fun h => by omega, fun h => by omega, fun h => by omega⟩, Lib.hid (Below.refl _ _)⟩
  case round =>
    obtain ⟨j, hj, rfl, HN, HV⟩ := hrel
    rename_i wr
    have HBV := Lib.hid (HB.out.trans (HV.out.mono HB.out.size))
    rcases (show j = 0 ∨ j = 1 ∨ j = 2 ∨ j = 3 by omega) with rfl | rfl | rfl | rfl
    · have a0 := HA0.out wr HV.out
      have HCC := Lib.hid (H1.out wr (HLK.out wr HV.out) (HC0.out wr HV.out))
      rcases (show r1 = none ∨ ∃ m, r1 = some m by cases r1 <;> simp) with hr1 | ⟨m, hr1⟩
      · rw [hr1] at HCC
        have HN2 : Hid ((1 ≤ 1 → r1 = none) ∧ (2 ≤ 1 → r2 = none) ∧ (3 ≤ 1 → r3 = none)) := Lib.hid ⟨fun h => by exact hr1, fun h => by exfalso; omega, fun h => by exfalso; omega⟩
        clear hr1
        go_wp2_with fail
        refine HCC.out.mono ?_
        rintro e w4 ⟨rfl, hb4⟩
        have h4 := HV.out.trans (hb4.mono HV.out.size)
        have HV2 := Lib.hid (h4.alloc h4.size (lbox zeroL))
        clear hb4 h4 a0
        go_wp2
        go_roundw
        case rel => exact ⟨1, by omega, by go_num, HN2, HV2⟩
        case measure => simp [intOf]
      · rw [hr1] at HCC
        have er : r = some m := by
          rw [HR.out, hr1]
          rfl
        subst er
        clear hr1
        go_wp2_with fail
        refine HCC.out.mono ?_
        rintro e w4 ⟨rfl, hb4⟩
        have HX2 := Lib.hid (LBox.new w4 m)
        have h4 := HV.out.trans (hb4.mono HV.out.size)
        have HZ2 := Lib.hid ((HZ.out.later h4).alloc (lbox m))
        have h5 := HB.out.trans (h4.mono HB.out.size)
        have HB3 := Lib.hid (h5.alloc h5.size (lbox m))
        clear hb4 h4 h5 a0
        obtain ⟨z0, z1, z2, z3, z4, z5, z6, z7⟩ := HZ2.out.all
        obtain ⟨f0, f1, f2, f3, f4, f5, f6, f7⟩ := HZ2.out.allF
        obtain ⟨x0, x1, x2, x3, x4, x5, x6, x7⟩ := HX2.out.all
        go_wp2
        refine choice_end (w := w) (W := w4.alloc (lbox m)) (g := c + 1) (z := zeroL) (m := m) (b := true) HZ2.out HB3.out (by have := HC.out; omega) ?_ ?_ <;> rfl
    · have a0 := HA1.out wr HV.out
      have HCC := Lib.hid (H2.out wr (HLK.out wr HV.out) (HC0.out wr HV.out))
      rcases (show r2 = none ∨ ∃ m, r2 = some m by cases r2 <;> simp) with hr2 | ⟨m, hr2⟩
      · rw [hr2] at HCC
        have HN2 : Hid ((1 ≤ 2 → r1 = none) ∧ (2 ≤ 2 → r2 = none) ∧ (3 ≤ 2 → r3 = none)) := Lib.hid ⟨fun h => by exact HN.out.1 (by omega), fun h => by exact hr2, fun h => by exfalso; omega⟩
        clear hr2
        go_wp2_with fail
        refine HCC.out.mono ?_
        rintro e w4 ⟨rfl, hb4⟩
        have h4 := HV.out.trans (hb4.mono HV.out.size)
        have HV2 := Lib.hid (h4.alloc h4.size (lbox zeroL))
        clear hb4 h4 a0
        go_wp2
        go_roundw
        case rel => exact ⟨2, by omega, by go_num, HN2, HV2⟩
        case measure => simp [intOf]
      · rw [hr2] at HCC
        have er : r = some m := by
          rw [HR.out, hr2, HN.out.1 (by omega)]
          rfl
        subst er
        clear hr2
        go_wp2_with fail
        refine HCC.out.mono ?_
        rintro e w4 ⟨rfl, hb4⟩
        have HX2 := Lib.hid (LBox.new w4 m)
        have h4 := HV.out.trans (hb4.mono HV.out.size)
        have HZ2 := Lib.hid ((HZ.out.later h4).alloc (lbox m))
        have h5 := HB.out.trans (h4.mono HB.out.size)
        have HB3 := Lib.hid (h5.alloc h5.size (lbox m))
        clear hb4 h4 h5 a0
        obtain ⟨z0, z1, z2, z3, z4, z5, z6, z7⟩ := HZ2.out.all
        obtain ⟨f0, f1, f2, f3, f4, f5, f6, f7⟩ := HZ2.out.allF
        obtain ⟨x0, x1, x2, x3, x4, x5, x6, x7⟩ := HX2.out.all
        go_wp2
        refine choice_end (w := w) (W := w4.alloc (lbox m)) (g := c + 1) (z := zeroL) (m := m) (b := true) HZ2.out HB3.out (by have := HC.out; omega) ?_ ?_ <;> rfl
    · have a0 := HA2.out wr HV.out
      have HCC := Lib.hid (H3.out wr (HLK.out wr HV.out) (HC0.out wr HV.out))
      rcases (show r3 = none ∨ ∃ m, r3 = some m by cases r3 <;> simp) with hr3 | ⟨m, hr3⟩
      · rw [hr3] at HCC
        have HN2 : Hid ((1 ≤ 3 → r1 = none) ∧ (2 ≤ 3 → r2 = none) ∧ (3 ≤ 3 → r3 = none)) := Lib.hid ⟨fun h => by exact HN.out.1 (by omega), fun h => by exact HN.out.2.1 (by omega), fun h => by exact hr3⟩
        clear hr3
        go_wp2_with fail
        refine HCC.out.mono ?_
        rintro e w4 ⟨rfl, hb4⟩
        have h4 := HV.out.trans (hb4.mono HV.out.size)
        have HV2 := Lib.hid (h4.alloc h4.size (lbox zeroL))
        clear hb4 h4 a0
        go_wp2
        go_roundw
        case rel => exact ⟨3, by omega, by go_num, HN2, HV2⟩
        case measure => simp [intOf]
      · rw [hr3] at HCC
        have er : r = some m := by
          rw [HR.out, hr3, HN.out.1 (by omega), HN.out.2.1 (by omega)]
          rfl
        subst er
        clear hr3
        go_wp2_with fail
        refine HCC.out.mono ?_
        rintro e w4 ⟨rfl, hb4⟩
        have HX2 := Lib.hid (LBox.new w4 m)
        have h4 := HV.out.trans (hb4.mono HV.out.size)
        have HZ2 := Lib.hid ((HZ.out.later h4).alloc (lbox m))
        have h5 := HB.out.trans (h4.mono HB.out.size)
        have HB3 := Lib.hid (h5.alloc h5.size (lbox m))
        clear hb4 h4 h5 a0
        obtain ⟨z0, z1, z2, z3, z4, z5, z6, z7⟩ := HZ2.out.all
        obtain ⟨f0, f1, f2, f3, f4, f5, f6, f7⟩ := HZ2.out.allF
        obtain ⟨x0, x1, x2, x3, x4, x5, x6, x7⟩ := HX2.out.all
        go_wp2
        refine choice_end (w := w) (W := w4.alloc (lbox m)) (g := c + 1) (z := zeroL) (m := m) (b := true) HZ2.out HB3.out (by have := HC.out; omega) ?_ ?_ <;> rfl
    · have er : r = none := by
        rw [HR.out, HN.out.1 (by omega), HN.out.2.1 (by omega), HN.out.2.2 (by omega)]
        rfl
      subst er
      have HZ2 := Lib.hid (HZ.out.later HV.out)
      obtain ⟨z0, z1, z2, z3, z4, z5, z6, z7⟩ := HZ2.out.all
      obtain ⟨f0, f1, f2, f3, f4, f5, f6, f7⟩ := HZ2.out.allF
      go_wp2
      refine choice_end (w := w) (W := wr) (g := c + 1) (z := zeroL) (m := zeroL) (b := false) HZ2.out HBV.out (by have := HC.out; omega) ?_ ?_ <;> rfl
end Go.Proofs.YtmaohnbddlccdaaGreat
end
