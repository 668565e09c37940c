/- Joined texts: EngC, EngD. -/
import Derived.Test.YtmaohnbddlccdaaGreatMrgEngP
import Derived.Test.YtmaohnbddlccdaaGreatMrgTabN
import Derived.Test.YtmaohnbddlccdaaGreatMrgAddrI
import Derived.Deep.RegionLaw

/- engine: the query and its table; at (the lease of an address, if a test holds of it). -/
section
namespace Go.Proofs.YtmaohnbddlccdaaGreat
open Go.RowKit Go.Sort

/-- A query, its table and its pool. -/
structure QT (T : World → (Nat → Prop) → Nat → List LV → Prop) (w : World) (P : Nat → Prop) (g gt : Nat) (q : QV) (L : List LV) : Prop where
  m : QM w g q
  t : T w P gt L
  rg : Rg w w.heap.size q.A q.ol
  tp : q.tp = some ⟨gt, 0, none⟩
  len : q.ol.length ≤ 1000
  has : ∀ x ∈ L, x.addr ∈ (addrsOf q.ol).take 257
  w32 : ∀ x ∈ L, x.addr < 4294967296
section
variable {T : World → (Nat → Prop) → Nat → List LV → Prop} {w w' : World} {P : Nat → Prop} {g gt : Nat} {q : QV} {L : List LV}
theorem QT.later (K : TabK T) (h : QT T w P g gt q L) (hb : Below w.heap.size w w') : QT T w' P g gt q L :=
  ⟨h.m.later hb, K.later h.t hb, (h.rg.below hb).more hb.size, h.tp, h.len, h.has, h.w32⟩
theorem QT.alloc (K : TabK T) (h : QT T w P g gt q L) (o : Obj) : QT T (w.alloc o) P g gt q L := h.later K ((Below.refl _ _).alloc (Nat.le_refl _) o)
end

/-- What at finds. -/
def atE (p : LV → Bool) (L : List LV) (a : Nat) : Option LV := (lookE L a).filter p
theorem getL_look (L : List LV) (a : Nat) : getL L a = match lookE L a with | none => (zeroL, 4) | some m => (m, 0) := rfl
theorem look_mem {L : List LV} {a : Nat} {m : LV} (h : lookE L a = some m) : m ∈ L ∧ m.addr = a :=
  ⟨List.mem_of_find?_eq_some h, by simpa using List.find?_some (p := fun y : LV => y.addr == a) h⟩

theorem qat_end {w W : World} {g : Nat} {z m : LV} {b : Bool} {t : Array Value} (hz : LBox W g z) (hB : Below w.heap.size w W) (hg : w.heap.size ≤ g) (h2 : t[6]?.getD undef = .pointer (some ⟨g, 0, none⟩)) (h3 : t[7]?.getD undef = .bool b) :
    bodyPost Tryz.prog Tryz.f76 (fun e w' => e = .returned (.tuple #[m.v, .bool b]) ∧ Below w.heap.size w w') .ret { tmps := t, defers := [] } (storeL W g m) := by
  refine bodyPost_ret (v := .tuple #[m.v, .bool b]) ?_ ?_ ?_
  · obtain ⟨r0, r1, r2, r3, r4, r5, r6, r7⟩ := (storeL_box hz m).all
    simp [results, Tryz.f76, go_sem, h2, h3, r0, r1, r2, r3, r4, r5, r6, r7]
  · rfl
  · exact ⟨rfl, hB.trans (storeL_low W _ g hg m)⟩

set_option maxRecDepth 100000 in
set_option maxHeartbeats 2000000 in
theorem qat_any {T : World → (Nat → Prop) → Nat → List LV → Prop} (K : TabK T) {w : World} {P : Nat → Prop} {g gt : Nat} {q : QV} {L : List LV} (h : QT T w P g gt q L) (a : Nat) (ha : a < 4294967296) {f : FuncId} {pre : Array Value} {p : LV → Bool}
    (hen : ∀ args W, (callFunc f args).run Tryz.prog W = .ok (.enter f args) W) (hp : ∀ m W, QT T W P g gt q L → Calls Tryz.prog f (pre.push m.v) W fun e W' => e = .returned (.bool (p m)) ∧ Below W.heap.size W W') :
    Calls Tryz.prog 76 #[ptE g, .int .u32 (a : Int), .func (.func f) pre #[]] w fun e w' => e = .returned (.tuple #[((atE p L a).getD zeroL).v, .bool (atE p L a).isSome]) ∧ Below w.heap.size w w' := by
  obtain ⟨w0, hw0⟩ : ∃ w0, w0 = w.alloc (.cells #[.int .u32 0, .int .i64 0, .string ⟨#[]⟩, .int .i64 0, .int .i64 0, .int .i64 0, .int .i64 0, .int .i64 0] 42) := ⟨_, rfl⟩
  have HZ : Hid (LBox w0 w.heap.size zeroL) := Lib.hid (by rw [hw0]; exact LBox.new w zeroL)
  have HQ : Hid (QT T w0 P g gt q L) := Lib.hid (by rw [hw0]; exact h.alloc K _)
  have HB : Hid (Below w.heap.size w w0) := Lib.hid (by rw [hw0]; exact (Below.refl _ _).alloc (Nat.le_refl _) _)
  have HW0 := Lib.hid hw0
  have HK := Lib.hid K
  have HP := Lib.hid hp
  clear hw0 h hp
  have c30 := HQ.out.m.c30
  rw [HQ.out.tp] at c30
  have HG := Lib.hid (K.get a HQ.out.t ha)
  rw [getL_look] at HG
  unfold atE
  clear K
  cases hl : lookE L a with
  | none =>
    rw [hl] at HG
    clear hl
    go_enter Tryz.func76, Tryz.ntmps76
    go_upto_region 1 with fail
    rw [← HW0.out]
    go_wp2_with fail
    refine HG.out.mono ?_
    rintro e w1 ⟨rfl, hb1⟩
    have HZ1 := Lib.hid ((HZ.out.later hb1).alloc (lbox zeroL))
    have HB1 := Lib.hid ((HB.out.trans (hb1.mono HB.out.size)).alloc (HB.out.trans (hb1.mono HB.out.size)).size (lbox zeroL))
    clear hb1 c30
    obtain ⟨z0, z1, z2, z3, z4, z5, z6, z7⟩ := HZ1.out.all
    obtain ⟨f0, f1, f2, f3, f4, f5, f6, f7⟩ := HZ1.out.allF
    go_wp2
    refine qat_end (w := w) (W := w1.alloc (lbox zeroL)) (g := w.heap.size) (z := zeroL) (m := zeroL) (b := false) HZ1.out HB1.out (Nat.le_refl _) ?_ ?_ <;> rfl
  | some m =>
    rw [hl] at HG
    have HM := Lib.hid (look_mem hl)
    have HX := Lib.hid (fun W A c (hW : Rg W W.heap.size A q.ol) => index_any A c q.ol a (by have := HQ.out.len; omega) W hW)
    have hix : decide (idxL ((addrsOf q.ol).take 257) a < 0) = false := by
      refine decide_eq_false ?_
      have h1 := HQ.out.has m HM.out.1
      rw [HM.out.2] at h1
      unfold idxL
      rw [if_pos h1]
      omega
    clear hl
    generalize idxL ((addrsOf q.ol).take 257) a = ix at *
    have HPM := Lib.hid (HP.out m)
    rw [show (some m).filter p = if p m = true then some m else none from by cases hpm : p m <;> simp [Option.filter, hpm]]
    cases hpm : p m
    · rw [hpm] at HPM
      go_enter Tryz.func76, Tryz.ntmps76
      go_upto_region 1 with fail
      rw [← HW0.out]
      go_wp2_with fail
      refine HG.out.mono ?_
      rintro e w1 ⟨rfl, hb1⟩
      have hbb : Below w1.heap.size w1 (w1.alloc (lbox m)) := (Below.refl _ _).alloc (Nat.le_refl _) _
      have HX1 := Lib.hid (LBox.new w1 m)
      have HZ1 := Lib.hid ((HZ.out.later hb1).alloc (lbox m))
      have HQ1 := Lib.hid ((HQ.out.later HK.out hb1).alloc HK.out (lbox m))
      have HB1 := Lib.hid ((HB.out.trans (hb1.mono HB.out.size)).alloc (HB.out.trans (hb1.mono HB.out.size)).size (lbox m))
      clear hb1 hbb c30
      obtain ⟨x0, x1, x2, x3, x4, x5, x6, x7⟩ := HX1.out.all
      go_wp2_with fail
      refine (HPM.out _ HQ1.out).mono ?_
      rintro e w2 ⟨rfl, hb2⟩
      have HZ2 := Lib.hid (HZ1.out.later hb2)
      have HB2 := Lib.hid (HB1.out.trans (hb2.mono HB1.out.size))
      clear hb2 x0 x1 x2 x3 x4 x5 x6 x7
      obtain ⟨z0, z1, z2, z3, z4, z5, z6, z7⟩ := HZ2.out.all
      obtain ⟨f0, f1, f2, f3, f4, f5, f6, f7⟩ := HZ2.out.allF
      go_wp2
      refine qat_end (w := w) (W := w2) (g := w.heap.size) (z := zeroL) (m := zeroL) (b := false) HZ2.out HB2.out (Nat.le_refl _) ?_ ?_ <;> rfl
    · rw [hpm] at HPM
      go_enter Tryz.func76, Tryz.ntmps76
      go_upto_region 1 with fail
      rw [← HW0.out]
      go_wp2_with fail
      refine HG.out.mono ?_
      rintro e w1 ⟨rfl, hb1⟩
      have hbb : Below w1.heap.size w1 (w1.alloc (lbox m)) := (Below.refl _ _).alloc (Nat.le_refl _) _
      have HX1 := Lib.hid (LBox.new w1 m)
      have HZ1 := Lib.hid ((HZ.out.later hb1).alloc (lbox m))
      have HQ1 := Lib.hid ((HQ.out.later HK.out hb1).alloc HK.out (lbox m))
      have HB1 := Lib.hid ((HB.out.trans (hb1.mono HB.out.size)).alloc (HB.out.trans (hb1.mono HB.out.size)).size (lbox m))
      clear hb1 hbb c30
      obtain ⟨x0, x1, x2, x3, x4, x5, x6, x7⟩ := HX1.out.all
      go_wp2_with fail
      refine (HPM.out _ HQ1.out).mono ?_
      rintro e w2 ⟨rfl, hb2⟩
      have c13 := (HQ1.out.later HK.out hb2).m.c13
      have HX2 := Lib.hid (HX1.out.later hb2)
      have HZ2 := Lib.hid (HZ1.out.later hb2)
      have HQ2 := Lib.hid (HQ1.out.later HK.out hb2)
      have HB2 := Lib.hid (HB1.out.trans (hb2.mono HB1.out.size))
      clear hb2 x0 x1 x2 x3 x4 x5 x6 x7
      go_wp2_with fail
      refine (HX.out _ _ _ HQ2.out.rg).mono ?_
      rintro e w3 ⟨rfl, hb3⟩
      have HZ3 := Lib.hid (HZ2.out.later hb3)
      have HX3 := Lib.hid (HX2.out.later hb3)
      have HB3 := Lib.hid (HB2.out.trans (hb3.mono HB2.out.size))
      clear hb3 c13
      obtain ⟨z0, z1, z2, z3, z4, z5, z6, z7⟩ := HZ3.out.all
      obtain ⟨f0, f1, f2, f3, f4, f5, f6, f7⟩ := HZ3.out.allF
      obtain ⟨x0, x1, x2, x3, x4, x5, x6, x7⟩ := HX3.out.all
      go_wp2
      refine qat_end (w := w) (W := w3) (g := w.heap.size) (z := zeroL) (m := m) (b := true) HZ3.out HB3.out (Nat.le_refl _) ?_ ?_ <;> rfl
end Go.Proofs.YtmaohnbddlccdaaGreat
end

/- engine: first (the first of some leases that at finds). -/
section
namespace Go.Proofs.YtmaohnbddlccdaaGreat
open Go.RowKit Go.Sort

/-- What first finds. -/
def firstE (p : LV → Bool) (L M : List LV) : Option LV := M.findSome? fun x => atE p L x.addr

theorem qfirst_end {w W : World} {g : Nat} {z m : LV} {b : Bool} {t : Array Value} (hz : LBox W g z) (hB : Below w.heap.size w W) (hg : w.heap.size ≤ g) (h2 : t[6]?.getD undef = .pointer (some ⟨g, 0, none⟩)) (h3 : t[7]?.getD undef = .bool b) :
    bodyPost Tryz.prog Tryz.f116 (fun e w' => e = .returned (.tuple #[m.v, .bool b]) ∧ Below w.heap.size w w') .ret { tmps := t, defers := [] } (storeL W g m) := by
  refine bodyPost_ret (v := .tuple #[m.v, .bool b]) ?_ ?_ ?_
  · obtain ⟨r0, r1, r2, r3, r4, r5, r6, r7⟩ := (storeL_box hz m).all
    simp [results, Tryz.f116, go_sem, h2, h3, r0, r1, r2, r3, r4, r5, r6, r7]
  · rfl
  · exact ⟨rfl, hB.trans (storeL_low W _ g hg m)⟩

set_option maxRecDepth 100000 in
set_option maxHeartbeats 2000000 in
theorem qfirst_any {T : World → (Nat → Prop) → Nat → List LV → Prop} (K : TabK T) {w : World} {P : Nat → Prop} {g gt : Nat} {q : QV} {L : List LV} (h : QT T w P g gt q L) {A : Option Addr} {c : Nat} {M : List LV} (hM : El ElemL w w.heap.size A M) (hw : ∀ x ∈ M, x.addr < 4294967296) (hlen : M.length ≤ 1000) {f : FuncId} {pre : Array Value} {p : LV → Bool}
    (hen : ∀ args W, (callFunc f args).run Tryz.prog W = .ok (.enter f args) W) (hp : ∀ m W, QT T W P g gt q L → Calls Tryz.prog f (pre.push m.v) W fun e W' => e = .returned (.bool (p m)) ∧ Below W.heap.size W W') :
    Calls Tryz.prog 116 #[ptE g, .slice A M.length c, .func (.func f) pre #[]] w fun e w' => e = .returned (.tuple #[((firstE p L M).getD zeroL).v, .bool (firstE p L M).isSome]) ∧ Below w.heap.size w w' := by
  obtain ⟨w0, hw0⟩ : ∃ w0, w0 = w.alloc (.cells #[.int .u32 0, .int .i64 0, .string ⟨#[]⟩, .int .i64 0, .int .i64 0, .int .i64 0, .int .i64 0, .int .i64 0] 42) := ⟨_, rfl⟩
  have HZ : Hid (LBox w0 w.heap.size zeroL) := Lib.hid (by rw [hw0]; exact LBox.new w zeroL)
  have HB : Hid (Below w.heap.size w w0) := Lib.hid (by rw [hw0]; exact (Below.refl _ _).alloc (Nat.le_refl _) _)
  have HQ : Hid (QT T w0 P g gt q L) := Lib.hid (by rw [hw0]; exact h.alloc K _)
  have HE := Lib.hid hM
  have HW := Lib.hid hw
  have HW0 := Lib.hid hw0
  have HA := Lib.hid (fun W a (ha : a < 4294967296) (hQ : QT T W P g gt q L) => qat_any K hQ a ha hen hp)
  have HKK := Lib.hid K
  obtain ⟨r, hr⟩ : ∃ r, r = firstE p L M := ⟨_, rfl⟩
  rw [← hr]
  have HRR := Lib.hid hr
  clear hw0 h hp hM hw hen K hr
  go_enter Tryz.func116, Tryz.ntmps116
  go_upto_region 1 with fail
  rw [← HW0.out]
  go_wp2
  go_loopw [14] (fun i wr => ∃ j : Nat, j ≤ M.length ∧ i = .int .i64 (j : Int) ∧ Hid (∀ x ∈ M.take j, atE p L x.addr = none) ∧ Hid (Below w0.heap.size w0 wr)) (fun i _ => M.length - (intOf i).toNat)
  case atStart => exact ⟨0, Nat.zero_le _, rfl, Lib.hid (by simp), Lib.hid (Below.refl _ _)⟩
  case round =>
    obtain ⟨j, hj, rfl, HN, HR⟩ := hrel
    rename_i wr
    by_cases hlt : j < M.length
    · obtain ⟨x, hx⟩ : ∃ x, M[j]? = some x := ⟨_, List.getElem?_eq_getElem hlt⟩
      have HX := Lib.hid hx
      have HBR := Lib.hid (HB.out.trans (HR.out.mono HB.out.size))
      obtain ⟨b, o, rfl, hb, c0, c1, c2, c3, c4, c5, c6, c7⟩ := (HE.out.below HBR.out).at8 j x hx
      have hg : decide ((j : Int) < (M.length : Int)) = true := by simp; omega
      have hi1 : (j : Int) < (M.length : Int) := by omega
      have hxa := HW.out x (List.mem_of_getElem? hx)
      clear hx hb
      have HQR := Lib.hid ((HQ.out.later HKK.out HR.out).alloc HKK.out (lbox x))
      have HC := Lib.hid (HA.out _ x.addr hxa HQR.out)
      cases ha : atE p L x.addr with
      | none =>
        rw [ha] at HC
        have HN2 : Hid (∀ y ∈ M.take (j + 1), atE p L y.addr = none) := Lib.hid (by
          intro y hy
          rw [take_snoc_of M j x HX.out, List.mem_append, List.mem_singleton] at hy
          rcases hy with hy | rfl
          · exact HN.out y hy
          · exact ha)
        clear ha hxa
        go_wp2_with fail
        refine HC.out.mono ?_
        rintro e w2 ⟨rfl, hb2⟩
        have HR2 : Hid (Below w0.heap.size w0 (w2.alloc (lbox zeroL))) := Lib.hid (by
          have h1 := HR.out.alloc HR.out.size (lbox x)
          have h2 := h1.trans (hb2.mono h1.size)
          exact h2.alloc h2.size _)
        clear hb2 c0 c1 c2 c3 c4 c5 c6 c7
        go_wp2
        go_roundw
        case rel => exact ⟨j + 1, by omega, by go_num, HN2, HR2⟩
        case measure => simp [intOf]; omega
      | some m =>
        rw [ha] at HC
        have HRES : Hid (firstE p L M = some m) := Lib.hid (by
          unfold firstE
          rw [← List.take_append_drop j M, List.findSome?_append, List.findSome?_eq_none_iff.2 HN.out, List.drop_eq_getElem_cons hlt]
          have e : M[j] = x := by have h := HX.out; rw [List.getElem?_eq_getElem hlt] at h; injection h
          rw [e]
          simp [List.findSome?, ha])
        have er := HRR.out.trans HRES.out
        subst er
        clear ha hxa
        go_wp2_with fail
        refine HC.out.mono ?_
        rintro e w2 ⟨rfl, hb2⟩
        have h1 := HR.out.alloc HR.out.size (lbox x)
        have HR2 := Lib.hid (h1.trans (hb2.mono h1.size))
        have HZ2 := Lib.hid ((HZ.out.later HR2.out).alloc (lbox m))
        have HX2 := Lib.hid (LBox.new w2 m)
        have h3 := HR2.out.alloc HR2.out.size (lbox m)
        have HB3 := Lib.hid (HB.out.trans (h3.mono HB.out.size))
        clear hb2 h1 h3 c0 c1 c2 c3 c4 c5 c6 c7
        obtain ⟨z0, z1, z2, z3, z4, z5, z6, z7⟩ := HZ2.out.all
        obtain ⟨f0, f1, f2, f3, f4, f5, f6, f7⟩ := HZ2.out.allF
        obtain ⟨x0, x1, x2, x3, x4, x5, x6, x7⟩ := HX2.out.all
        go_wp2
        refine qfirst_end (w := w) (W := w2.alloc (lbox m)) (g := w.heap.size) (z := zeroL) (m := m) (b := true) HZ2.out HB3.out (Nat.le_refl _) ?_ ?_ <;> rfl
    · have hg : decide ((j : Int) < (M.length : Int)) = false := decide_eq_false (by omega)
      have HRES : Hid (firstE p L M = none) := Lib.hid (by
        unfold firstE
        rw [List.findSome?_eq_none_iff]
        intro x hx
        exact HN.out x (by rwa [List.take_of_length_le (by omega)]))
      have er := HRR.out.trans HRES.out
      subst er
      have HZ2 := Lib.hid (HZ.out.later HR.out)
      have HB3 := Lib.hid (HB.out.trans (HR.out.mono HB.out.size))
      obtain ⟨z0, z1, z2, z3, z4, z5, z6, z7⟩ := HZ2.out.all
      obtain ⟨f0, f1, f2, f3, f4, f5, f6, f7⟩ := HZ2.out.allF
      go_wp2
      refine qfirst_end (w := w) (W := wr) (g := w.heap.size) (z := zeroL) (m := zeroL) (b := false) HZ2.out HB3.out (Nat.le_refl _) ?_ ?_ <;> rfl
end Go.Proofs.YtmaohnbddlccdaaGreat
end
