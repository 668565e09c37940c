/- The document's table: Get, Set; lists of leases compared. -/
import Derived.Test.YtjkkdmfpekkfhaaTabM
namespace Go.Proofs.Ytjkkdmfpekkfhaa
open Go.RowKit Go.Sort
attribute [local go_sem ↓] run_eqlL run_neqL run_guardL

theorem get_idx {L : List LV} {a : Nat} : (idxT L a = none → getL L a = (zeroL, 4)) ∧ ∀ k x, idxT L a = some k → L[k]? = some x → getL L a = (x, 0) := by
  constructor
  · intro h
    unfold getL
    rw [List.find?_eq_none.2 fun x hx => ?_]
    simpa using idx_none h x hx
  · intro k x hk hx
    obtain ⟨h1, h2⟩ := List.getElem?_eq_some_iff.1 hx
    unfold idxT at hk
    obtain ⟨h3, h4, h5⟩ := List.findIdx?_eq_some_iff_getElem.1 hk
    unfold getL
    rw [List.find?_eq_some_iff_getElem.2 ⟨by rw [h2] at h4; exact h4, k, h1, h2, fun j hj => by simpa using h5 j hj⟩]
theorem idx_lt {L : List LV} {a k : Nat} (h : idxT L a = some k) : k < L.length := by
  obtain ⟨x, hx, _⟩ := idx_some h
  exact (List.getElem?_eq_some_iff.1 hx).1

theorem rget_end {w W : World} {g : Nat} {r : LV × Int} {q : LV} {k : Int} {t : Array Value} (hz : LBox W g zeroL) (hB : Below w.heap.size w W) (hg : w.heap.size ≤ g) (hD : r = (q, k)) (h2 : t[4]?.getD undef = .pointer (some ⟨g, 0, none⟩)) (h3 : t[5]?.getD undef = .int .i64 k) :
    bodyPost Try.prog Try.f12 (fun e w' => e = .returned (.tuple #[r.1.v, .int .i64 r.2]) ∧ Below w.heap.size w w') .ret { tmps := t, defers := [] } (storeL W g q) := by
  refine bodyPost_ret (v := .tuple #[q.v, .int .i64 k]) ?_ ?_ ?_
  · obtain ⟨r0, r1, r2, r3, r4, r5, r6, r7⟩ := (storeL_box hz q).all
    simp [results, Try.f12, go_sem, h2, h3, r0, r1, r2, r3, r4, r5, r6, r7]
  · rfl
  · rw [hD]
    exact ⟨rfl, hB.trans (storeL_low W _ g hg q)⟩

set_option maxRecDepth 100000 in
set_option maxHeartbeats 2000000 in
theorem rget_any {w0 w : World} {g : Nat} {v : Value} {L : List LV} (a : Nat) (h : RT w0 w g v L) (hL : L.length ≤ 100000) :
    Calls Try.prog 12 #[.pointer (some ⟨g, 0, none⟩), .int .u32 (a : Int)] w fun e w' => e = .returned (.tuple #[(getL L a).1.v, .int .i64 (getL L a).2]) ∧ Below w.heap.size w w' := by
  obtain ⟨w1, hw1⟩ : ∃ w1, w1 = w.alloc (.cells #[.int .u32 0, .int .i64 0, .string ⟨#[]⟩, .int .i64 0, .int .i64 0, .int .i64 0, .int .i64 0, .int .i64 0] 34) := ⟨_, rfl⟩
  have HZ : Hid (LBox w1 w.heap.size zeroL) := Lib.hid (by rw [hw1]; exact LBox.new w zeroL)
  have hB1 : Below w.heap.size w w1 := by rw [hw1]; exact (Below.refl _ _).alloc (Nat.le_refl _) _
  have HT := Lib.hid (h.later hB1)
  have HB1 := Lib.hid hB1
  have HW1 := Lib.hid hw1
  clear hw1 hB1 h
  obtain ⟨z0, z1, z2, z3, z4, z5, z6, z7⟩ := HZ.out.all
  obtain ⟨f0, f1, f2, f3, f4, f5, f6, f7⟩ := HZ.out.allF
  obtain ⟨A, c, -, c0, hlc, HE⟩ := HT.out.read
  have HE := Lib.hid HE
  have HG := Lib.hid (@get_idx L a)
  cases hk : idxT L a with
  | none =>
    have HD := Lib.hid (HG.out.1 hk)
    have HF := Lib.hid (rfind_any a HT.out hL)
    rw [hk] at HF
    have hm : decide ((-1 : Int) < 0) = true := by decide
    clear hk
    go_enter Try.func12, Try.ntmps12
    go_upto_region 1 with fail
    rw [← HW1.out]
    go_wp2_with fail
    refine HF.out.mono ?_
    rintro e w' ⟨rfl, rfl⟩
    simp only [idxI]
    go_wp2
    exact rget_end (q := zeroL) (W := w1) HZ.out HB1.out (Nat.le_refl _) HD.out rfl rfl
  | some k =>
    have hkl := idx_lt hk
    obtain ⟨x, hx, he⟩ := idx_some hk
    clear he
    have HD := Lib.hid (HG.out.2 k x hk hx)
    obtain ⟨b, o, rfl, hb, x0, x1, x2, x3, x4, x5, x6, x7⟩ := HE.out.at8 k x hx
    have HF := Lib.hid (rfind_any a HT.out hL)
    rw [hk] at HF
    have hm : decide ((k : Int) < 0) = false := by simp
    clear hk hx
    go_enter Try.func12, Try.ntmps12
    go_upto_region 1 with fail
    rw [← HW1.out]
    go_wp2_with fail
    refine HF.out.mono ?_
    rintro e w' ⟨rfl, rfl⟩
    simp only [idxI]
    go_wp2
    exact rget_end (q := x) (W := w1) HZ.out HB1.out (Nat.le_refl _) HD.out rfl rfl

/-- A lease is put in the place of another one. -/
theorem RT.put {w0 w : World} {g : Nat} {v : Value} {L : List LV} (h : RT w0 w g v L) (k : Nat) (x : LV) (hk : k < L.length) : ∃ g1 c, v = .slice (some ⟨g1, 0, none⟩) L.length c ∧ w.cell? ⟨g, 0, none⟩ = some (.slice (some ⟨g1, 0, none⟩) L.length c) ∧ (∃ y, L[k]? = some y ∧
    w.cell? ⟨g1, k * 8, none⟩ = some (.int .u32 (y.addr : Int)) ∧ w.cell? ⟨g1, k * 8 + 1, none⟩ = some (.int .i64 y.bind) ∧ w.cell? ⟨g1, k * 8 + 2, none⟩ = some (.string y.cb) ∧ w.cell? ⟨g1, k * 8 + 3, none⟩ = some (.int .i64 y.unt) ∧ w.cell? ⟨g1, k * 8 + 4, none⟩ = some (.int .i64 y.acked) ∧ w.cell? ⟨g1, k * 8 + 5, none⟩ = some (.int .i64 y.told) ∧ w.cell? ⟨g1, k * 8 + 6, none⟩ = some (.int .i64 y.at_) ∧ w.cell? ⟨g1, k * 8 + 7, none⟩ = some (.int .i64 y.ver)) ∧
    (∀ i, w.frozen? ⟨g1, i, none⟩ = false) ∧ (∀ w', w.drew = w' ∨ w = w' → RT w0 (putCells w' g1 (k * 8) x.cells.toList) g v (L.set k x) ∧ w.grownBy (putCells w' g1 (k * 8) x.cells.toList) v.ownBlock) ∧ w0.heap.size ≤ g1 ∧ g1 < w.heap.size := by
  have hap := h.apart
  have hlt := h.row.lt
  have hrow := h.row
  obtain ⟨A, c, rfl, hc0, hlc, HE⟩ := h.read
  obtain ⟨y, hy⟩ : ∃ y, L[k]? = some y := ⟨_, List.getElem?_eq_getElem hk⟩
  have hA : ∃ g1, A = some ⟨g1, 0, none⟩ := by
    rcases hrow.own.2 with ⟨h1, h2⟩ | ⟨g1, cap, cur, h1, _⟩
    · rw [h2] at hk; omega
    · injection h1 with h1
      exact ⟨g1, h1⟩
  obtain ⟨g1, rfl⟩ := hA
  have hg1 := hlt g1 rfl
  have hne : g1 ≠ g := fun e => hap (by rw [e]; rfl)
  obtain ⟨b, o, e, _, c0, c1, c2, c3, c4, c5, c6, c7⟩ := HE.at8 k y hy
  injection e with e
  injection e with e1 e2
  subst e1 e2
  simp only [Nat.zero_add] at c0 c1 c2 c3 c4 c5 c6 c7
  refine ⟨g1, c, rfl, hc0, ⟨y, hy, c0, c1, c2, c3, c4, c5, c6, c7⟩, fun i => hrow.own.frozenAt i, ?_, hg1.1, hg1.2⟩
  have key : ∀ W, RowE ElemL w0 W (.slice (some ⟨g1, 0, none⟩) L.length c) L → W.heap = w.heap → W.os = w.os → W.output = w.output → W.tape = w.tape → RT w0 (putCells W g1 (k * 8) x.cells.toList) g (.slice (some ⟨g1, 0, none⟩) L.length c) (L.set k x) ∧ w.grownBy (putCells W g1 (k * 8) x.cells.toList) (some g1) := by
    intro W hW hh ho hp ht
    obtain ⟨h1, h2⟩ := hW.put k x hk
    have h1' : RowE ElemL w0 (putCells W g1 (k * 8) x.cells.toList) (.slice (some ⟨g1, 0, none⟩) L.length c) (L.set k x) := by
      have h3 := h1
      rw [List.length_set] at h3
      exact h3
    have h2' : W.grownBy (putCells W g1 (k * 8) x.cells.toList) (some g1) := h2
    refine ⟨⟨?_, h1', h.lo⟩, ⟨h2'.os.trans ho, h2'.tape.trans ht, h2'.output.trans hp, by rw [← hh]; exact h2'.size, fun j hj hn => (h2'.block j (by rw [hh]; exact hj) hn).trans (by rw [hh])⟩⟩
    rw [h2'.block g (by rw [hh]; exact h.lt) (fun e => hne (by injection e with e; exact e.symm)), hh]
    exact h.box
  rintro w' (rfl | rfl)
  · exact key _ hrow.drew rfl rfl rfl rfl
  · exact key _ hrow rfl rfl rfl rfl
theorem RT.drew {w0 w : World} {g : Nat} {v : Value} {L : List LV} (h : RT w0 w g v L) : RT w0 w.drew g v L := ⟨h.box, h.row.drew, h.lo⟩
theorem grown_drew {w w' : World} {row : Option Nat} (h : w.grownBy w' row) : w.grownBy w'.drew row := ⟨h.os, h.tape, h.output, h.size, h.block⟩
theorem grown_of_below {w w1 w2 : World} {row : Option Nat} (hb : Below w.heap.size w w1) (hg : w1.grownBy w2 row) : w.grownBy w2 row :=
  ⟨hg.os.trans hb.os, hg.tape.trans hb.tape, hg.output.trans hb.output, Nat.le_trans hb.size hg.size, fun k hk hn => (hg.block k (Nat.lt_of_lt_of_le hk hb.size) hn).trans (hb.block k hk)⟩

set_option maxRecDepth 100000 in
set_option maxHeartbeats 2000000 in
theorem rset_any {w0 w : World} {g : Nat} {v : Value} {L : List LV} (x : LV) (h : RT w0 w g v L) (hL : L.length ≤ 100000) :
    Calls Try.prog 29 #[.pointer (some ⟨g, 0, none⟩), x.v] w fun e w' => e = .returned (.int .i64 (setL L x).2) ∧ RT w0 w' g v (setL L x).1 ∧ w.grownBy w' v.ownBlock := by
  obtain ⟨w1, hw1⟩ : ∃ w1, w1 = w.alloc (lbox x) := ⟨_, rfl⟩
  have HX : Hid (LBox w1 w.heap.size x) := Lib.hid (by rw [hw1]; exact LBox.new w x)
  have hB1 : Below w.heap.size w w1 := by rw [hw1]; exact (Below.refl _ _).alloc (Nat.le_refl _) _
  have HT := Lib.hid (h.later hB1)
  have HB1 := Lib.hid hB1
  have HW1 := Lib.hid hw1
  have HR := Lib.hid (fun W => rright_any x W)
  clear hw1 hB1 h
  by_cases hr : RightL x
  rotate_left
  · have hS : setL L x = (L, 1) := by unfold setL; rw [if_neg hr]
    rw [hS]
    rw [decide_eq_false hr] at HR
    clear hr hS
    obtain ⟨c0, c1, c2, c3, c4, c5, c6, c7⟩ := HX.out.all
    go_enter Try.func29, Try.ntmps29
    go_wp2_with fail
    rw [← HW1.out]
    refine (HR.out _).mono ?_
    rintro e w2 ⟨rfl, hB2⟩
    have hT2 := HT.out.later hB2
    go_wp2
    go_ret
    exact ⟨rfl, hT2, grown_of_below (HB1.out.trans (hB2.mono HB1.out.size)) (World.grownBy.refl _ _)⟩
  · rw [decide_eq_true hr] at HR
    obtain ⟨c0, c1, c2, c3, c4, c5, c6, c7⟩ := HX.out.all
    have HRR := Lib.hid hr
    clear hr
    go_enter Try.func29, Try.ntmps29
    go_wp2_with fail
    rw [← HW1.out]
    refine (HR.out _).mono ?_
    rintro e w2 ⟨rfl, hB2⟩
    have HT2 := Lib.hid (HT.out.later hB2)
    have HX2 := Lib.hid (HX.out.later hB2)
    have HB2 := Lib.hid (HB1.out.trans (hB2.mono HB1.out.size))
    clear hB2 c0 c1 c2 c3 c4 c5 c6 c7
    obtain ⟨c0, c1, c2, c3, c4, c5, c6, c7⟩ := HX2.out.all
    have HF := Lib.hid (rfind_any x.addr HT2.out hL)
    go_wp2_with fail
    cases hk : idxT L x.addr with
    | none =>
      have HS : Hid (setL L x = (L, 4)) := Lib.hid (by unfold setL; rw [if_pos HRR.out, hk])
      rw [hk] at HF
      have hm : decide ((-1 : Int) < 0) = true := by decide
      clear hk
      refine HF.out.mono ?_
      rintro e w' ⟨rfl, rfl⟩
      simp only [idxI]
      go_wp2
      go_ret
      rw [HS.out]
      exact ⟨rfl, HT2.out, grown_of_below HB2.out (World.grownBy.refl _ _)⟩
    | some k =>
      have HS : Hid (setL L x = (L.set k x, 0)) := Lib.hid (by unfold setL; rw [if_pos HRR.out, hk])
      have hkl := idx_lt hk
      rw [hk] at HF
      have hm : decide ((k : Int) < 0) = false := by simp
      obtain ⟨g1, c, hv, hc0, ⟨y, -, y0, y1, y2, y3, y4, y5, y6, y7⟩, hf, hput, hlo, hg1⟩ := HT2.out.put k x hkl
      have HP := Lib.hid hput
      have HV := Lib.hid hv
      have f0 := hf (k * 8)
      have f1 := hf (k * 8 + 1)
      have f2 := hf (k * 8 + 2)
      have f3 := hf (k * 8 + 3)
      have f4 := hf (k * 8 + 4)
      have f5 := hf (k * 8 + 5)
      have f6 := hf (k * 8 + 6)
      have f7 := hf (k * 8 + 7)
      have HLO := Lib.hid hlo
      clear hk hput hf hv hlo
      refine HF.out.mono ?_
      rintro e w' ⟨rfl, rfl⟩
      simp only [idxI]
      go_upto_region 7 with fail
      go_region
      go_wp2
      go_ret
      rw [HS.out]
      obtain ⟨h1, h2⟩ := HP.out _ (.inr rfl)
      exact ⟨rfl, h1.drew, grown_of_below HB2.out (grown_drew h2)⟩

set_option maxRecDepth 100000 in
set_option maxHeartbeats 1000000 in
theorem lsame_any (B B' : Nat) (A A' : Option Addr) (c c' : Nat) (L M : List LV) (w : World) (hL : El ElemL w B A L) (hM : El ElemL w B' A' M) (hl : L.length ≤ 100000) :
    Calls Try.prog 15 #[.slice A L.length c, .slice A' M.length c'] w fun e w' => e = .returned (.bool (decide (L = M))) ∧ ∃ n, w' = w.drewN n := by
  by_cases hne : L.length = M.length
  rotate_left
  · have hd : ((L.length : Int) != (M.length : Int)) = true := by simp; omega
    have HR : Hid (decide (L = M) = false) := Lib.hid (decide_eq_false fun e => hne (by rw [e]))
    clear hne
    go_enter Try.func15, Try.ntmps15
    go_wp2
    go_ret
    rw [HR.out]
    exact ⟨rfl, 0, rfl⟩
  · have hd : ((L.length : Int) != (M.length : Int)) = false := by simp; omega
    have HNE := Lib.hid hne
    have HL := Lib.hid hL
    have HM := Lib.hid hM
    clear hne hL hM
    go_enter Try.func15, Try.ntmps15
    go_wp2
    go_loopw [5] (fun i wr => ∃ j n : Nat, j ≤ L.length ∧ i = .int .i64 j ∧ wr = w.drewN n ∧ Hid (∀ k, k < j → L[k]? = M[k]?)) (fun i _ => L.length - (intOf i).toNat)
    case atStart => exact ⟨0, 0, Nat.zero_le _, rfl, rfl, Lib.hid (fun k hk => by omega)⟩
    case round =>
      obtain ⟨j, n, hj, rfl, rfl, HS⟩ := hrel
      by_cases hlt : j < L.length
      · have hlt2 : j < M.length := by rw [← HNE.out]; exact hlt
        obtain ⟨x, hx⟩ : ∃ x, L[j]? = some x := ⟨_, List.getElem?_eq_getElem hlt⟩
        obtain ⟨y, hy⟩ : ∃ y, M[j]? = some y := ⟨_, List.getElem?_eq_getElem hlt2⟩
        obtain ⟨b, o, rfl, hb, x0, x1, x2, x3, x4, x5, x6, x7⟩ := HL.out.at8 j x hx
        obtain ⟨b', o', rfl, hb', y0, y1, y2, y3, y4, y5, y6, y7⟩ := HM.out.at8 j y hy
        have HX := Lib.hid hx
        have HY := Lib.hid hy
        have HQ := Lib.hid (eqL_of x y)
        clear hx hy
        by_cases he : x = y
        · have hq : eqL (x.addr : Int) x.bind x.cb x.unt x.acked x.told x.at_ x.ver (y.addr : Int) y.bind y.cb y.unt y.acked y.told y.at_ y.ver = true := by rw [HQ.out]; exact decide_eq_true he
          have HS2 : Hid (∀ k, k < j + 1 → L[k]? = M[k]?) := Lib.hid (fun k hk => by
            rcases Nat.lt_or_ge k j with h | h
            · exact HS.out k h
            · obtain rfl : k = j := by omega
              rw [HX.out, HY.out, he])
          clear he
          go_wp2
          go_quiet (fail)
          go_wp2
          go_roundw
          case rel => exact ⟨j + 1, n + nq, by omega, by go_num, rfl, HS2⟩
          case measure => simp [intOf]; omega
        · have hq : eqL (x.addr : Int) x.bind x.cb x.unt x.acked x.told x.at_ x.ver (y.addr : Int) y.bind y.cb y.unt y.acked y.told y.at_ y.ver = false := by rw [HQ.out]; exact decide_eq_false he
          have HR : Hid (decide (L = M) = false) := Lib.hid (decide_eq_false fun e => he (by
            have h1 := HX.out
            rw [e, HY.out] at h1
            injection h1 with h1
            exact h1.symm))
          clear he
          go_wp2
          go_quiet (fail)
          go_wp2
          go_ret
          rw [HR.out]
          exact ⟨rfl, n + nq, World.drewN_drewN _ _ _⟩
      · have HR : Hid (decide (L = M) = true) := Lib.hid (decide_eq_true (List.ext_getElem? fun k => by
          rcases Nat.lt_or_ge k j with h | h
          · exact HS.out k h
          · rw [List.getElem?_eq_none (by omega), List.getElem?_eq_none (by rw [← HNE.out]; omega)]))
        go_wp2
        go_ret
        rw [HR.out]
        exact ⟨rfl, n, rfl⟩
end Go.Proofs.Ytjkkdmfpekkfhaa
