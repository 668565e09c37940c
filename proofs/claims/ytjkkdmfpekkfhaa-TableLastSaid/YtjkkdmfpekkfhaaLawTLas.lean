/- The law TableLast, over any table of the program's. -/
import Derived.Test.YtjkkdmfpekkfhaaLawTScr
namespace Go.Proofs.Ytjkkdmfpekkfhaa
open Go.RowKit Go.Sort
attribute [local go_sem ↓] run_eqlL run_neqL run_guardL

set_option maxRecDepth 100000 in
set_option maxHeartbeats 8000000 in
theorem law_tlast {T : World → (Nat → Prop) → Nat → List LV → Prop} (K : TabK T) (A A2 : Option Addr) (c c2 : Nat) (l : List (Nat × Nat)) (ls : List LV) (x : LV) (w : World) (hR : Rg w w.heap.size A l) (hE : El ElemL w w.heap.size A2 ls) (hl : l.length ≤ 9223372036854775807) (hls : ls.length * 72 ≤ 140737488351232) (ha : ∀ x ∈ ls, x.addr < 4294967296) (hxa : x.addr < 4294967296) :
    Calls Try.prog 5 #[.slice A l.length c, .slice A2 ls.length c2, x.v] w fun e w' => e = .returned (.bool true) ∧ Below w.heap.size w w' := by
  obtain ⟨w0, hw0⟩ : ∃ w0, w0 = w.alloc (lbox x) := ⟨_, rfl⟩
  have hB0 : Below w.heap.size w w0 := by rw [hw0]; exact (Below.refl _ _).alloc (Nat.le_refl _) _
  have HX : Hid (LBox w0 w.heap.size x) := Lib.hid (by rw [hw0]; exact LBox.new w x)
  have HK := Lib.hid K
  have HR := Lib.hid ((hR.below hB0).more hB0.size)
  have HE := Lib.hid (hE.later hB0)
  have HA := Lib.hid ha
  have HAW := Lib.hid (tawake_any K w0)
  have HB0 := Lib.hid hB0
  have HW0 := Lib.hid hw0
  clear K hR hE ha hB0 hw0
  go_enter Try.func5, Try.ntmps5
  go_wp2_with fail
  rw [← HW0.out]
  refine HAW.out.mono ?_
  rintro e w1 ⟨rfl, hB1⟩
  have HB1 := Lib.hid hB1
  have HR1 := Lib.hid ((HR.out.below hB1).more hB1.size)
  have HE1 := Lib.hid (HE.out.later hB1)
  have HX1 := Lib.hid (HX.out.later hB1)
  clear hB1
  obtain ⟨c0, c1, c2', c3, c4, c5, c6, c7⟩ := HX1.out.all
  go_upto_region 2 with fail
  have HRi : Hid (RowE ElemL w1 (w1.alloc (.cells #[] 34)) (.slice (some ⟨w1.heap.size, 0, none⟩) 0 0) []) := Lib.hid (RowE.lit (E := ElemL) (Below.refl _ w1) [] (by simp) #[] rfl)
  have HRx : Hid (RowE ElemL w1 ((w1.alloc (.cells x.cells 34)).alloc (.cells #[] 34)) (.slice (some ⟨w1.heap.size + 1, 0, none⟩) 0 0) []) := Lib.hid (by
    have h := RowE.lit (E := ElemL) (w0 := w1) (w := w1.alloc (.cells x.cells 34)) ((Below.refl _ w1).alloc (Nat.le_refl _) _) [] (by simp) #[] rfl
    rw [show (w1.alloc (.cells x.cells 34)).heap.size = w1.heap.size + 1 by simp] at h
    exact h)
  have HX0 : Hid (El ElemL (w1.alloc (.cells x.cells 34)) (w1.heap.size + 1) (some ⟨w1.heap.size, 0, none⟩) [x]) := Lib.hid (El.lit (E := ElemL) w1 [x] x.cells _ (cells8 x))
  have HXi : Hid (El ElemL ((w1.alloc (.cells #[] 34)).alloc (.cells x.cells 34)) (w1.heap.size + 1 + 1) (some ⟨w1.heap.size + 1, 0, none⟩) [x]) := Lib.hid (by
    have h := El.lit (E := ElemL) (w1.alloc (.cells #[] 34)) [x] x.cells 34 (cells8 x)
    rw [show (w1.alloc (.cells #[] 34)).heap.size = w1.heap.size + 1 by simp] at h
    exact h)
  have hz1 : (([] : List LV).length + ls.length) * ElemL.bytes ≤ 140737488355328 := by
    show (0 + ls.length) * 72 ≤ _
    omega
  have hz2 : ∀ l3 : List LV, l3 = [] ++ ls → (l3.length + [x].length) * ElemL.bytes ≤ 140737488355328 := fun l3 h => by
    rw [List.nil_append] at h
    rw [h]
    show (ls.length + 1) * 72 ≤ _
    omega
  have HZ2 := Lib.hid hz2
  have ha1 : ∀ o : Obj, Below w1.heap.size w1 (w1.alloc o) := fun o => (Below.refl _ _).alloc (Nat.le_refl _) o
  have HE2 : Hid (∀ W, Below w1.heap.size w1 W → El ElemL W w1.heap.size A2 ls) := Lib.hid (fun W hb => HE1.out.below hb)
  have HA1 := Lib.hid ha1
  have HA2 : Hid (∀ o o' : Obj, Below w1.heap.size w1 ((w1.alloc o).alloc o')) := Lib.hid (fun o o' => (ha1 o).alloc (by simp) o')
  have hz1' := Lib.hid hz1
  clear hz1 hz2 ha1
  go_cut [8] (fun s8 wx => s8 = .bool (longB l (ls ++ [x])) ∧ Below w1.heap.size w1 wx)
  case first =>
    go_region_held3 (fun w' => w'.cell? ⟨w.heap.size, 0, none⟩ = some (.int .u32 (x.addr : Int)) ∧ w'.cell? ⟨w.heap.size, 1, none⟩ = some (.int .i64 x.bind) ∧ w'.cell? ⟨w.heap.size, 2, none⟩ = some (.string x.cb) ∧ w'.cell? ⟨w.heap.size, 3, none⟩ = some (.int .i64 x.unt) ∧ w'.cell? ⟨w.heap.size, 4, none⟩ = some (.int .i64 x.acked) ∧ w'.cell? ⟨w.heap.size, 5, none⟩ = some (.int .i64 x.told) ∧ w'.cell? ⟨w.heap.size, 6, none⟩ = some (.int .i64 x.at_) ∧ w'.cell? ⟨w.heap.size, 7, none⟩ = some (.int .i64 x.ver))
      (first | assumption | exact HX1.out.drew.all | exact (HX1.out.alloc _).drew.all | exact ((HX1.out.alloc _).alloc _).drew.all | exact (HX1.out.later hR4.low).all | exact ((HX1.out.later hR3.low).alloc _).all | exact (HX1.out.later hR3.low).all)
      (first
        | (refine step_rowEb (E := ElemL) rfl (.tmp 20) (.tmp 21) rfl rfl HRi.out.drew ls rfl rfl (HE2.out _ (HA1.out _).drew) hz1'.out ?_; intro A3 k3 w3 l3 HL3 hR3 hk3 _ hg3; have HX3 := Lib.hid (El.lit (E := ElemL) w3 [x] x.cells 34 (cells8 x)))
        | (refine step_rowEb (E := ElemL) rfl (.tmp 20) (.tmp 21) rfl rfl (HRi.out.alloc _).drew ls rfl rfl (HE2.out _ (HA2.out _ _).drew) hz1'.out ?_; intro A3 k3 w3 l3 HL3 hR3 hk3 _ hg3; have HX3 := Lib.hid (HXi.out.drew.keptG (by show w1.heap.size + 1 < ((w1.alloc _).alloc _).heap.size; simp) hg3 (by show some w1.heap.size ≠ some (w1.heap.size + 1); simp)))
        | (refine step_rowEb (E := ElemL) rfl (.tmp 20) (.tmp 21) rfl rfl HRx.out.drew ls rfl rfl (HE2.out _ (HA2.out _ _).drew) hz1'.out ?_; intro A3 k3 w3 l3 HL3 hR3 hk3 _ hg3; have HX3 := Lib.hid ((HX0.out.below ((Below.refl _ _).alloc (by simp) (.cells #[] 34))).drew.keptG (by show w1.heap.size < ((w1.alloc _).alloc _).heap.size; simp; omega) hg3 (by show some (w1.heap.size + 1) ≠ some w1.heap.size; simp)))
        | (refine step_rowEb (E := ElemL) rfl (.tmp 22) (.tmp 24) rfl rfl (hR3.alloc _) [x] rfl rfl HX3.out (HZ2.out l3 HL3.out) ?_; intro A4 k4 w4 l4 HL4 hR4 hk4 hE4 _; have HLL := Lib.hid (show l4 = ls ++ [x] by rw [HL4.out, HL3.out]; rfl))
        | (refine step_rowEb (E := ElemL) rfl (.tmp 22) (.tmp 24) rfl rfl hR3 [x] rfl rfl HX3.out (HZ2.out l3 HL3.out) ?_; intro A4 k4 w4 l4 HL4 hR4 hk4 hE4 _; have HLL := Lib.hid (show l4 = ls ++ [x] by rw [HL4.out, HL3.out]; rfl))
        | (go_at_call 9; refine (long_any A A4 c k4 l l4 w4 w4.heap.size hE4 hl (by rw [HLL.out]; simp; omega)).mono ?_; rintro e w5 ⟨rfl, rfl⟩))
    all_goals
      go_wp2_with fail
      go_meet
      rw [HLL.out]
      exact ⟨rfl, hR4.low⟩
  case rest =>
    obtain ⟨rfl, hB2⟩ := hcut
    have HB2 := Lib.hid (HB1.out.trans (hB2.mono HB1.out.size))
    have HX2 := Lib.hid (HX1.out.later hB2)
    have HR2 := Lib.hid ((HR1.out.below hB2).more hB2.size)
    have HE2' := Lib.hid (HE1.out.later hB2)
    clear hB2 c0 c1 c2' c3 c4 c5 c6 c7
    cases hlong : longB l (ls ++ [x])
    rotate_left
    · clear hlong
      go_wp2
      go_ret
      exact ⟨rfl, HB0.out.trans (HB2.out.mono HB0.out.size)⟩
    obtain ⟨h50, h200⟩ := long_not hlong
    have h200' : ls.length ≤ 200 := by rw [List.length_append] at h200; omega
    have HM := Lib.hid (made_any HK.out A A2 c c2 l ls _ HR2.out (by omega) HE2'.out h200' HA.out)
    clear hlong h200
    go_wp2_with fail
    refine HM.out.mono ?_
    rintro e w2 (⟨ol, code, -, -, rfl, hB3⟩ | ⟨ol, P, g, gr, v, L, -, rfl, -, hT⟩)
    · go_wp2
      go_ret
      exact ⟨rfl, HB0.out.trans ((HB2.out.trans (hB3.mono HB2.out.size)).mono HB0.out.size)⟩
    have HX3 := Lib.hid (HX2.out.below hT.low HX2.out.lt)
    have HXP : Hid (¬ P w.heap.size) := Lib.hid (fun hp => by have := hT.lo _ hp; have := HX2.out.lt; omega)
    have HB3 := Lib.hid (HB2.out.trans (hT.low.mono HB2.out.size))
    have HT := Lib.hid hT
    have HALL := Lib.hid (HK.out.all hT.t)
    clear hT
    go_wp2_with fail
    refine HALL.out.mono ?_
    rintro e w3 ⟨A3, k3, l3, rfl, HL3, hR3, hk3⟩
    have HR3 := Lib.hid hR3
    have HT3 := Lib.hid (HT.out.later HK.out hR3.low)
    have HB4 := Lib.hid (HB3.out.trans (hR3.low.mono HB3.out.size))
    have HX4 := Lib.hid (HX3.out.later hR3.low)
    have HNP : Hid (∀ k, (Value.slice A3 l3.length k3).ownBlock = some k → ¬ P k) := Lib.hid (fun k hk hp => by have h1 := (hR3.lt k hk).1; have h2 := HK.out.lt HT.out.t k hp; omega)
    have HS := HK.out.set x HT3.out.t hxa
    obtain ⟨L', hL'⟩ : ∃ L', L' = (setL L x).1 := ⟨_, rfl⟩
    obtain ⟨ec, hec⟩ : ∃ ec, ec = (setL L x).2 := ⟨_, rfl⟩
    rw [← hL', ← hec] at HS
    have HS := Lib.hid HS
    have HTAB := Lib.hid (HK.out.tab HT.out.t)
    have HAT : Hid (∀ (i : Nat) (y : LV), L[i]? = some y → L'[i]? = some (if ec = 0 ∧ y.addr = x.addr then x else y)) := Lib.hid (fun i y hy => by rw [hL', hec]; exact setL_at HTAB.out x hy)
    have HOK : Hid (ec = 0 ↔ (x.addr ∈ L.map LV.addr ∧ RightL x)) := Lib.hid (by rw [hec]; exact setL_ok L x)
    have HLN : Hid (L'.length = L.length) := Lib.hid (by rw [hL']; exact setL_length L x)
    have hfew : L.length ≤ 256 := HK.out.few HT.out.t
    obtain ⟨c0, c1, c2', c3, c4, c5, c6, c7⟩ := HX4.out.all
    clear hR3 hL' hec
    go_wp2_with fail
    refine HS.out.mono ?_
    rintro e w4 ⟨P', rfl, hT4, hO4, hP4⟩
    have HE4 := Lib.hid (El.oth HR3.out hO4 HNP.out rfl)
    have HX5 : Hid (LBox w4 w.heap.size x) := Lib.hid ((hO4.block w.heap.size HX4.out.lt HXP.out).trans HX4.out)
    have HB5 : Hid (Below w0.heap.size w0 w4) := Lib.hid (hO4.below (fun k hk => Nat.le_trans HB2.out.size (HT3.out.lo k hk)) HB4.out)
    have HALL2 := Lib.hid (HK.out.all hT4)
    clear hT4 hO4 hP4 c0 c1 c2' c3 c4 c5 c6 c7
    go_wp2_with fail
    refine HALL2.out.mono ?_
    rintro e w5 ⟨A5, k5, l5, rfl, HL5, hR5, hk5⟩
    have HE5 := Lib.hid (HE4.out.later hR5.low)
    have HF5 := Lib.hid (El.of_own hR5.own)
    have HX6 := Lib.hid (HX5.out.later hR5.low)
    have HB6 := Lib.hid (HB5.out.trans (hR5.low.mono HB5.out.size))
    have hln : ((l5.length : Int) != (l3.length : Int)) = false := by rw [HL5.out, HL3.out, HLN.out]; simp
    have HL53 : Hid (l5.length = L.length) := Lib.hid (by rw [HL5.out, HLN.out])
    have HL33 : Hid (l3.length = L.length) := Lib.hid (by rw [HL3.out])
    have hb5 : l5.length ≤ 256 := by rw [HL53.out]; exact hfew
    clear hR5
    go_wp2
    clear hln
    go_loopw [15, 16, 17] (fun inn i _ wr => ∃ (j : Nat) (b : Bool), j ≤ l5.length ∧ i = .int .i64 j ∧ inn = .bool b ∧ Hid (b = (L.take j).any fun y => y.addr == x.addr) ∧ Hid (Below w5.heap.size w5 wr)) (fun _ i _ _ => l5.length - (intOf i).toNat)
    case atStart => exact ⟨0, false, Nat.zero_le _, rfl, rfl, Lib.hid rfl, Lib.hid (Below.refl _ _)⟩
    case round =>
      obtain ⟨j, b, hj, rfl, rfl, HBB, HBr⟩ := hrel
      by_cases hlt : j < l5.length
      · obtain ⟨y, hy⟩ : ∃ y, L[j]? = some y := ⟨_, List.getElem?_eq_getElem (by rw [← HL53.out]; exact hlt)⟩
        have hy3 : l3[j]? = some y := by rw [HL3.out]; exact hy
        have hj3 : j < l3.length := (List.getElem?_eq_some_iff.1 hy3).1
        obtain ⟨z, hz⟩ : ∃ z, z = (if ec = 0 ∧ y.addr = x.addr then x else y) := ⟨_, rfl⟩
        have hz5 : l5[j]? = some z := by rw [HL5.out, hz]; exact HAT.out j y hy
        have HBN : Hid ((L.take (j + 1)).any (fun y => y.addr == x.addr) = (b || (y.addr == x.addr))) := Lib.hid (by rw [take_snoc_of L j y hy, List.any_append, ← HBB.out]; simp)
        have HY := Lib.hid hy3
        have HZ5 := Lib.hid hz5
        have HZ := Lib.hid hz
        have hd : decide ((j : Int) < (l5.length : Int)) = true := by simp; omega
        obtain ⟨wA, hwA⟩ : ∃ wA, wA = wr.alloc (lbox y) := ⟨_, rfl⟩
        have HYA : Hid (LBox wA wr.heap.size y) := Lib.hid (by rw [hwA]; exact LBox.new wr y)
        have hBA : Below wr.heap.size wr wA := by rw [hwA]; exact (Below.refl _ _).alloc (Nat.le_refl _) _
        have HBA := Lib.hid (HBr.out.trans (hBA.mono HBr.out.size))
        have HGW : Hid (w5.heap.size ≤ wr.heap.size) := Lib.hid HBr.out.size
        have HWA := Lib.hid hwA
        clear hy hz hy3 hz5 hwA hBA
        obtain ⟨b3, o3, hA3, -, y0, y1, y2, y3, y4, y5, y6, y7⟩ := (HE5.out.below HBr.out).at8 j y HY.out
        subst hA3
        go_upto_region 18 with fail
        rw [← HWA.out]
        clear y0 y1 y2 y3 y4 y5 y6 y7
        by_cases hyx : y.addr = x.addr
        · have hq1 : ((y.addr : Int) == (x.addr : Int)) = true := by rw [hyx]; simp
          have HQY : Hid ((y.addr == x.addr) = true) := Lib.hid (by simpa using hyx)
          by_cases he0 : ec = 0
          · have he : (ec == 0) = true := by simpa using he0
            have HZX : Hid (z = x) := Lib.hid (by rw [HZ.out, if_pos ⟨he0, hyx⟩])
            have HSELF := Lib.hid (show eqL (z.addr : Int) z.bind z.cb z.unt z.acked z.told z.at_ z.ver (x.addr : Int) x.bind x.cb x.unt x.acked x.told x.at_ x.ver = true by rw [eqL_of, HZX.out]; simp)
            have hself := HSELF.out
            clear he0 hyx
            obtain ⟨e0, e1, e2, e3, e4, e5, e6, e7⟩ := (HX6.out.later HBA.out).all
            obtain ⟨b4, o4, hA4, -, p0, -⟩ := (HE5.out.below HBA.out).at8 j y HY.out
            injection hA4 with hA4
            injection hA4 with h41 h42
            subst h41 h42
            go_wp2
            go_quiet (fail)
            clear e0 e1 e2 e3 e4 e5 e6 e7 p0
            obtain ⟨wB, hwB⟩ : ∃ wB, wB = wA.drewN nq := ⟨_, rfl⟩
            rw [← hwB]
            have hBAB : Below wA.heap.size wA wB := by rw [hwB]; exact drewN_below wA nq
            have HYB := Lib.hid (HYA.out.later hBAB)
            have HBB2 := Lib.hid (HBA.out.trans (hBAB.mono HBA.out.size))
            clear hwB hBAB
            obtain ⟨e0, e1, e2, e3, e4, e5, e6, e7⟩ := (HX6.out.later HBB2.out).all
            obtain ⟨v0, v1, v2, v3, v4, v5, v6, v7⟩ := HYB.out.all
            obtain ⟨f0, f1, f2, f3, f4, f5, f6, f7⟩ := HYB.out.allF
            go_upto_region 20 with fail
            change Code.wp _ _ _ _ (storeL wB wr.heap.size x)
            obtain ⟨wC, hwC⟩ : ∃ wC, wC = storeL wB wr.heap.size x := ⟨_, rfl⟩
            rw [← hwC]
            have HVC : Hid (LBox wC wr.heap.size x) := Lib.hid (by rw [hwC]; exact storeL_box HYB.out x)
            have HBC : Hid (Below w5.heap.size w5 wC) := Lib.hid (by rw [hwC]; exact HBB2.out.trans (storeL_low wB _ _ HGW.out x))
            clear hwC e0 e1 e2 e3 e4 e5 e6 e7 v0 v1 v2 v3 v4 v5 v6 v7 f0 f1 f2 f3 f4 f5 f6 f7
            cases b
            · have HXw := Lib.hid (HX6.out.later HBC.out)
              obtain ⟨e0, -⟩ := HXw.out.all
              obtain ⟨b4, o4, hA4, -, p0, -⟩ := (HE5.out.below HBC.out).at8 j y HY.out
              injection hA4 with hA4
              injection hA4 with h41 h42
              subst h41 h42
              obtain ⟨b5', o5, hA5, -, z0, z1, z2, z3, z4, z5, z6, z7⟩ := (HF5.out.below HBC.out).at8 j z HZ5.out
              subst hA5
              obtain ⟨v0, v1, v2, v3, v4, v5, v6, v7⟩ := (HVC.out).all
              go_wp2
              go_quiet (fail)
              go_wp2
              go_quiet (fail)
              go_wp2
              go_roundw
              case rel => exact ⟨j + 1, _, by omega, by go_num, rfl, Lib.hid (by rw [HBN.out]; simp [HQY.out]), Lib.hid (by first | exact HBC.out.trans ⟨rfl, rfl, rfl, Nat.le_refl _, fun _ _ => rfl⟩ | exact HBC.out)⟩
              case measure => simp [intOf]; omega
            · have HXw := Lib.hid (HX6.out.later HBC.out)
              obtain ⟨e0, -⟩ := HXw.out.all
              obtain ⟨b4, o4, hA4, -, p0, -⟩ := (HE5.out.below HBC.out).at8 j y HY.out
              injection hA4 with hA4
              injection hA4 with h41 h42
              subst h41 h42
              obtain ⟨b5', o5, hA5, -, z0, z1, z2, z3, z4, z5, z6, z7⟩ := (HF5.out.below HBC.out).at8 j z HZ5.out
              subst hA5
              obtain ⟨v0, v1, v2, v3, v4, v5, v6, v7⟩ := (HVC.out).all
              go_wp2
              go_quiet (fail)
              go_wp2
              go_quiet (fail)
              go_wp2
              go_roundw
              case rel => exact ⟨j + 1, _, by omega, by go_num, rfl, Lib.hid (by rw [HBN.out]; simp [HQY.out]), Lib.hid (by first | exact HBC.out.trans ⟨rfl, rfl, rfl, Nat.le_refl _, fun _ _ => rfl⟩ | exact HBC.out)⟩
              case measure => simp [intOf]; omega
          · have he : (ec == 0) = false := by simpa using he0
            have HZX : Hid (z = y) := Lib.hid (by rw [HZ.out, if_neg (fun h => he0 h.1)])
            have HSELF := Lib.hid (show eqL (z.addr : Int) z.bind z.cb z.unt z.acked z.told z.at_ z.ver (y.addr : Int) y.bind y.cb y.unt y.acked y.told y.at_ y.ver = true by rw [eqL_of, HZX.out]; simp)
            have hself := HSELF.out
            clear he0 hyx
            go_wp2
            go_quiet (fail)
            obtain ⟨wB, hwB⟩ : ∃ wB, wB = wA.drewN nq := ⟨_, rfl⟩
            rw [← hwB]
            have hBAB : Below wA.heap.size wA wB := by rw [hwB]; exact drewN_below wA nq
            have HYB := Lib.hid (HYA.out.later hBAB)
            have HBB2 := Lib.hid (HBA.out.trans (hBAB.mono HBA.out.size))
            clear hwB hBAB
            go_upto_region 20 with fail
            cases b
            · have HXw := Lib.hid (HX6.out.later HBB2.out)
              obtain ⟨e0, -⟩ := HXw.out.all
              obtain ⟨b4, o4, hA4, -, p0, -⟩ := (HE5.out.below HBB2.out).at8 j y HY.out
              injection hA4 with hA4
              injection hA4 with h41 h42
              subst h41 h42
              obtain ⟨b5', o5, hA5, -, z0, z1, z2, z3, z4, z5, z6, z7⟩ := (HF5.out.below HBB2.out).at8 j z HZ5.out
              subst hA5
              obtain ⟨v0, v1, v2, v3, v4, v5, v6, v7⟩ := (HYB.out).all
              go_wp2
              go_quiet (fail)
              go_wp2
              go_quiet (fail)
              go_wp2
              go_roundw
              case rel => exact ⟨j + 1, _, by omega, by go_num, rfl, Lib.hid (by rw [HBN.out]; simp [HQY.out]), Lib.hid (by first | exact HBB2.out.trans ⟨rfl, rfl, rfl, Nat.le_refl _, fun _ _ => rfl⟩ | exact HBB2.out)⟩
              case measure => simp [intOf]; omega
            · have HXw := Lib.hid (HX6.out.later HBB2.out)
              obtain ⟨e0, -⟩ := HXw.out.all
              obtain ⟨b4, o4, hA4, -, p0, -⟩ := (HE5.out.below HBB2.out).at8 j y HY.out
              injection hA4 with hA4
              injection hA4 with h41 h42
              subst h41 h42
              obtain ⟨b5', o5, hA5, -, z0, z1, z2, z3, z4, z5, z6, z7⟩ := (HF5.out.below HBB2.out).at8 j z HZ5.out
              subst hA5
              obtain ⟨v0, v1, v2, v3, v4, v5, v6, v7⟩ := (HYB.out).all
              go_wp2
              go_quiet (fail)
              go_wp2
              go_quiet (fail)
              go_wp2
              go_roundw
              case rel => exact ⟨j + 1, _, by omega, by go_num, rfl, Lib.hid (by rw [HBN.out]; simp [HQY.out]), Lib.hid (by first | exact HBB2.out.trans ⟨rfl, rfl, rfl, Nat.le_refl _, fun _ _ => rfl⟩ | exact HBB2.out)⟩
              case measure => simp [intOf]; omega
        · have hq1 : ((y.addr : Int) == (x.addr : Int)) = false := by simp; omega
          have HQY : Hid ((y.addr == x.addr) = false) := Lib.hid (by simpa using hyx)
          have HZX : Hid (z = y) := Lib.hid (by rw [HZ.out, if_neg (fun h => hyx h.2)])
          have HSELF := Lib.hid (show eqL (z.addr : Int) z.bind z.cb z.unt z.acked z.told z.at_ z.ver (y.addr : Int) y.bind y.cb y.unt y.acked y.told y.at_ y.ver = true by rw [eqL_of, HZX.out]; simp)
          have hself := HSELF.out
          clear hyx
          cases he : (ec == 0)
          all_goals
            obtain ⟨e0, -⟩ := (HX6.out.later HBA.out).all
            obtain ⟨b4, o4, hA4, -, p0, -⟩ := (HE5.out.below HBA.out).at8 j y HY.out
            injection hA4 with hA4
            injection hA4 with h41 h42
            subst h41 h42
            go_wp2
            go_quiet (fail)
            clear e0 p0
            obtain ⟨wB, hwB⟩ : ∃ wB, wB = wA.drewN nq := ⟨_, rfl⟩
            rw [← hwB]
            have hBAB : Below wA.heap.size wA wB := by rw [hwB]; exact drewN_below wA nq
            have HYB := Lib.hid (HYA.out.later hBAB)
            have HBB2 := Lib.hid (HBA.out.trans (hBAB.mono HBA.out.size))
            clear hwB hBAB
            go_upto_region 20 with fail
            cases b
            · have HXw := Lib.hid (HX6.out.later HBB2.out)
              obtain ⟨e0, -⟩ := HXw.out.all
              obtain ⟨b4, o4, hA4, -, p0, -⟩ := (HE5.out.below HBB2.out).at8 j y HY.out
              injection hA4 with hA4
              injection hA4 with h41 h42
              subst h41 h42
              obtain ⟨b5', o5, hA5, -, z0, z1, z2, z3, z4, z5, z6, z7⟩ := (HF5.out.below HBB2.out).at8 j z HZ5.out
              subst hA5
              obtain ⟨v0, v1, v2, v3, v4, v5, v6, v7⟩ := (HYB.out).all
              go_wp2
              go_quiet (fail)
              go_wp2
              go_quiet (fail)
              go_wp2
              go_roundw
              case rel => exact ⟨j + 1, _, by omega, by go_num, rfl, Lib.hid (by rw [HBN.out]; simp [HQY.out]), Lib.hid (by first | exact HBB2.out.trans ⟨rfl, rfl, rfl, Nat.le_refl _, fun _ _ => rfl⟩ | exact HBB2.out)⟩
              case measure => simp [intOf]; omega
            · have HXw := Lib.hid (HX6.out.later HBB2.out)
              obtain ⟨e0, -⟩ := HXw.out.all
              obtain ⟨b4, o4, hA4, -, p0, -⟩ := (HE5.out.below HBB2.out).at8 j y HY.out
              injection hA4 with hA4
              injection hA4 with h41 h42
              subst h41 h42
              obtain ⟨b5', o5, hA5, -, z0, z1, z2, z3, z4, z5, z6, z7⟩ := (HF5.out.below HBB2.out).at8 j z HZ5.out
              subst hA5
              obtain ⟨v0, v1, v2, v3, v4, v5, v6, v7⟩ := (HYB.out).all
              go_wp2
              go_quiet (fail)
              go_wp2
              go_quiet (fail)
              go_wp2
              go_roundw
              case rel => exact ⟨j + 1, _, by omega, by go_num, rfl, Lib.hid (by rw [HBN.out]; simp [HQY.out]), Lib.hid (by first | exact HBB2.out.trans ⟨rfl, rfl, rfl, Nat.le_refl _, fun _ _ => rfl⟩ | exact HBB2.out)⟩
              case measure => simp [intOf]; omega
      · obtain rfl : j = l5.length := by omega
        have HBF : Hid (b = decide (x.addr ∈ L.map LV.addr)) := Lib.hid (by
          rw [HBB.out, HL53.out, List.take_of_length_le (Nat.le_refl _), Bool.eq_iff_iff, List.any_eq_true, decide_eq_true_eq, List.mem_map]
          exact ⟨fun ⟨y, h1, h2⟩ => ⟨y, h1, by simpa using h2⟩, fun ⟨y, h1, h2⟩ => ⟨y, h1, by simpa using h2⟩⟩)
        have HXr := Lib.hid (HX6.out.later HBr.out)
        have HRR := Lib.hid (rright_any x wr)
        have HBZ : Hid (Below w.heap.size w wr) := Lib.hid (HB0.out.trans ((HB6.out.trans (HBr.out.mono HB6.out.size)).mono HB0.out.size))
        obtain ⟨c0, c1, c2', c3, c4, c5, c6, c7⟩ := HXr.out.all
        cases b
        · have he : (ec == 0) = false := by
            have h1 : x.addr ∉ L.map LV.addr := by simpa using HBF.out.symm
            have h2 : ec ≠ 0 := fun h => h1 (HOK.out.1 h).1
            simpa using h2
          go_wp2
          go_ret
          exact ⟨rfl, HBZ.out⟩
        · have hm : x.addr ∈ L.map LV.addr := by simpa using HBF.out.symm
          obtain ⟨rb, hrb⟩ : ∃ rb, rb = decide (RightL x) := ⟨_, rfl⟩
          rw [← hrb] at HRR
          have he : (ec == 0) = rb := by
            rw [hrb, Bool.eq_iff_iff, beq_iff_eq, decide_eq_true_eq, HOK.out]
            exact ⟨fun h => h.2, fun h => ⟨hm, h⟩⟩
          have hq : (rb == rb) = true := by simp
          clear hm hrb
          go_wp2_with fail
          refine HRR.out.mono ?_
          rintro e w9 ⟨rfl, hB9⟩
          go_wp2
          go_ret
          exact ⟨by simp, HBZ.out.trans (hB9.mono HBZ.out.size)⟩
end Go.Proofs.Ytjkkdmfpekkfhaa
