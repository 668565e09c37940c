/- The law PoolOwn, walked. -/
import Derived.Test.YtiapmnedbjmmhaaPooK
import Derived.Test.YtiapmnedbjmmhaaPooS
namespace Go.Proofs.Ytiapmnedbjmmhaa
open Go.RowKit Go.Sort Flo
attribute [local go_sem] run_store_flt

/-- How many are given, told lease by lease. -/
def cntG (id : Int) (xs : List Nat) (L : List LV) : Nat := (L.filter fun y => (y.bind == id) && decide (y.addr ∈ xs)).length
theorem cntG_snoc (id : Int) (xs : List Nat) (L : List LV) (x : LV) : cntG id xs (L ++ [x]) = cntG id xs L + if x.bind = id ∧ x.addr ∈ xs then 1 else 0 := by
  unfold cntG
  rw [List.filter_append, List.length_append, List.filter_cons, List.filter_nil]
  by_cases h : x.bind = id ∧ x.addr ∈ xs
  · rw [if_pos h, if_pos (by simp [h.1, h.2])]
    rfl
  · rw [if_neg h, if_neg (by simpa using h)]
    rfl
theorem cntG_le (id : Int) (xs : List Nat) (L : List LV) : cntG id xs L ≤ L.length := List.length_filter_le _ _
theorem take_map_snoc {α β : Type} (f : α → β) (l : List α) (j : Nat) (x : α) (h : l[j]? = some x) : (l.take (j + 1)).map f = (l.take j).map f ++ [f x] := by
  rw [take_snoc_of l j x h, List.map_append]; rfl
theorem set_grown {w w1 w' : World} {b : Nat} (hb : Below w.heap.size w w1) (hg : w1.grownBy w' (some b)) (hlo : w.heap.size ≤ b) : Below w.heap.size w w' :=
  hb.grown hg hb.size (fun k e => by injection e with e; omega)

set_option maxRecDepth 100000 in
set_option maxHeartbeats 8000000 in
theorem law_pown (K : PoolK) (p s : Nat) (id : Int) (A : Option Addr) (c : Nat) (L : List LV) (w : World) (hE : El ElemL w w.heap.size A L) (hL : L.length ≤ 9223372036854775807) (ha : ∀ x ∈ L, x.addr < 4294967296) : Calls Try.prog 6 #[f2v p s, .int .i64 id, .slice A L.length c] w fun e w' => e = .returned (.bool true) ∧ Below w.heap.size w w' := by
  have HA := Lib.hid (fun V => pawake_any K V)
  have HP := Lib.hid (fun V => plans_any p s V)
  have HK := Lib.hid K
  have H32 := Lib.hid ha
  have hmm := @run_makeMap Try.prog
  clear K ha
  obtain ⟨w0, hw0⟩ : ∃ w0, w0 = w.alloc (f2box 23 p s) := ⟨_, rfl⟩
  have HX : Hid (F2 23 w0 w.heap.size p s) := Lib.hid (by rw [hw0]; exact F2.new w _ p s)
  have hb0 : Below w.heap.size w w0 := by rw [hw0]; exact (Below.refl _ _).alloc (Nat.le_refl _) _
  have HB := Lib.hid hb0
  have HE := Lib.hid (hE.later hb0)
  have HW0 := Lib.hid hw0
  clear hw0 hb0 hE
  go_enter Try.func6, Try.ntmps6
  go_upto_region 1 with fail
  rw [← HW0.out]
  go_wp2_with fail
  refine (HA.out _).mono ?_
  rintro e w1 ⟨rfl, hb1⟩
  have HX1 := Lib.hid (HX.out.later hb1)
  have HE1 := Lib.hid (HE.out.later hb1)
  have HB1 := Lib.hid (HB.out.trans (hb1.mono HB.out.size))
  clear hb1 HX HE HB
  cases tl : decide (300 < (L.length : Int))
  rotate_left
  · have tl2 : (300 : Int) < (L.length : Int) := of_decide_eq_true tl
    go_wp2
    go_ret
    exact ⟨rfl, HB1.out⟩
  have hl3 : L.length ≤ 300 := by have := of_decide_eq_false tl; omega
  have tl2 : ¬ (300 : Int) < (L.length : Int) := of_decide_eq_false tl
  cases ti : decide (id < 0)
  rotate_left
  · go_wp2
    go_ret
    exact ⟨rfl, HB1.out⟩
  cases ti2 : decide (1 < id)
  rotate_left
  · go_wp2
    go_ret
    exact ⟨rfl, HB1.out⟩
  have hid : id = 0 ∨ id = 1 := by have := of_decide_eq_false ti; have := of_decide_eq_false ti2; omega
  obtain ⟨w2, hw⟩ : ∃ w2, w2 = w1.alloc (.map #[] 0) := ⟨_, rfl⟩
  have HX2 := Lib.hid (HX1.out.alloc (.map #[] 0))
  rw [← hw] at HX2
  have HS2 := Lib.hid (SetA.made w1)
  rw [← hw] at HS2
  have HBW : Hid (Below w1.heap.size w1 w2) := Lib.hid (by rw [hw]; exact (Below.refl _ _).alloc (Nat.le_refl _) _)
  have HW2 := Lib.hid hw
  clear hw
  go_upto_region 5 with fail
  rw [← HW2.out]
  go_wp2
  go_loopw [9] (fun i wr => ∃ j : Nat, j ≤ L.length ∧ i = .int .i64 j ∧ Hid (SetA wr w1.heap.size ((L.take j).map LV.addr)) ∧ Hid (((L.take j).map LV.addr).Nodup) ∧ Hid (Below w1.heap.size w1 wr)) (fun i _ => L.length - (intOf i).toNat)
  case atStart => exact ⟨0, Nat.zero_le _, rfl, HS2, Lib.hid (by simp), HBW⟩
  case round =>
    obtain ⟨j, hj, rfl, HS, HO, HBr⟩ := hrel
    by_cases hlt : j < L.length
    · obtain ⟨x, hx⟩ : ∃ x, L[j]? = some x := ⟨_, List.getElem?_eq_getElem hlt⟩
      obtain ⟨bb, o, rfl, hbb, x0, -⟩ := (HE1.out.below HBr.out).at8 j x hx
      have hx32 := H32.out x (List.mem_of_getElem? hx)
      have hlk := HS.out.look hx32
      have hln : ((L.take j).map LV.addr).length ≤ 100000 := by rw [List.length_map, List.length_take]; omega
      obtain ⟨w3, hst, hS3, hg3⟩ := HS.out.put hx32 hln
      have HS3 : Hid (SetA w3 w1.heap.size ((L.take (j + 1)).map LV.addr)) := Lib.hid (by rw [take_map_snoc LV.addr L j x hx]; exact hS3)
      have HB3 := Lib.hid (set_grown HBr.out hg3 (Nat.le_refl _))
      have HOO : Hid (x.addr ∉ (L.take j).map LV.addr → ((L.take (j + 1)).map LV.addr).Nodup) := Lib.hid (fun h => by
        rw [take_map_snoc LV.addr L j x hx, List.nodup_append]
        exact ⟨HO.out, by simp, fun a h1 b' h2 e => h (by rw [List.mem_singleton] at h2; rw [← h2, ← e]; exact h1)⟩)
      clear hx hS3 hg3
      cases hm : decide (x.addr ∈ (L.take j).map LV.addr)
      · rw [hm] at hlk
        have HO2 := Lib.hid (HOO.out (of_decide_eq_false hm))
        clear hm
        go_wp2
        go_roundw
        case rel => exact ⟨j + 1, by omega, by go_num, HS3, HO2, HB3⟩
        case measure => simp [intOf]; omega
      · rw [hm] at hlk
        clear hm
        go_wp2
        go_ret
        exact ⟨rfl, HB1.out.trans (HBr.out.mono HB1.out.size)⟩
    · have HONE : Hid (OnceL L) := Lib.hid (by
        have h := HO.out
        rw [List.take_of_length_le (by omega)] at h
        exact h)
      have HX3 := Lib.hid (HX1.out.later HBr.out)
      have HE3 := Lib.hid (HE1.out.later HBr.out)
      have HB3 := Lib.hid (HB1.out.trans (HBr.out.mono HB1.out.size))
      have x0 := HX3.out.c0
      have x1 := HX3.out.c1
      go_wp2_with fail
      refine (HP.out _).mono ?_
      rintro e w4 ⟨rfl, hb4⟩
      obtain ⟨w5, hw, hpa, hpd, hpb⟩ := layP_facts w4 p s
      have HPA := Lib.hid hpa
      have HB5 := Lib.hid (HB3.out.trans ((hb4.trans (hpb.mono hb4.size)).mono HB3.out.size))
      have HE5 := Lib.hid ((HE3.out.later hb4).later hpb)
      have HWA := Lib.hid hw
      clear hw hpa hpd hpb hb4 x0 x1
      go_upto_region 12 with fail
      rw [← HWA.out]
      generalize w4.heap.size = gp at *
      clear HWA
      have p0 := HPA.out.c0
      have p1 := HPA.out.c1
      have HQ := Lib.hid (HK.out.cho p s id A c L w5 HE5.out hl3)
      have HLN : Hid ((chV p s id L).length ≤ L.length) := Lib.hid (by
        obtain ⟨n, hn⟩ := ch_own (p := p) (s := s) (L := L) hid
        rw [hn]
        unfold topA
        rw [List.length_drop, ownA_length]
        have := List.countP_le_length (p := fun y : LV => y.bind == id) (l := L)
        omega)
      have HRI : Hid ((chV p s id L).Pairwise (· < ·)) := Lib.hid (by
        obtain ⟨n, hn⟩ := ch_own (p := p) (s := s) (L := L) hid
        rw [hn]
        exact top_rise (own_rise HONE.out))
      have HME : Hid (∀ a ∈ chV p s id L, a < 4294967296) := Lib.hid (fun a h => by
        obtain ⟨n, hn⟩ := ch_own (p := p) (s := s) (L := L) hid
        rw [hn] at h
        obtain ⟨y, hy, _, rfl⟩ := mem_own.1 (mem_top h)
        exact H32.out y hy)
      have HCT : Hid (cntG id (chV p s id L) L = (chV p s id L).length) := Lib.hid (by
        obtain ⟨n, hn⟩ := ch_own (p := p) (s := s) (L := L) hid
        unfold cntG
        rw [hn]
        exact top_count HONE.out n)
      have HAB : Hid (∀ y ∈ L, y.bind = id → y.addr ∉ chV p s id L → ∀ g r, chV p s id L = g :: r → y.addr < g) := Lib.hid (fun y hy hb hn g r hg => by
        obtain ⟨n, hn2⟩ := ch_own (p := p) (s := s) (L := L) hid
        rw [hn2] at hn hg
        exact top_above (own_rise HONE.out) (mem_own.2 ⟨y, hy, hb, rfl⟩) hn hg)
      generalize chV p s id L = xs at *
      go_wp2_with fail
      refine HQ.out.mono ?_
      rintro e w6 ⟨Ag, cg, rfl, -, hg6, -, hb6⟩
      have HG6 := Lib.hid hg6
      have HE6 := Lib.hid (HE5.out.later hb6)
      have HB6 := Lib.hid (HB5.out.trans (hb6.mono HB5.out.size))
      have hxl : xs.length ≤ 300 := by have := HLN.out; omega
      clear p0 p1 hg6 hb6
      obtain ⟨w7, hw⟩ : ∃ w7, w7 = w6.alloc (.map #[] 0) := ⟨_, rfl⟩
      have HS7 := Lib.hid (SetA.made w6)
      rw [← hw] at HS7
      have HB7 : Hid (Below w6.heap.size w6 w7) := Lib.hid (by rw [hw]; exact (Below.refl _ _).alloc (Nat.le_refl _) _)
      have HW7 := Lib.hid hw
      clear hw
      go_upto_region 14 with fail
      rw [← HW7.out]
      go_wp2
      go_loopw [14] (fun i wr => ∃ j : Nat, j ≤ xs.length ∧ i = .int .i64 j ∧ Hid (SetA wr w6.heap.size (xs.take j)) ∧ Hid (Below w6.heap.size w6 wr)) (fun i _ => xs.length - (intOf i).toNat)
      case atStart => exact ⟨0, Nat.zero_le _, rfl, HS7, HB7⟩
      case round =>
        obtain ⟨j, hj, rfl, HS, HBr⟩ := hrel
        by_cases hlt : j < xs.length
        · obtain ⟨x, hx⟩ : ∃ x, xs[j]? = some x := ⟨_, List.getElem?_eq_getElem hlt⟩
          have HGr := Lib.hid (HG6.out.below HBr.out)
          have hx32 := HME.out x (List.mem_of_getElem? hx)
          have hln : (xs.take j).length ≤ 100000 := by rw [List.length_take]; omega
          obtain ⟨b3, o3, rfl, hb3, c3⟩ := HGr.out.at1 j x hx
          have HXJ := Lib.hid hx
          have HSJ : Hid (∀ n, SetA (wr.drewN n) w6.heap.size (xs.take j)) := Lib.hid (fun n => HS.out.drewN n)
          clear hx
          by_cases hj0 : j = 0
          · subst hj0
            go_wp2
            go_quiet (fail)
            obtain ⟨w8, hw8⟩ : ∃ w8, w8 = wr.drewN nq := ⟨_, rfl⟩
            have hS8 : SetA w8 w6.heap.size (xs.take 0) := by rw [hw8]; exact HSJ.out _
            obtain ⟨w9, hst, hS9, hg9⟩ := hS8.put hx32 hln
            have HS9 : Hid (SetA w9 w6.heap.size (xs.take (0 + 1))) := Lib.hid (by rw [take_snoc_of xs 0 x HXJ.out]; exact hS9)
            have HB8 : Hid (Below w6.heap.size w6 w8) := Lib.hid (by rw [hw8]; exact drewN_low HBr.out _)
            have HB9 := Lib.hid (set_grown HB8.out hg9 (Nat.le_refl _))
            have c8 : w8.cell? ⟨b3, o3, none⟩ = some (.int .u32 (x : Int)) := by rw [hw8]; exact c3
            have c9 : w8.cell? ⟨b3, o3 + 0, none⟩ = some (.int .u32 (x : Int)) := by rw [hw8]; exact c3
            rw [← hw8]
            clear hw8 hS8 hS9 hg9 c3
            go_wp2
            go_roundw
            case rel => exact ⟨0 + 1, by omega, by go_num, HS9, HB9⟩
            case measure => simp [intOf]; omega
          · obtain ⟨y, hy⟩ : ∃ y, xs[j - 1]? = some y := ⟨_, List.getElem?_eq_getElem (by omega)⟩
            obtain ⟨b4, o4, e4, hb4, c4⟩ := HGr.out.at1 (j - 1) y hy
            injection e4 with e4
            injection e4 with e4 e5 _
            subst e4 e5
            have hlt2 : y < x := by
              have h := List.pairwise_iff_getElem.1 HRI.out
              obtain ⟨q1, q2⟩ := List.getElem?_eq_some_iff.1 hy
              obtain ⟨r1, r2⟩ := List.getElem?_eq_some_iff.1 HXJ.out
              have := h (j - 1) j q1 r1 (by omega)
              rw [q2, r2] at this
              exact this
            have hq1 : 0 < j := by omega
            have hq3 : decide (x ≤ y) = false := by simp; omega
            have hq2 : decide ((x : Int) ≤ (y : Int)) = false := by simp; omega
            have hw1 : IntKind.i64.wrap ((j : Int) - 1) = ((j - 1 : Nat) : Int) := by simp [IntKind.wrap, IntKind.bits, IntKind.signed]; omega
            have hjl : j - 1 < xs.length := by omega
            clear hy
            go_wp2
            go_quiet (fail)
            obtain ⟨w8, hw8⟩ : ∃ w8, w8 = wr.drewN nq := ⟨_, rfl⟩
            have hS8 : SetA w8 w6.heap.size (xs.take j) := by rw [hw8]; exact HSJ.out _
            obtain ⟨w9, hst, hS9, hg9⟩ := hS8.put hx32 hln
            have HS9 : Hid (SetA w9 w6.heap.size (xs.take (j + 1))) := Lib.hid (by rw [take_snoc_of xs j x HXJ.out]; exact hS9)
            have HB8 : Hid (Below w6.heap.size w6 w8) := Lib.hid (by rw [hw8]; exact drewN_low HBr.out _)
            have HB9 := Lib.hid (set_grown HB8.out hg9 (Nat.le_refl _))
            have c8 : w8.cell? ⟨b3, o3 + j, none⟩ = some (.int .u32 (x : Int)) := by rw [hw8]; exact c3
            rw [← hw8]
            clear hw8 hS8 hS9 hg9 c3 c4
            go_wp2
            go_roundw
            case rel => exact ⟨j + 1, by omega, by go_num, HS9, HB9⟩
            case measure => simp [intOf]; omega
        · have HSF : Hid (SetA wr w6.heap.size xs) := Lib.hid (by
            have h := HS.out
            rw [List.take_of_length_le (by omega)] at h
            exact h)
          have HGF := Lib.hid (HG6.out.below HBr.out)
          have HEF := Lib.hid (HE6.out.below HBr.out)
          have HBF := Lib.hid (HB6.out.trans (HBr.out.mono HB6.out.size))
          go_wp2
          clear HS HBr hmm HS7 HB7 HX3 HE3 HB3 HBW HS2 HX2
          generalize wr = w8 at *
          go_loopw [15, 16, 17] (fun nn i _ wr => ∃ j n m : Nat, j ≤ L.length ∧ nn = .int .i64 n ∧ i = .int .i64 j ∧ wr = w8.drewN m ∧ n ≤ j ∧ Hid (n = cntG id xs (L.take j))) (fun _ i _ _ => L.length - (intOf i).toNat)
          case atStart => exact ⟨0, 0, 0, Nat.zero_le _, rfl, rfl, rfl, Nat.le_refl _, Lib.hid rfl⟩
          case round =>
            obtain ⟨j, n, m, hj, rfl, rfl, rfl, hnj, HN⟩ := hrel
            by_cases hlt : j < L.length
            · obtain ⟨x, hx⟩ : ∃ x, L[j]? = some x := ⟨_, List.getElem?_eq_getElem hlt⟩
              have HCS : Hid (cntG id xs (L.take (j + 1)) = cntG id xs (L.take j) + if x.bind = id ∧ x.addr ∈ xs then 1 else 0) := Lib.hid (by rw [take_snoc_of L j x hx, cntG_snoc])
              have HABX := Lib.hid (HAB.out x (List.mem_of_getElem? hx))
              obtain ⟨b5, o5, rfl, hb5, x0, x1, -⟩ := HEF.out.at8 j x hx
              have hx32 := H32.out x (List.mem_of_getElem? hx)
              have hlk := fun k => (HSF.out.drewN k).look hx32
              have hlk2 := fun k k' => ((HSF.out.drewN k).drewN k').look hx32
              clear hx
              by_cases hb0 : x.bind = 0
              · have t0 : (x.bind == 0) = true := by rw [hb0]; rfl
                have t1 : (x.bind == 1) = false := by rw [hb0]; rfl
                rcases hid with hi | hi
                · have i0 : (id == 0) = true := by rw [hi]; rfl
                  have i1 : (id == 1) = false := by rw [hi]; rfl
                  have HOWN : Hid (x.bind = id) := Lib.hid (by omega)
                  clear hi hb0
                  cases hm : decide (x.addr ∈ xs)
                  · rw [hm] at hlk hlk2
                    have HMM := Lib.hid (of_decide_eq_false hm)
                    have HNO : Hid (¬ (x.bind = id ∧ x.addr ∈ xs)) := Lib.hid (fun h => HMM.out h.2)
                    clear hm
                    cases xs with
                    | nil =>
                      clear HABX
                      go_wp2
                      go_quiet (fail)
                      go_wp2
                      go_roundw
                      case rel => exact ⟨j + 1, n, m + nq, by omega, by go_num, by go_num, rfl, by omega, Lib.hid (by rw [HCS.out, HN.out, if_neg HNO.out, Nat.add_zero])⟩
                      case measure => simp [intOf]; omega
                    | cons g r =>
                      have hlg : x.addr < g := HABX.out HOWN.out HMM.out g r rfl
                      obtain ⟨b6, o6, e6, hb6, g0⟩ := HGF.out.at1 0 g rfl
                      have hq4 : decide (g < x.addr) = false := by simp; omega
                      have hq5 : ¬ g < x.addr := by omega
                      have hxl2 : 0 < (g :: r).length := by simp
                      rw [Nat.add_zero] at g0
                      subst e6
                      clear HABX
                      go_wp2
                      go_quiet (fail)
                      go_wp2
                      go_roundw
                      case rel => exact ⟨j + 1, n, m + nq, by omega, by go_num, by go_num, rfl, by omega, Lib.hid (by rw [HCS.out, HN.out, if_neg HNO.out, Nat.add_zero])⟩
                      case measure => simp [intOf]; omega
                  · rw [hm] at hlk hlk2
                    have HYES : Hid (x.bind = id ∧ x.addr ∈ xs) := Lib.hid ⟨HOWN.out, of_decide_eq_true hm⟩
                    clear hm HABX
                    go_wp2
                    go_quiet (fail)
                    go_wp2
                    go_roundw
                    case rel => exact ⟨j + 1, n + 1, m + nq, by omega, by go_num, by go_num, rfl, by omega, Lib.hid (by rw [HCS.out, HN.out, if_pos HYES.out])⟩
                    case measure => simp [intOf]; omega
                · have i0 : (id == 0) = false := by rw [hi]; rfl
                  have i1 : (id == 1) = true := by rw [hi]; rfl
                  have HOWN : Hid (¬ x.bind = id) := Lib.hid (by omega)
                  clear hi hb0
                  cases hm : decide (x.addr ∈ xs)
                  · rw [hm] at hlk hlk2
                    have HMM := Lib.hid (of_decide_eq_false hm)
                    have HNO : Hid (¬ (x.bind = id ∧ x.addr ∈ xs)) := Lib.hid (fun h => HMM.out h.2)
                    clear hm
                    clear HABX
                    go_wp2
                    go_quiet (fail)
                    go_wp2
                    go_roundw
                    case rel => exact ⟨j + 1, n, m + nq, by omega, by go_num, by go_num, rfl, by omega, Lib.hid (by rw [HCS.out, HN.out, if_neg HNO.out, Nat.add_zero])⟩
                    case measure => simp [intOf]; omega
                  · rw [hm] at hlk hlk2
                    have HNO : Hid (¬ (x.bind = id ∧ x.addr ∈ xs)) := Lib.hid (fun h => HOWN.out h.1)
                    clear hm HABX
                    go_wp2
                    go_quiet (fail)
                    go_wp2
                    go_roundw
                    case rel => exact ⟨j + 1, n, m + nq, by omega, by go_num, by go_num, rfl, by omega, Lib.hid (by rw [HCS.out, HN.out, if_neg HNO.out, Nat.add_zero])⟩
                    case measure => simp [intOf]; omega
              by_cases hb1 : x.bind = 1
              · have t0 : (x.bind == 0) = false := by simpa using hb0
                have t1 : (x.bind == 1) = true := by rw [hb1]; rfl
                rcases hid with hi | hi
                · have i0 : (id == 0) = true := by rw [hi]; rfl
                  have i1 : (id == 1) = false := by rw [hi]; rfl
                  have HOWN : Hid (¬ x.bind = id) := Lib.hid (by omega)
                  clear hi hb0 hb1
                  cases hm : decide (x.addr ∈ xs)
                  · rw [hm] at hlk hlk2
                    have HMM := Lib.hid (of_decide_eq_false hm)
                    have HNO : Hid (¬ (x.bind = id ∧ x.addr ∈ xs)) := Lib.hid (fun h => HMM.out h.2)
                    clear hm
                    clear HABX
                    go_wp2
                    go_quiet (fail)
                    go_wp2
                    go_roundw
                    case rel => exact ⟨j + 1, n, m + nq, by omega, by go_num, by go_num, rfl, by omega, Lib.hid (by rw [HCS.out, HN.out, if_neg HNO.out, Nat.add_zero])⟩
                    case measure => simp [intOf]; omega
                  · rw [hm] at hlk hlk2
                    have HNO : Hid (¬ (x.bind = id ∧ x.addr ∈ xs)) := Lib.hid (fun h => HOWN.out h.1)
                    clear hm HABX
                    go_wp2
                    go_quiet (fail)
                    go_wp2
                    go_roundw
                    case rel => exact ⟨j + 1, n, m + nq, by omega, by go_num, by go_num, rfl, by omega, Lib.hid (by rw [HCS.out, HN.out, if_neg HNO.out, Nat.add_zero])⟩
                    case measure => simp [intOf]; omega
                · have i0 : (id == 0) = false := by rw [hi]; rfl
                  have i1 : (id == 1) = true := by rw [hi]; rfl
                  have HOWN : Hid (x.bind = id) := Lib.hid (by omega)
                  clear hi hb0 hb1
                  cases hm : decide (x.addr ∈ xs)
                  · rw [hm] at hlk hlk2
                    have HMM := Lib.hid (of_decide_eq_false hm)
                    have HNO : Hid (¬ (x.bind = id ∧ x.addr ∈ xs)) := Lib.hid (fun h => HMM.out h.2)
                    clear hm
                    cases xs with
                    | nil =>
                      clear HABX
                      go_wp2
                      go_quiet (fail)
                      go_wp2
                      go_roundw
                      case rel => exact ⟨j + 1, n, m + nq, by omega, by go_num, by go_num, rfl, by omega, Lib.hid (by rw [HCS.out, HN.out, if_neg HNO.out, Nat.add_zero])⟩
                      case measure => simp [intOf]; omega
                    | cons g r =>
                      have hlg : x.addr < g := HABX.out HOWN.out HMM.out g r rfl
                      obtain ⟨b6, o6, e6, hb6, g0⟩ := HGF.out.at1 0 g rfl
                      have hq4 : decide (g < x.addr) = false := by simp; omega
                      have hq5 : ¬ g < x.addr := by omega
                      have hxl2 : 0 < (g :: r).length := by simp
                      rw [Nat.add_zero] at g0
                      subst e6
                      clear HABX
                      go_wp2
                      go_quiet (fail)
                      go_wp2
                      go_roundw
                      case rel => exact ⟨j + 1, n, m + nq, by omega, by go_num, by go_num, rfl, by omega, Lib.hid (by rw [HCS.out, HN.out, if_neg HNO.out, Nat.add_zero])⟩
                      case measure => simp [intOf]; omega
                  · rw [hm] at hlk hlk2
                    have HYES : Hid (x.bind = id ∧ x.addr ∈ xs) := Lib.hid ⟨HOWN.out, of_decide_eq_true hm⟩
                    clear hm HABX
                    go_wp2
                    go_quiet (fail)
                    go_wp2
                    go_roundw
                    case rel => exact ⟨j + 1, n + 1, m + nq, by omega, by go_num, by go_num, rfl, by omega, Lib.hid (by rw [HCS.out, HN.out, if_pos HYES.out])⟩
                    case measure => simp [intOf]; omega
              have t0 : (x.bind == 0) = false := by simpa using hb0
              have t1 : (x.bind == 1) = false := by simpa using hb1
              rcases hid with hi | hi
              · have i0 : (id == 0) = true := by rw [hi]; rfl
                have i1 : (id == 1) = false := by rw [hi]; rfl
                have HOWN : Hid (¬ x.bind = id) := Lib.hid (by omega)
                clear hi hb0 hb1
                cases hm : decide (x.addr ∈ xs)
                · rw [hm] at hlk hlk2
                  have HMM := Lib.hid (of_decide_eq_false hm)
                  have HNO : Hid (¬ (x.bind = id ∧ x.addr ∈ xs)) := Lib.hid (fun h => HMM.out h.2)
                  clear hm
                  clear HABX
                  go_wp2
                  go_quiet (fail)
                  go_wp2
                  go_roundw
                  case rel => exact ⟨j + 1, n, m + nq, by omega, by go_num, by go_num, rfl, by omega, Lib.hid (by rw [HCS.out, HN.out, if_neg HNO.out, Nat.add_zero])⟩
                  case measure => simp [intOf]; omega
                · rw [hm] at hlk hlk2
                  have HNO : Hid (¬ (x.bind = id ∧ x.addr ∈ xs)) := Lib.hid (fun h => HOWN.out h.1)
                  clear hm HABX
                  go_wp2
                  go_quiet (fail)
                  go_wp2
                  go_roundw
                  case rel => exact ⟨j + 1, n, m + nq, by omega, by go_num, by go_num, rfl, by omega, Lib.hid (by rw [HCS.out, HN.out, if_neg HNO.out, Nat.add_zero])⟩
                  case measure => simp [intOf]; omega
              · have i0 : (id == 0) = false := by rw [hi]; rfl
                have i1 : (id == 1) = true := by rw [hi]; rfl
                have HOWN : Hid (¬ x.bind = id) := Lib.hid (by omega)
                clear hi hb0 hb1
                cases hm : decide (x.addr ∈ xs)
                · rw [hm] at hlk hlk2
                  have HMM := Lib.hid (of_decide_eq_false hm)
                  have HNO : Hid (¬ (x.bind = id ∧ x.addr ∈ xs)) := Lib.hid (fun h => HMM.out h.2)
                  clear hm
                  clear HABX
                  go_wp2
                  go_quiet (fail)
                  go_wp2
                  go_roundw
                  case rel => exact ⟨j + 1, n, m + nq, by omega, by go_num, by go_num, rfl, by omega, Lib.hid (by rw [HCS.out, HN.out, if_neg HNO.out, Nat.add_zero])⟩
                  case measure => simp [intOf]; omega
                · rw [hm] at hlk hlk2
                  have HNO : Hid (¬ (x.bind = id ∧ x.addr ∈ xs)) := Lib.hid (fun h => HOWN.out h.1)
                  clear hm HABX
                  go_wp2
                  go_quiet (fail)
                  go_wp2
                  go_roundw
                  case rel => exact ⟨j + 1, n, m + nq, by omega, by go_num, by go_num, rfl, by omega, Lib.hid (by rw [HCS.out, HN.out, if_neg HNO.out, Nat.add_zero])⟩
                  case measure => simp [intOf]; omega
            · have HFN : Hid (n = xs.length) := Lib.hid (by rw [HN.out, List.take_of_length_le (by omega)]; exact HCT.out)
              have hq6 : ((n : Int) == (xs.length : Int)) = true := by rw [HFN.out]; simp
              go_wp2
              go_ret
              exact ⟨rfl, drewN_low HBF.out _⟩
end Go.Proofs.Ytiapmnedbjmmhaa
