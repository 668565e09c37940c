/- pool: the document's Chosen. -/
import Derived.Test.YtiapmnedbjmmhaaPooA
namespace Go.Proofs.Ytiapmnedbjmmhaa
open Go.RowKit Go.Sort

theorem takeWhile_ofA {α : Type} {p : α → Bool} : ∀ (l : List α) (k : Nat), (∀ x ∈ l.take k, p x = true) → (k = l.length ∨ ∃ x, l[k]? = some x ∧ p x = false) → l.take k = l.takeWhile p ∧ l.drop k = l.dropWhile p
  | [], k, _, _ => by simp
  | y :: r, 0, _, h => by
    rcases h with h | ⟨x, hx, hp⟩
    · simp at h
    · simp at hx
      subst hx
      simp [hp]
  | y :: r, k + 1, h1, h2 => by
    have hy := h1 y (by simp)
    obtain ⟨e1, e2⟩ := takeWhile_ofA r k (fun x hx => h1 x (by rw [List.take_succ_cons]; exact List.mem_cons_of_mem _ hx)) (by
      rcases h2 with h2 | ⟨x, hx, hp⟩
      · left; simpa using h2
      · right; exact ⟨x, by simpa using hx, hp⟩)
    rw [List.take_succ_cons, List.drop_succ_cons, List.takeWhile_cons, List.dropWhile_cons, if_pos hy, if_pos hy, e1, e2]
    exact ⟨rfl, rfl⟩
theorem insA_of {d : List Nat} {x k : Nat} (h1 : ∀ y ∈ d.take k, y < x) (h2 : k = d.length ∨ ∃ y, d[k]? = some y ∧ ¬ y < x) : insA x d = d.take k ++ [x] ++ d.drop k := by
  obtain ⟨e1, e2⟩ := takeWhile_ofA (p := fun y : Nat => decide (y < x)) d k (fun y hy => decide_eq_true (h1 y hy)) (by
    rcases h2 with h2 | ⟨y, hy, hn⟩
    · exact .inl h2
    · exact .inr ⟨y, hy, decide_eq_false hn⟩)
  rw [insA_split, e1, e2, List.append_assoc]
  rfl
/-- What is gathered: nothing for a server that is none. -/
def ownX (id : Int) (L : List LV) : List Nat := if id = 0 ∨ id = 1 then ownA id L else []
theorem ownX_snoc (id : Int) (L : List LV) (x : LV) : ownX id (L ++ [x]) = if (id = 0 ∨ id = 1) ∧ x.bind = id then insA x.addr (ownX id L) else ownX id L := by
  unfold ownX
  by_cases h : id = 0 ∨ id = 1
  · rw [if_pos h, if_pos h]
    unfold ownA ownOf
    rw [List.filter_append, List.filter_cons, List.filter_nil]
    by_cases hb : x.bind = id
    · rw [if_pos (by simpa using hb), if_pos ⟨h, hb⟩, List.map_append]
      exact srtA_snoc _ _
    · rw [if_neg (by simpa using hb), if_neg (fun c => hb c.2), List.append_nil]
  · rw [if_neg h, if_neg h, if_neg (fun c => h c.1)]
theorem ownX_len (id : Int) (L : List LV) : (ownX id L).length ≤ L.length := by
  unfold ownX
  split
  · rw [ownA_length]; exact List.countP_le_length
  · exact Nat.zero_le _
theorem cnt_snoc (b : Int) (L : List LV) (x : LV) : ((L ++ [x]).countP fun y => y.bind == b) = (L.countP fun y => y.bind == b) + if x.bind = b then 1 else 0 := by
  rw [List.countP_append, List.countP_cons, List.countP_nil]
  by_cases h : x.bind = b <;> simp [h]
theorem drewN_lowA (w : World) (n : Nat) : Below w.heap.size w (w.drewN n) := ⟨rfl, rfl, rfl, Nat.le_refl _, fun _ _ => rfl⟩

set_option maxRecDepth 100000 in
set_option maxHeartbeats 8000000 in
theorem rchosen_any (p s : Nat) (id : Int) (A : Option Addr) (c : Nat) (L : List LV) (w : World) (hE : El ElemL w w.heap.size A L) (hL : L.length ≤ 100000) :
    Calls Try.prog 13 #[f2v p s, .int .i64 id, .slice A L.length c] w (GivesA w (chV p s id L)) := by
  have HCH : Hid (chV p s id L = topA (givV p s id ((L.countP fun y => y.bind == 0 : Nat) : Int) ((L.countP fun y => y.bind == 1 : Nat) : Int)).toNat (ownX id L)) := Lib.hid rfl
  have HFIT : Hid (0 ≤ givV p s id ((L.countP fun y => y.bind == 0 : Nat) : Int) ((L.countP fun y => y.bind == 1 : Nat) : Int) ∧ (givV p s id ((L.countP fun y => y.bind == 0 : Nat) : Int) ((L.countP fun y => y.bind == 1 : Nat) : Int)).toNat ≤ (ownX id L).length) := Lib.hid ⟨(giv_range _ _ _ _ _).1, ch_fits p s id L⟩
  have HG := Lib.hid (fun f b V => rgives_any p s id f b V)
  obtain ⟨w0, hw0⟩ : ∃ w0, w0 = w.alloc (f2box 28 p s) := ⟨_, rfl⟩
  have HP : Hid (F2 28 w0 w.heap.size p s) := Lib.hid (by rw [hw0]; exact F2.new w _ p s)
  have hB0 : Below w.heap.size w w0 := by rw [hw0]; exact (Below.refl _ _).alloc (Nat.le_refl _) _
  have HB0 := Lib.hid hB0
  have HE := Lib.hid (hE.later hB0)
  have HW0 := Lib.hid hw0
  clear hw0 hB0 hE
  go_enter Try.func13, Try.ntmps13
  go_upto_region 4 with fail
  rw [← HW0.out]
  go_wp2
  go_loopw [7, 8, 9, 10, 11, 12] (fun fr bk own i _ _ wr => ∃ (j : Nat) (A' : Option Addr) (c' : Nat) (d : List Nat) (n0 n1 : Nat), j ≤ L.length ∧ i = .int .i64 j ∧ fr = .int .i64 n0 ∧ bk = .int .i64 n1 ∧ own = .slice A' d.length c' ∧ d.length ≤ c' ∧ Hid (d = ownX id (L.take j)) ∧ Hid (n0 = ((L.take j).countP fun y => y.bind == 0)) ∧ Hid (n1 = ((L.take j).countP fun y => y.bind == 1)) ∧ Hid (RowE ElemA w0 wr (.slice A' d.length c') d) ∧ d.length ≤ j ∧ n0 ≤ j ∧ n1 ≤ j) (fun _ _ _ i _ _ _ => L.length - (intOf i).toNat)
  case atStart => exact ⟨0, none, 0, [], 0, 0, Nat.zero_le _, rfl, rfl, rfl, rfl, Nat.le_refl _, Lib.hid (by unfold ownX; split <;> rfl), Lib.hid rfl, Lib.hid rfl, Lib.hid (RowE.nil w0), Nat.le_refl _, Nat.le_refl _, Nat.le_refl _⟩
  case round =>
    obtain ⟨j, A', c', d, n0, n1, hj, rfl, rfl, rfl, rfl, hdc, HD, HN0, HN1, HV, hdl, hl0, hl1⟩ := hrel
    by_cases hlt : j < L.length
    · obtain ⟨x, hx⟩ : ∃ x, L[j]? = some x := ⟨_, List.getElem?_eq_getElem hlt⟩
      have HS : Hid (ownX id (L.take (j + 1)) = if (id = 0 ∨ id = 1) ∧ x.bind = id then insA x.addr (ownX id (L.take j)) else ownX id (L.take j)) := Lib.hid (by rw [take_snoc_of L j x hx, ownX_snoc])
      have HC0 : Hid (((L.take (j + 1)).countP fun y => y.bind == 0) = ((L.take j).countP fun y => y.bind == 0) + if x.bind = 0 then 1 else 0) := Lib.hid (by rw [take_snoc_of L j x hx, cnt_snoc])
      have HC1 : Hid (((L.take (j + 1)).countP fun y => y.bind == 1) = ((L.take j).countP fun y => y.bind == 1) + if x.bind = 1 then 1 else 0) := Lib.hid (by rw [take_snoc_of L j x hx, cnt_snoc])
      have HEr := Lib.hid (HE.out.below HV.out.low)
      obtain ⟨b, o, rfl, hb, x0, x1, -⟩ := HEr.out.at8 j x hx
      have hdb : d.length ≤ 100000 := by omega
      have HXL := Lib.hid hx
      clear hx
      have hid : ((id == 0) = true ∧ (id == 1) = false ∧ id = 0) ∨ ((id == 0) = false ∧ (id == 1) = true ∧ id = 1) ∨ ((id == 0) = false ∧ (id == 1) = false ∧ id ≠ 0 ∧ id ≠ 1) := by
        by_cases h0 : id = 0
        · exact .inl ⟨by rw [h0]; rfl, by rw [h0]; rfl, h0⟩
        by_cases h1 : id = 1
        · exact .inr (.inl ⟨by rw [h1]; rfl, by rw [h1]; rfl, h1⟩)
        · exact .inr (.inr ⟨by simpa using h0, by simpa using h1, h0, h1⟩)
      by_cases hb0 : x.bind = 0
      · have t0 : (x.bind == 0) = true := by rw [hb0]; rfl
        have t1 : (x.bind == 1) = false := by rw [hb0]; rfl
        have HB0 : Hid (x.bind = 0) := Lib.hid hb0
        have HB1 : Hid (¬ x.bind = 1) := Lib.hid (by omega)
        clear hb0
        rcases hid with ⟨i0, i1, hi⟩ | ⟨i0, i1, hi⟩ | ⟨i0, i1, hi⟩
        · have HYES : Hid ((id = 0 ∨ id = 1) ∧ x.bind = id) := Lib.hid ⟨by omega, by have := HB0.out; omega⟩
          clear hi
          have HXA := Lib.hid x0
          have HXW : Hid (∀ W, Below w0.heap.size w0 W → W.cell? ⟨b, o + j * 8, none⟩ = some (.int .u32 (x.addr : Int))) := Lib.hid (fun W hW => by
            obtain ⟨b9, o9, e9, _, z0, _⟩ := (HE.out.below hW).at8 j x HXL.out
            injection e9 with e9
            injection e9 with e9 e10 _
            subst e9 e10
            exact z0)
          obtain ⟨A2, k2, e2, -, HE1⟩ := HV.out.form
          injection e2 with e2 _ e3
          subst e2 e3
          have HE1 := Lib.hid HE1
          go_wp2
          go_loopw [11] (fun a wx => ∃ k n : Nat, k ≤ d.length ∧ a = .int .i64 k ∧ wx = wr.drewN n ∧ Hid (∀ y ∈ d.take k, y < x.addr)) (fun a _ => d.length - (intOf a).toNat)
          case atStart => exact ⟨0, 0, Nat.zero_le _, rfl, rfl, Lib.hid (by simp)⟩
          case round =>
            obtain ⟨k, n, hk, rfl, rfl, HK⟩ := hrel
            by_cases hkl : k < d.length
            · have hg : decide ((k : Int) < (d.length : Int)) = true := by simp; omega
              obtain ⟨y, hy⟩ : ∃ y, d[k]? = some y := ⟨_, List.getElem?_eq_getElem hkl⟩
              obtain ⟨b2, o2, rfl, hb2, y0⟩ := HE1.out.at1 k y hy
              have HY := Lib.hid hy
              clear hy
              by_cases hle : y < x.addr
              · have hg2 : decide ((y : Int) < (x.addr : Int)) = true := by simp; omega
                have HK2 : Hid (∀ z ∈ d.take (k + 1), z < x.addr) := Lib.hid (by
                  intro z hz
                  rw [take_snoc_of d k y HY.out, List.mem_append, List.mem_singleton] at hz
                  rcases hz with hz | rfl
                  · exact HK.out z hz
                  · exact hle)
                go_wp2
                go_quiet (fail)
                go_wp2
                go_roundw
                case rel => exact ⟨k + 1, n + nq, by omega, by go_num, rfl, HK2⟩
                case measure => simp [intOf]; omega
              · have hg2 : decide ((y : Int) < (x.addr : Int)) = false := by simp; omega
                have HIN : Hid (insA x.addr d = d.take k ++ [x.addr] ++ d.drop k) := Lib.hid (insA_of HK.out (.inr ⟨y, HY.out, hle⟩))
                go_wp2
                go_quiet (fail)
                obtain ⟨w2, hw2⟩ : ∃ w2, w2 = (wr.drewN n).drewN nq := ⟨_, rfl⟩
                have hB2 : Below wr.heap.size wr w2 := by rw [hw2, World.drewN_drewN]; exact drewN_lowA wr _
                rw [← hw2]
                have HV2 := Lib.hid (HV.out.later hB2)
                have HE2 : Hid (El ElemA w2 w2.heap.size (some ⟨b2, o2, none⟩) d) := Lib.hid (HE1.out.later hB2)
                have HL2 := Lib.hid ((HEr.out.below ((hB2.mono HV.out.low.size)) : El ElemL w2 w0.heap.size _ L))
                have HDr := Lib.hid (show (d.take k).length = k by rw [List.length_take]; omega)
                have HDd := Lib.hid (show (d.drop k).length = d.length - k from List.length_drop)
                have hh1 : ∀ W, (Instr.slice 35 (.slice (some ⟨b2, o2, none⟩) d.length c') none (some (.int .i64 (k : Int))) none).run Try.prog W = .ok (.slice (some ⟨b2, o2, none⟩) k c') W := fun W => by
                  have := run_headE ElemA (some ⟨b2, o2, none⟩) d.length c' (k : Int) (by omega) (by omega) W
                  rwa [Int.toNat_natCast] at this
                obtain ⟨A3, hA3⟩ : ∃ A3, A3 = (if c' = k then (some ⟨b2, o2, none⟩) else (some ⟨b2, o2, none⟩ : Option Addr).map (·.add (k * ElemA.m))) := ⟨_, rfl⟩
                have hh2 : ∀ W, (Instr.slice 35 (.slice (some ⟨b2, o2, none⟩) d.length c') (some (.int .i64 (k : Int))) none none).run Try.prog W = .ok (.slice A3 (d.length - k) (c' - k)) W := fun W => by
                  have := run_tailE ElemA (some ⟨b2, o2, none⟩) d.length c' (k : Int) (by omega) (by omega) W
                  rw [Int.toNat_natCast, ← hA3] at this
                  exact this
                have HCUT : Hid (El ElemA w2 w2.heap.size A3 (d.drop k)) := Lib.hid (by rw [hA3]; exact HE2.out.cut hk hdc)
                have HLIT : Hid (RowE ElemA w2 (w2.alloc (.cells #[] 41)) (.slice (some ⟨w2.heap.size, 0, none⟩) 0 0) []) := Lib.hid (RowE.lit (E := ElemA) (Below.refl _ w2) [] (by simp) #[] rfl)
                have hz1 : ([] : List Nat).length + (d.take k).length ≤ 100000000000 := by rw [HDr.out]; simp; omega
                have HXC := Lib.hid ((HV2.out.low.cell (p := ⟨b, o + j * 8, none⟩) (by omega)))
                clear hw2 hB2 hA3 x0 x1
                have e0 : Below w2.heap.size w2 (w2.alloc (.cells #[] 41)) := (Below.refl _ _).alloc (Nat.le_refl _) _
                have HT1 := Lib.hid ((HE2.out.take k).below e0)
                have HX0 := Lib.hid HXA.out
                clear e0
                go_wp2_with (first
                  | (at_builtin; refine wpList_rowE (E := ElemA) rfl (.tmp 76) (.tmp 79) rfl rfl HLIT.out (d.take k) HDr.out rfl HT1.out hz1 ?_; intro A4 k4 w3 l4 HL4 hR4 hk4 _ _; have HR4 := Lib.hid hR4; have x0 := HXW.out w3 (HV2.out.low.trans (hR4.low.mono HV2.out.low.size)); have hz2 : l4.length + [x.addr].length ≤ 100000000000 := (by rw [HL4.out]; simp; omega); have HLX := Lib.hid (El.lit (E := ElemA) w3 [x.addr] #[.int .u32 (x.addr : Int)] 41 rfl); clear hR4)
                  | (at_builtin; refine wpList_rowE (E := ElemA) rfl (.tmp 81) (.tmp 87) rfl rfl (HR4.out.alloc _) [x.addr] rfl rfl HLX.out hz2 ?_; intro A5 k5 w4 l5 HL5 hR5 hk5 _ _; have HR5 := Lib.hid hR5; have HT5 := Lib.hid (HCUT.out.below hR5.low); have hz3 : l5.length + (d.drop k).length ≤ 100000000000 := (by rw [HL5.out, HL4.out, HDd.out]; simp; omega); clear hR5)
                  | (at_builtin; refine wpList_rowE (E := ElemA) rfl (.tmp 89) (.tmp 92) rfl rfl HR5.out (d.drop k) HDd.out rfl HT5.out hz3 ?_; intro A6 k6 w5 l6 HL6 hR6 hk6 _ _))
                have HFIN : Hid (l6 = insA x.addr d) := Lib.hid (by rw [HL6.out, HL5.out, HL4.out, HIN.out]; simp)
                have hlen : l6.length ≤ d.length + 1 := by rw [HFIN.out, insA_length]; exact Nat.le_refl _
                go_roundw
                case rel => exact ⟨j + 1, A6, k6, l6, n0 + 1, n1, by omega, by go_num, by go_num, by go_num, rfl, hk6, Lib.hid (by rw [HFIN.out, HS.out, if_pos HYES.out, HD.out]), Lib.hid (by rw [HC0.out, HN0.out, if_pos HB0.out]), Lib.hid (by rw [HC1.out, HN1.out, if_neg HB1.out, Nat.add_zero]), Lib.hid (hR6.base HV2.out.low), by omega, by omega, by omega⟩
                case measure => simp [intOf]; omega
            · have hg : decide ((k : Int) < (d.length : Int)) = false := by simp; omega
              have HIN : Hid (insA x.addr d = d.take k ++ [x.addr] ++ d.drop k) := Lib.hid (insA_of HK.out (.inl (by omega)))
              go_wp2
              go_quiet (fail)
              obtain ⟨w2, hw2⟩ : ∃ w2, w2 = (wr.drewN n).drewN nq := ⟨_, rfl⟩
              have hB2 : Below wr.heap.size wr w2 := by rw [hw2, World.drewN_drewN]; exact drewN_lowA wr _
              rw [← hw2]
              have HV2 := Lib.hid (HV.out.later hB2)
              have HE2 : Hid (El ElemA w2 w2.heap.size (A') d) := Lib.hid (HE1.out.later hB2)
              have HL2 := Lib.hid ((HEr.out.below ((hB2.mono HV.out.low.size)) : El ElemL w2 w0.heap.size _ L))
              have HDr := Lib.hid (show (d.take k).length = k by rw [List.length_take]; omega)
              have HDd := Lib.hid (show (d.drop k).length = d.length - k from List.length_drop)
              have hh1 : ∀ W, (Instr.slice 35 (.slice (A') d.length c') none (some (.int .i64 (k : Int))) none).run Try.prog W = .ok (.slice (A') k c') W := fun W => by
                have := run_headE ElemA (A') d.length c' (k : Int) (by omega) (by omega) W
                rwa [Int.toNat_natCast] at this
              obtain ⟨A3, hA3⟩ : ∃ A3, A3 = (if c' = k then (A') else (A' : Option Addr).map (·.add (k * ElemA.m))) := ⟨_, rfl⟩
              have hh2 : ∀ W, (Instr.slice 35 (.slice (A') d.length c') (some (.int .i64 (k : Int))) none none).run Try.prog W = .ok (.slice A3 (d.length - k) (c' - k)) W := fun W => by
                have := run_tailE ElemA (A') d.length c' (k : Int) (by omega) (by omega) W
                rw [Int.toNat_natCast, ← hA3] at this
                exact this
              have HCUT : Hid (El ElemA w2 w2.heap.size A3 (d.drop k)) := Lib.hid (by rw [hA3]; exact HE2.out.cut hk hdc)
              have HLIT : Hid (RowE ElemA w2 (w2.alloc (.cells #[] 41)) (.slice (some ⟨w2.heap.size, 0, none⟩) 0 0) []) := Lib.hid (RowE.lit (E := ElemA) (Below.refl _ w2) [] (by simp) #[] rfl)
              have hz1 : ([] : List Nat).length + (d.take k).length ≤ 100000000000 := by rw [HDr.out]; simp; omega
              have HXC := Lib.hid ((HV2.out.low.cell (p := ⟨b, o + j * 8, none⟩) (by omega)))
              clear hw2 hB2 hA3 x0 x1
              have e0 : Below w2.heap.size w2 (w2.alloc (.cells #[] 41)) := (Below.refl _ _).alloc (Nat.le_refl _) _
              have HT1 := Lib.hid ((HE2.out.take k).below e0)
              have HX0 := Lib.hid HXA.out
              clear e0
              go_wp2_with (first
                | (at_builtin; refine wpList_rowE (E := ElemA) rfl (.tmp 76) (.tmp 79) rfl rfl HLIT.out (d.take k) HDr.out rfl HT1.out hz1 ?_; intro A4 k4 w3 l4 HL4 hR4 hk4 _ _; have HR4 := Lib.hid hR4; have x0 := HXW.out w3 (HV2.out.low.trans (hR4.low.mono HV2.out.low.size)); have hz2 : l4.length + [x.addr].length ≤ 100000000000 := (by rw [HL4.out]; simp; omega); have HLX := Lib.hid (El.lit (E := ElemA) w3 [x.addr] #[.int .u32 (x.addr : Int)] 41 rfl); clear hR4)
                | (at_builtin; refine wpList_rowE (E := ElemA) rfl (.tmp 81) (.tmp 87) rfl rfl (HR4.out.alloc _) [x.addr] rfl rfl HLX.out hz2 ?_; intro A5 k5 w4 l5 HL5 hR5 hk5 _ _; have HR5 := Lib.hid hR5; have HT5 := Lib.hid (HCUT.out.below hR5.low); have hz3 : l5.length + (d.drop k).length ≤ 100000000000 := (by rw [HL5.out, HL4.out, HDd.out]; simp; omega); clear hR5)
                | (at_builtin; refine wpList_rowE (E := ElemA) rfl (.tmp 89) (.tmp 92) rfl rfl HR5.out (d.drop k) HDd.out rfl HT5.out hz3 ?_; intro A6 k6 w5 l6 HL6 hR6 hk6 _ _))
              have HFIN : Hid (l6 = insA x.addr d) := Lib.hid (by rw [HL6.out, HL5.out, HL4.out, HIN.out]; simp)
              have hlen : l6.length ≤ d.length + 1 := by rw [HFIN.out, insA_length]; exact Nat.le_refl _
              go_roundw
              case rel => exact ⟨j + 1, A6, k6, l6, n0 + 1, n1, by omega, by go_num, by go_num, by go_num, rfl, hk6, Lib.hid (by rw [HFIN.out, HS.out, if_pos HYES.out, HD.out]), Lib.hid (by rw [HC0.out, HN0.out, if_pos HB0.out]), Lib.hid (by rw [HC1.out, HN1.out, if_neg HB1.out, Nat.add_zero]), Lib.hid (hR6.base HV2.out.low), by omega, by omega, by omega⟩
              case measure => simp [intOf]; omega
        · have HNO : Hid (¬ ((id = 0 ∨ id = 1) ∧ x.bind = id)) := Lib.hid (by have h0 := HB0.out; have h1 := HB1.out; omega)
          clear hi
          go_wp2
          go_roundw
          case rel => exact ⟨j + 1, A', c', d, n0 + 1, n1, by omega, by go_num, by go_num, by go_num, rfl, hdc, Lib.hid (by rw [HS.out, if_neg HNO.out, HD.out]), Lib.hid (by rw [HC0.out, HN0.out, if_pos HB0.out]), Lib.hid (by rw [HC1.out, HN1.out, if_neg HB1.out, Nat.add_zero]), HV, by omega, by omega, by omega⟩
          case measure => simp [intOf]; omega
        · have HNO : Hid (¬ ((id = 0 ∨ id = 1) ∧ x.bind = id)) := Lib.hid (by have h0 := HB0.out; have h1 := HB1.out; omega)
          clear hi
          go_wp2
          go_roundw
          case rel => exact ⟨j + 1, A', c', d, n0 + 1, n1, by omega, by go_num, by go_num, by go_num, rfl, hdc, Lib.hid (by rw [HS.out, if_neg HNO.out, HD.out]), Lib.hid (by rw [HC0.out, HN0.out, if_pos HB0.out]), Lib.hid (by rw [HC1.out, HN1.out, if_neg HB1.out, Nat.add_zero]), HV, by omega, by omega, by omega⟩
          case measure => simp [intOf]; omega
      by_cases hb1 : x.bind = 1
      · have t0 : (x.bind == 0) = false := by rw [hb1]; rfl
        have t1 : (x.bind == 1) = true := by rw [hb1]; rfl
        have HB0 : Hid (¬ x.bind = 0) := Lib.hid (by omega)
        have HB1 : Hid (x.bind = 1) := Lib.hid hb1
        clear hb0 hb1
        rcases hid with ⟨i0, i1, hi⟩ | ⟨i0, i1, hi⟩ | ⟨i0, i1, hi⟩
        · have HNO : Hid (¬ ((id = 0 ∨ id = 1) ∧ x.bind = id)) := Lib.hid (by have h0 := HB0.out; have h1 := HB1.out; omega)
          clear hi
          go_wp2
          go_roundw
          case rel => exact ⟨j + 1, A', c', d, n0, n1 + 1, by omega, by go_num, by go_num, by go_num, rfl, hdc, Lib.hid (by rw [HS.out, if_neg HNO.out, HD.out]), Lib.hid (by rw [HC0.out, HN0.out, if_neg HB0.out, Nat.add_zero]), Lib.hid (by rw [HC1.out, HN1.out, if_pos HB1.out]), HV, by omega, by omega, by omega⟩
          case measure => simp [intOf]; omega
        · have HYES : Hid ((id = 0 ∨ id = 1) ∧ x.bind = id) := Lib.hid ⟨by omega, by have := HB1.out; omega⟩
          clear hi
          have HXA := Lib.hid x0
          have HXW : Hid (∀ W, Below w0.heap.size w0 W → W.cell? ⟨b, o + j * 8, none⟩ = some (.int .u32 (x.addr : Int))) := Lib.hid (fun W hW => by
            obtain ⟨b9, o9, e9, _, z0, _⟩ := (HE.out.below hW).at8 j x HXL.out
            injection e9 with e9
            injection e9 with e9 e10 _
            subst e9 e10
            exact z0)
          obtain ⟨A2, k2, e2, -, HE1⟩ := HV.out.form
          injection e2 with e2 _ e3
          subst e2 e3
          have HE1 := Lib.hid HE1
          go_wp2
          go_loopw [11] (fun a wx => ∃ k n : Nat, k ≤ d.length ∧ a = .int .i64 k ∧ wx = wr.drewN n ∧ Hid (∀ y ∈ d.take k, y < x.addr)) (fun a _ => d.length - (intOf a).toNat)
          case atStart => exact ⟨0, 0, Nat.zero_le _, rfl, rfl, Lib.hid (by simp)⟩
          case round =>
            obtain ⟨k, n, hk, rfl, rfl, HK⟩ := hrel
            by_cases hkl : k < d.length
            · have hg : decide ((k : Int) < (d.length : Int)) = true := by simp; omega
              obtain ⟨y, hy⟩ : ∃ y, d[k]? = some y := ⟨_, List.getElem?_eq_getElem hkl⟩
              obtain ⟨b2, o2, rfl, hb2, y0⟩ := HE1.out.at1 k y hy
              have HY := Lib.hid hy
              clear hy
              by_cases hle : y < x.addr
              · have hg2 : decide ((y : Int) < (x.addr : Int)) = true := by simp; omega
                have HK2 : Hid (∀ z ∈ d.take (k + 1), z < x.addr) := Lib.hid (by
                  intro z hz
                  rw [take_snoc_of d k y HY.out, List.mem_append, List.mem_singleton] at hz
                  rcases hz with hz | rfl
                  · exact HK.out z hz
                  · exact hle)
                go_wp2
                go_quiet (fail)
                go_wp2
                go_roundw
                case rel => exact ⟨k + 1, n + nq, by omega, by go_num, rfl, HK2⟩
                case measure => simp [intOf]; omega
              · have hg2 : decide ((y : Int) < (x.addr : Int)) = false := by simp; omega
                have HIN : Hid (insA x.addr d = d.take k ++ [x.addr] ++ d.drop k) := Lib.hid (insA_of HK.out (.inr ⟨y, HY.out, hle⟩))
                go_wp2
                go_quiet (fail)
                obtain ⟨w2, hw2⟩ : ∃ w2, w2 = (wr.drewN n).drewN nq := ⟨_, rfl⟩
                have hB2 : Below wr.heap.size wr w2 := by rw [hw2, World.drewN_drewN]; exact drewN_lowA wr _
                rw [← hw2]
                have HV2 := Lib.hid (HV.out.later hB2)
                have HE2 : Hid (El ElemA w2 w2.heap.size (some ⟨b2, o2, none⟩) d) := Lib.hid (HE1.out.later hB2)
                have HL2 := Lib.hid ((HEr.out.below ((hB2.mono HV.out.low.size)) : El ElemL w2 w0.heap.size _ L))
                have HDr := Lib.hid (show (d.take k).length = k by rw [List.length_take]; omega)
                have HDd := Lib.hid (show (d.drop k).length = d.length - k from List.length_drop)
                have hh1 : ∀ W, (Instr.slice 35 (.slice (some ⟨b2, o2, none⟩) d.length c') none (some (.int .i64 (k : Int))) none).run Try.prog W = .ok (.slice (some ⟨b2, o2, none⟩) k c') W := fun W => by
                  have := run_headE ElemA (some ⟨b2, o2, none⟩) d.length c' (k : Int) (by omega) (by omega) W
                  rwa [Int.toNat_natCast] at this
                obtain ⟨A3, hA3⟩ : ∃ A3, A3 = (if c' = k then (some ⟨b2, o2, none⟩) else (some ⟨b2, o2, none⟩ : Option Addr).map (·.add (k * ElemA.m))) := ⟨_, rfl⟩
                have hh2 : ∀ W, (Instr.slice 35 (.slice (some ⟨b2, o2, none⟩) d.length c') (some (.int .i64 (k : Int))) none none).run Try.prog W = .ok (.slice A3 (d.length - k) (c' - k)) W := fun W => by
                  have := run_tailE ElemA (some ⟨b2, o2, none⟩) d.length c' (k : Int) (by omega) (by omega) W
                  rw [Int.toNat_natCast, ← hA3] at this
                  exact this
                have HCUT : Hid (El ElemA w2 w2.heap.size A3 (d.drop k)) := Lib.hid (by rw [hA3]; exact HE2.out.cut hk hdc)
                have HLIT : Hid (RowE ElemA w2 (w2.alloc (.cells #[] 41)) (.slice (some ⟨w2.heap.size, 0, none⟩) 0 0) []) := Lib.hid (RowE.lit (E := ElemA) (Below.refl _ w2) [] (by simp) #[] rfl)
                have hz1 : ([] : List Nat).length + (d.take k).length ≤ 100000000000 := by rw [HDr.out]; simp; omega
                have HXC := Lib.hid ((HV2.out.low.cell (p := ⟨b, o + j * 8, none⟩) (by omega)))
                clear hw2 hB2 hA3 x0 x1
                have e0 : Below w2.heap.size w2 (w2.alloc (.cells #[] 41)) := (Below.refl _ _).alloc (Nat.le_refl _) _
                have HT1 := Lib.hid ((HE2.out.take k).below e0)
                have HX0 := Lib.hid HXA.out
                clear e0
                go_wp2_with (first
                  | (at_builtin; refine wpList_rowE (E := ElemA) rfl (.tmp 76) (.tmp 79) rfl rfl HLIT.out (d.take k) HDr.out rfl HT1.out hz1 ?_; intro A4 k4 w3 l4 HL4 hR4 hk4 _ _; have HR4 := Lib.hid hR4; have x0 := HXW.out w3 (HV2.out.low.trans (hR4.low.mono HV2.out.low.size)); have hz2 : l4.length + [x.addr].length ≤ 100000000000 := (by rw [HL4.out]; simp; omega); have HLX := Lib.hid (El.lit (E := ElemA) w3 [x.addr] #[.int .u32 (x.addr : Int)] 41 rfl); clear hR4)
                  | (at_builtin; refine wpList_rowE (E := ElemA) rfl (.tmp 81) (.tmp 87) rfl rfl (HR4.out.alloc _) [x.addr] rfl rfl HLX.out hz2 ?_; intro A5 k5 w4 l5 HL5 hR5 hk5 _ _; have HR5 := Lib.hid hR5; have HT5 := Lib.hid (HCUT.out.below hR5.low); have hz3 : l5.length + (d.drop k).length ≤ 100000000000 := (by rw [HL5.out, HL4.out, HDd.out]; simp; omega); clear hR5)
                  | (at_builtin; refine wpList_rowE (E := ElemA) rfl (.tmp 89) (.tmp 92) rfl rfl HR5.out (d.drop k) HDd.out rfl HT5.out hz3 ?_; intro A6 k6 w5 l6 HL6 hR6 hk6 _ _))
                have HFIN : Hid (l6 = insA x.addr d) := Lib.hid (by rw [HL6.out, HL5.out, HL4.out, HIN.out]; simp)
                have hlen : l6.length ≤ d.length + 1 := by rw [HFIN.out, insA_length]; exact Nat.le_refl _
                go_roundw
                case rel => exact ⟨j + 1, A6, k6, l6, n0, n1 + 1, by omega, by go_num, by go_num, by go_num, rfl, hk6, Lib.hid (by rw [HFIN.out, HS.out, if_pos HYES.out, HD.out]), Lib.hid (by rw [HC0.out, HN0.out, if_neg HB0.out, Nat.add_zero]), Lib.hid (by rw [HC1.out, HN1.out, if_pos HB1.out]), Lib.hid (hR6.base HV2.out.low), by omega, by omega, by omega⟩
                case measure => simp [intOf]; omega
            · have hg : decide ((k : Int) < (d.length : Int)) = false := by simp; omega
              have HIN : Hid (insA x.addr d = d.take k ++ [x.addr] ++ d.drop k) := Lib.hid (insA_of HK.out (.inl (by omega)))
              go_wp2
              go_quiet (fail)
              obtain ⟨w2, hw2⟩ : ∃ w2, w2 = (wr.drewN n).drewN nq := ⟨_, rfl⟩
              have hB2 : Below wr.heap.size wr w2 := by rw [hw2, World.drewN_drewN]; exact drewN_lowA wr _
              rw [← hw2]
              have HV2 := Lib.hid (HV.out.later hB2)
              have HE2 : Hid (El ElemA w2 w2.heap.size (A') d) := Lib.hid (HE1.out.later hB2)
              have HL2 := Lib.hid ((HEr.out.below ((hB2.mono HV.out.low.size)) : El ElemL w2 w0.heap.size _ L))
              have HDr := Lib.hid (show (d.take k).length = k by rw [List.length_take]; omega)
              have HDd := Lib.hid (show (d.drop k).length = d.length - k from List.length_drop)
              have hh1 : ∀ W, (Instr.slice 35 (.slice (A') d.length c') none (some (.int .i64 (k : Int))) none).run Try.prog W = .ok (.slice (A') k c') W := fun W => by
                have := run_headE ElemA (A') d.length c' (k : Int) (by omega) (by omega) W
                rwa [Int.toNat_natCast] at this
              obtain ⟨A3, hA3⟩ : ∃ A3, A3 = (if c' = k then (A') else (A' : Option Addr).map (·.add (k * ElemA.m))) := ⟨_, rfl⟩
              have hh2 : ∀ W, (Instr.slice 35 (.slice (A') d.length c') (some (.int .i64 (k : Int))) none none).run Try.prog W = .ok (.slice A3 (d.length - k) (c' - k)) W := fun W => by
                have := run_tailE ElemA (A') d.length c' (k : Int) (by omega) (by omega) W
                rw [Int.toNat_natCast, ← hA3] at this
                exact this
              have HCUT : Hid (El ElemA w2 w2.heap.size A3 (d.drop k)) := Lib.hid (by rw [hA3]; exact HE2.out.cut hk hdc)
              have HLIT : Hid (RowE ElemA w2 (w2.alloc (.cells #[] 41)) (.slice (some ⟨w2.heap.size, 0, none⟩) 0 0) []) := Lib.hid (RowE.lit (E := ElemA) (Below.refl _ w2) [] (by simp) #[] rfl)
              have hz1 : ([] : List Nat).length + (d.take k).length ≤ 100000000000 := by rw [HDr.out]; simp; omega
              have HXC := Lib.hid ((HV2.out.low.cell (p := ⟨b, o + j * 8, none⟩) (by omega)))
              clear hw2 hB2 hA3 x0 x1
              have e0 : Below w2.heap.size w2 (w2.alloc (.cells #[] 41)) := (Below.refl _ _).alloc (Nat.le_refl _) _
              have HT1 := Lib.hid ((HE2.out.take k).below e0)
              have HX0 := Lib.hid HXA.out
              clear e0
              go_wp2_with (first
                | (at_builtin; refine wpList_rowE (E := ElemA) rfl (.tmp 76) (.tmp 79) rfl rfl HLIT.out (d.take k) HDr.out rfl HT1.out hz1 ?_; intro A4 k4 w3 l4 HL4 hR4 hk4 _ _; have HR4 := Lib.hid hR4; have x0 := HXW.out w3 (HV2.out.low.trans (hR4.low.mono HV2.out.low.size)); have hz2 : l4.length + [x.addr].length ≤ 100000000000 := (by rw [HL4.out]; simp; omega); have HLX := Lib.hid (El.lit (E := ElemA) w3 [x.addr] #[.int .u32 (x.addr : Int)] 41 rfl); clear hR4)
                | (at_builtin; refine wpList_rowE (E := ElemA) rfl (.tmp 81) (.tmp 87) rfl rfl (HR4.out.alloc _) [x.addr] rfl rfl HLX.out hz2 ?_; intro A5 k5 w4 l5 HL5 hR5 hk5 _ _; have HR5 := Lib.hid hR5; have HT5 := Lib.hid (HCUT.out.below hR5.low); have hz3 : l5.length + (d.drop k).length ≤ 100000000000 := (by rw [HL5.out, HL4.out, HDd.out]; simp; omega); clear hR5)
                | (at_builtin; refine wpList_rowE (E := ElemA) rfl (.tmp 89) (.tmp 92) rfl rfl HR5.out (d.drop k) HDd.out rfl HT5.out hz3 ?_; intro A6 k6 w5 l6 HL6 hR6 hk6 _ _))
              have HFIN : Hid (l6 = insA x.addr d) := Lib.hid (by rw [HL6.out, HL5.out, HL4.out, HIN.out]; simp)
              have hlen : l6.length ≤ d.length + 1 := by rw [HFIN.out, insA_length]; exact Nat.le_refl _
              go_roundw
              case rel => exact ⟨j + 1, A6, k6, l6, n0, n1 + 1, by omega, by go_num, by go_num, by go_num, rfl, hk6, Lib.hid (by rw [HFIN.out, HS.out, if_pos HYES.out, HD.out]), Lib.hid (by rw [HC0.out, HN0.out, if_neg HB0.out, Nat.add_zero]), Lib.hid (by rw [HC1.out, HN1.out, if_pos HB1.out]), Lib.hid (hR6.base HV2.out.low), by omega, by omega, by omega⟩
              case measure => simp [intOf]; omega
        · have HNO : Hid (¬ ((id = 0 ∨ id = 1) ∧ x.bind = id)) := Lib.hid (by have h0 := HB0.out; have h1 := HB1.out; omega)
          clear hi
          go_wp2
          go_roundw
          case rel => exact ⟨j + 1, A', c', d, n0, n1 + 1, by omega, by go_num, by go_num, by go_num, rfl, hdc, Lib.hid (by rw [HS.out, if_neg HNO.out, HD.out]), Lib.hid (by rw [HC0.out, HN0.out, if_neg HB0.out, Nat.add_zero]), Lib.hid (by rw [HC1.out, HN1.out, if_pos HB1.out]), HV, by omega, by omega, by omega⟩
          case measure => simp [intOf]; omega
      have t0 : (x.bind == 0) = false := by simpa using hb0
      have t1 : (x.bind == 1) = false := by simpa using hb1
      have HB0 : Hid (¬ x.bind = 0) := Lib.hid hb0
      have HB1 : Hid (¬ x.bind = 1) := Lib.hid hb1
      clear hb0 hb1
      rcases hid with ⟨i0, i1, hi⟩ | ⟨i0, i1, hi⟩ | ⟨i0, i1, hi⟩
      · have HNO : Hid (¬ ((id = 0 ∨ id = 1) ∧ x.bind = id)) := Lib.hid (by have h0 := HB0.out; have h1 := HB1.out; omega)
        clear hi
        go_wp2
        go_roundw
        case rel => exact ⟨j + 1, A', c', d, n0, n1, by omega, by go_num, by go_num, by go_num, rfl, hdc, Lib.hid (by rw [HS.out, if_neg HNO.out, HD.out]), Lib.hid (by rw [HC0.out, HN0.out, if_neg HB0.out, Nat.add_zero]), Lib.hid (by rw [HC1.out, HN1.out, if_neg HB1.out, Nat.add_zero]), HV, by omega, by omega, by omega⟩
        case measure => simp [intOf]; omega
      · have HNO : Hid (¬ ((id = 0 ∨ id = 1) ∧ x.bind = id)) := Lib.hid (by have h0 := HB0.out; have h1 := HB1.out; omega)
        clear hi
        go_wp2
        go_roundw
        case rel => exact ⟨j + 1, A', c', d, n0, n1, by omega, by go_num, by go_num, by go_num, rfl, hdc, Lib.hid (by rw [HS.out, if_neg HNO.out, HD.out]), Lib.hid (by rw [HC0.out, HN0.out, if_neg HB0.out, Nat.add_zero]), Lib.hid (by rw [HC1.out, HN1.out, if_neg HB1.out, Nat.add_zero]), HV, by omega, by omega, by omega⟩
        case measure => simp [intOf]; omega
      · have HNO : Hid (¬ ((id = 0 ∨ id = 1) ∧ x.bind = id)) := Lib.hid (by have h0 := HB0.out; have h1 := HB1.out; omega)
        clear hi
        go_wp2
        go_roundw
        case rel => exact ⟨j + 1, A', c', d, n0, n1, by omega, by go_num, by go_num, by go_num, rfl, hdc, Lib.hid (by rw [HS.out, if_neg HNO.out, HD.out]), Lib.hid (by rw [HC0.out, HN0.out, if_neg HB0.out, Nat.add_zero]), Lib.hid (by rw [HC1.out, HN1.out, if_neg HB1.out, Nat.add_zero]), HV, by omega, by omega, by omega⟩
        case measure => simp [intOf]; omega
    · have HT : Hid (L.take j = L) := Lib.hid (List.take_of_length_le (by omega))
      have HPr := Lib.hid (HP.out.later HV.out.low)
      have c0 := HPr.out.c0
      have c1 := HPr.out.c1
      have HGG := Lib.hid (HG.out (n0 : Int) (n1 : Int))
      have HFF : Hid (0 ≤ givV p s id (n0 : Int) (n1 : Int) ∧ (givV p s id (n0 : Int) (n1 : Int)).toNat ≤ d.length) := Lib.hid (by
        have h := HFIT.out
        rw [HN0.out, HN1.out, HD.out, HT.out]
        exact h)
      have HRES : Hid (chV p s id L = topA (givV p s id (n0 : Int) (n1 : Int)).toNat d) := Lib.hid (by
        rw [HCH.out, HN0.out, HN1.out, HD.out, HT.out])
      obtain ⟨n, hn⟩ : ∃ n : Nat, givV p s id (n0 : Int) (n1 : Int) = (n : Int) := Int.eq_ofNat_of_zero_le HFF.out.1
      rw [hn] at HGG HFF HRES
      have hnl : n ≤ d.length := by have := HFF.out.2; rwa [Int.toNat_natCast] at this
      clear hn
      go_wp2_with fail
      refine (HGG.out _).mono ?_
      rintro e w6 ⟨rfl, hb6⟩
      have HV6 := Lib.hid (HV.out.later hb6)
      clear hb6 c0 c1
      obtain ⟨q, hq⟩ : ∃ q, q = d.length - n := ⟨_, rfl⟩
      have e1 : (d.length : Int) - (n : Int) = (q : Int) := by omega
      obtain ⟨A2, k2, e2, -, HE1⟩ := HV6.out.form
      injection e2 with e2 _ e3
      subst e2 e3
      obtain ⟨A3, hA3⟩ : ∃ A3, A3 = (if c' = q then A' else (A' : Option Addr).map (·.add (q * ElemA.m))) := ⟨_, rfl⟩
      have hh2 : ∀ W, (Instr.slice 35 (.slice A' d.length c') (some (.int .i64 (q : Int))) none none).run Try.prog W = .ok (.slice A3 (d.length - q) (c' - q)) W := fun W => by
        have := run_tailE ElemA A' d.length c' (q : Int) (by omega) (by omega) W
        rw [Int.toNat_natCast, ← hA3] at this
        exact this
      have HFINAL : Hid (El ElemA w6 w6.heap.size A3 (d.drop q)) := Lib.hid (by rw [hA3]; exact HE1.cut (by omega) hdc)
      have HBLK : Hid (∀ ad, A3 = some ad → w.heap.size ≤ ad.block) := Lib.hid (fun ad h => by
        have hlo : ∀ k, (Value.slice A' d.length c').ownBlock = some k → w0.heap.size ≤ k := fun k hk => (HV6.out.lt k hk).1
        rw [hA3] at h
        have hs := HB0.out.size
        cases A' with
        | none => split at h <;> cases h
        | some a =>
          have h1 := hlo a.block rfl
          split at h
          · injection h with h; subst h; omega
          · injection h with h; subst h
            have : (a.add (q * ElemA.m)).block = a.block := by unfold Addr.add; split <;> rfl
            show w.heap.size ≤ (a.add (q * ElemA.m)).block
            rw [this]
            omega)
      have HRL : Hid (chV p s id L = d.drop q) := Lib.hid (by rw [HRES.out, Int.toNat_natCast, hq]; rfl)
      have HDL : Hid ((d.drop q).length = d.length - q) := Lib.hid List.length_drop
      have HQ := Lib.hid hq
      clear HE1 hA3 hq
      go_wp2
      go_ret
      refine ⟨A3, c' - q, ?_, ?_, ?_, HBLK.out, HB0.out.trans (HV6.out.low.mono HB0.out.size)⟩
      · rw [HRL.out, HDL.out]
        rfl
      · rw [HRL.out, HDL.out]; omega
      · rw [HRL.out]; exact HFINAL.out
end Go.Proofs.Ytiapmnedbjmmhaa
