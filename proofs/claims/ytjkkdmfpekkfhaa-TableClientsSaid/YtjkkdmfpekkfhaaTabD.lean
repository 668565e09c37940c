/- The document's table: Due. -/
import Derived.Test.YtjkkdmfpekkfhaaTabO
namespace Go.Proofs.Ytjkkdmfpekkfhaa
open Go.RowKit Go.Sort

theorem takeWhile_of {α : Type} {p : α → Bool} : ∀ (l : List α) (k : Nat), (∀ x ∈ l.take k, p x = true) → (k = l.length ∨ ∃ x, l[k]? = some x ∧ p x = false) → l.take k = l.takeWhile p ∧ l.drop k = l.dropWhile p
  | [], k, _, _ => by simp
  | y :: r, 0, _, h => by
    rcases h with h | ⟨x, hx, hp⟩
    · simp at h
    · simp at hx
      subst hx
      simp [hp]
  | y :: r, k + 1, h1, h2 => by
    have hy := h1 y (by simp)
    obtain ⟨e1, e2⟩ := takeWhile_of r k (fun x hx => h1 x (by rw [List.take_succ_cons]; exact List.mem_cons_of_mem _ hx)) (by
      rcases h2 with h2 | ⟨x, hx, hp⟩
      · left; simpa using h2
      · right; exact ⟨x, by simpa using hx, hp⟩)
    rw [List.take_succ_cons, List.drop_succ_cons, List.takeWhile_cons, List.dropWhile_cons, if_pos hy, if_pos hy, e1, e2]
    exact ⟨rfl, rfl⟩
theorem insD_of {d : List LV} {x : LV} {k : Nat} (h1 : ∀ y ∈ d.take k, y.unt ≤ x.unt) (h2 : k = d.length ∨ ∃ y, d[k]? = some y ∧ ¬ y.unt ≤ x.unt) : insD d x = d.take k ++ [x] ++ d.drop k := by
  obtain ⟨e1, e2⟩ := takeWhile_of (p := fun y : LV => decide (y.unt ≤ x.unt)) d k (fun y hy => decide_eq_true (h1 y hy)) (by
    rcases h2 with h2 | ⟨y, hy, hn⟩
    · exact .inl h2
    · exact .inr ⟨y, hy, decide_eq_false hn⟩)
  unfold insD
  rw [e1, e2, List.append_assoc]
  rfl
theorem due_snoc (L : List LV) (x : LV) (now : Int) : dueL (L ++ [x]) now = if actL now x = true then insD (dueL L now) x else dueL L now := by
  unfold dueL
  rw [List.filter_append, List.foldl_append, List.filter_cons, List.filter_nil]
  split
  · rfl
  · rfl
theorem due_len_le (L : List LV) (now : Int) : (dueL L now).length ≤ L.length := by
  rw [due_length]; exact List.countP_le_length
theorem drewN_below (w : World) (n : Nat) : Below w.heap.size w (w.drewN n) := ⟨rfl, rfl, rfl, Nat.le_refl _, fun _ _ => rfl⟩

set_option maxRecDepth 100000 in
set_option maxHeartbeats 4000000 in
theorem rdue_any {w0 w : World} {g : Nat} {v : Value} {L : List LV} (now : Int) (h : RT w0 w g v L) (hL : L.length ≤ 100000) :
    Calls Try.prog 18 #[.pointer (some ⟨g, 0, none⟩), .int .i64 now] w (GivesE w (dueL L now)) := by
  have hgl := h.lt
  obtain ⟨A, c, -, c0, hlc, HE⟩ := h.read
  have HE := Lib.hid HE
  clear h
  go_enter Try.func18, Try.ntmps18
  go_wp2
  have HC0 := Lib.hid c0
  clear c0
  go_loopw [5, 6, 7, 8, 9] (fun out i _ _ _ wr => ∃ (j : Nat) (A' : Option Addr) (c' : Nat) (d : List LV), j ≤ L.length ∧ i = .int .i64 j ∧ out = .slice A' d.length c' ∧ d.length ≤ c' ∧ Hid (d = dueL (L.take j) now) ∧ Hid (RowE ElemL w wr (.slice A' d.length c') d) ∧ d.length ≤ j) (fun _ i _ _ _ _ => L.length - (intOf i).toNat)
  case atStart => exact ⟨0, none, 0, [], Nat.zero_le _, rfl, rfl, Nat.le_refl _, Lib.hid rfl, Lib.hid (RowE.nil w), Nat.le_refl _⟩
  case round =>
    obtain ⟨j, A', c', d, hj, rfl, rfl, hdc, HD, HV, hdl⟩ := hrel
    have c0 := (HV.out.low.cell (p := ⟨g, 0, none⟩) hgl).trans HC0.out
    by_cases hlt : j < L.length
    · obtain ⟨x, hx⟩ : ∃ x, L[j]? = some x := ⟨_, List.getElem?_eq_getElem hlt⟩
      have HS : Hid (dueL (L.take (j + 1)) now = if actL now x = true then insD (dueL (L.take j) now) x else dueL (L.take j) now) := Lib.hid (by rw [take_snoc_of L j x hx, due_snoc])
      obtain ⟨b, o, rfl, hb, x0, x1, x2, x3, x4, x5, x6, x7⟩ := (HE.out.below HV.out.low).at8 j x hx
      clear hx
      obtain ⟨w1, hw1⟩ : ∃ w1, w1 = wr.alloc (lbox x) := ⟨_, rfl⟩
      have HX : Hid (LBox w1 wr.heap.size x) := Lib.hid (by rw [hw1]; exact LBox.new wr x)
      have hB1 : Below wr.heap.size wr w1 := by rw [hw1]; exact (Below.refl _ _).alloc (Nat.le_refl _) _
      have HV1 := Lib.hid (HV.out.later hB1)
      have HW1 := Lib.hid hw1
      have HDL := Lib.hid hdl
      have hdb : d.length ≤ 100000 := by omega
      clear hw1 hB1 hdl
      go_upto_region 6 with fail
      rw [← HW1.out]
      clear x0 x1 x2 x3 x4 x5 x6 x7
      obtain ⟨x0, x1, x2, x3, x4, x5, x6, x7⟩ := HX.out.all
      by_cases h2 : x.bind = 2
      rotate_left
      · have hq : (x.bind != 2) = true := by simpa using h2
        have HNO : Hid (actL now x = false) := Lib.hid (by unfold actL; rw [show (x.bind == 2) = false from by simpa using h2, Bool.false_and])
        clear h2
        go_wp2
        go_roundw
        case rel => exact ⟨j + 1, A', c', d, by omega, by go_num, rfl, hdc, Lib.hid (by rw [HS.out, HNO.out, HD.out]; rfl), HV1, by have := HDL.out; omega⟩
        case measure => simp [intOf]; omega
      have hq : (x.bind != 2) = false := by simpa using h2
      by_cases hu : x.unt ≤ now
      rotate_left
      · have hq2 : decide (now < x.unt) = true := by simp; omega
        have HNO : Hid (actL now x = false) := Lib.hid (by unfold actL; rw [decide_eq_false hu, Bool.and_false])
        clear h2 hu
        go_wp2
        go_roundw
        case rel => exact ⟨j + 1, A', c', d, by omega, by go_num, rfl, hdc, Lib.hid (by rw [HS.out, HNO.out, HD.out]; rfl), HV1, by have := HDL.out; omega⟩
        case measure => simp [intOf]; omega
      have hq2 : decide (now < x.unt) = false := by simp; omega
      have HYES : Hid (actL now x = true) := Lib.hid (by unfold actL; simp [h2, hu])
      clear h2 hu
      go_wp2
      obtain ⟨A2, k2, e2, -, HE1⟩ := HV1.out.form
      injection e2 with e2 _ e3
      subst e2 e3
      have HE1 := Lib.hid HE1
      go_loopw [8] (fun a wx => ∃ k n : Nat, k ≤ d.length ∧ a = .int .i64 k ∧ wx = w1.drewN n ∧ Hid (∀ y ∈ d.take k, y.unt ≤ x.unt)) (fun a _ => d.length - (intOf a).toNat)
      case atStart => exact ⟨0, 0, Nat.zero_le _, rfl, rfl, Lib.hid (by simp)⟩
      case round =>
        obtain ⟨k, n, hk, rfl, rfl, HK⟩ := hrel
        by_cases hkl : k < d.length
        · have hg : decide ((k : Int) < (d.length : Int)) = true := by simp; omega
          obtain ⟨y, hy⟩ : ∃ y, d[k]? = some y := ⟨_, List.getElem?_eq_getElem hkl⟩
          obtain ⟨b2, o2, rfl, hb2, -, -, -, y3, -⟩ := HE1.out.at8 k y hy
          have HY := Lib.hid hy
          clear hy
          by_cases hle : y.unt ≤ x.unt
          · have hg2 : decide (y.unt ≤ x.unt) = true := decide_eq_true hle
            have HK2 : Hid (∀ z ∈ d.take (k + 1), z.unt ≤ x.unt) := Lib.hid (by
              intro z hz
              rw [take_snoc_of d k y HY.out, List.mem_append, List.mem_singleton] at hz
              rcases hz with hz | rfl
              · exact HK.out z hz
              · exact hle)
            clear hle
            go_wp2
            go_quiet (fail)
            go_wp2
            go_roundw
            case rel => exact ⟨k + 1, n + nq, by omega, by go_num, rfl, HK2⟩
            case measure => simp [intOf]; omega
          · have hg2 : decide (y.unt ≤ x.unt) = false := decide_eq_false hle
            have HIN : Hid (insD d x = d.take k ++ [x] ++ d.drop k) := Lib.hid (insD_of HK.out (.inr ⟨y, HY.out, hle⟩))
            clear hle
            go_wp2
            go_quiet (fail)
            obtain ⟨w2, hw2⟩ : ∃ w2, w2 = (w1.drewN n).drewN nq := ⟨_, rfl⟩
            have hB2 : Below w1.heap.size w1 w2 := by rw [hw2, World.drewN_drewN]; exact drewN_below w1 _
            rw [← hw2]
            have HX2 := Lib.hid (HX.out.later hB2)
            have HV2 := Lib.hid (HV1.out.later hB2)
            have HE2 : Hid (El ElemL w2 w2.heap.size (some ⟨b2, o2, none⟩) d) := Lib.hid (HE1.out.later hB2)
            have HDr := Lib.hid (show (d.take k).length = k by rw [List.length_take]; omega)
            have HDd := Lib.hid (show (d.drop k).length = d.length - k from List.length_drop)
            have hh1 : ∀ W, (Instr.slice 23 (.slice (some ⟨b2, o2, none⟩) d.length c') none (some (.int .i64 (k : Int))) none).run Try.prog W = .ok (.slice (some ⟨b2, o2, none⟩) k c') W := fun W => by
              have := run_headE ElemL (some ⟨b2, o2, none⟩) d.length c' (k : Int) (by omega) (by omega) W
              rwa [Int.toNat_natCast] at this
            obtain ⟨A3, hA3⟩ : ∃ A3, A3 = (if c' = k then (some ⟨b2, o2, none⟩) else (some ⟨b2, o2, none⟩ : Option Addr).map (·.add (k * ElemL.m))) := ⟨_, rfl⟩
            have hh2 : ∀ W, (Instr.slice 23 (.slice (some ⟨b2, o2, none⟩) d.length c') (some (.int .i64 (k : Int))) none none).run Try.prog W = .ok (.slice A3 (d.length - k) (c' - k)) W := fun W => by
              have := run_tailE ElemL (some ⟨b2, o2, none⟩) d.length c' (k : Int) (by omega) (by omega) W
              rw [Int.toNat_natCast, ← hA3] at this
              exact this
            have HCUT : Hid (El ElemL w2 w2.heap.size A3 (d.drop k)) := Lib.hid (by rw [hA3]; exact HE2.out.cut hk hdc)
            have HLIT : Hid (RowE ElemL w2 (w2.alloc (.cells #[] 34)) (.slice (some ⟨w2.heap.size, 0, none⟩) 0 0) []) := Lib.hid (RowE.lit (E := ElemL) (Below.refl _ w2) [] (by simp) #[] rfl)
            have hz1 : ([] : List LV).length + (d.take k).length ≤ 100000000000 := by rw [HDr.out]; simp; omega
            clear hw2 hB2 hA3 x0 x1 x2 x3 x4 x5 x6 x7
            have e0 : Below w2.heap.size w2 (w2.alloc (.cells #[] 34)) := (Below.refl _ _).alloc (Nat.le_refl _) _
            have HT1 := Lib.hid ((HE2.out.take k).below e0)
            have HB0 := Lib.hid e0
            clear e0
            go_wp2_with (first
              | (at_builtin; refine wpList_rowE (E := ElemL) rfl (.tmp 51) (.tmp 54) rfl rfl HLIT.out (d.take k) HDr.out rfl HT1.out hz1 ?_; intro A4 k4 w3 l4 HL4 hR4 hk4 _ _; have HR4 := Lib.hid hR4; obtain ⟨x0, x1, x2, x3, x4, x5, x6, x7⟩ := (HX2.out.later hR4.low).all; have hz2 : l4.length + [x].length ≤ 100000000000 := (by rw [HL4.out]; simp; omega); have HLX := Lib.hid (El.lit (E := ElemL) w3 [x] x.cells 34 (cells8 x)); clear hR4)
              | (at_builtin; refine wpList_rowE (E := ElemL) rfl (.tmp 56) (.tmp 58) rfl rfl (HR4.out.alloc _) [x] rfl rfl HLX.out hz2 ?_; intro A5 k5 w4 l5 HL5 hR5 hk5 _ _; have HR5 := Lib.hid hR5; have HT5 := Lib.hid (HCUT.out.below hR5.low); have hz3 : l5.length + (d.drop k).length ≤ 100000000000 := (by rw [HL5.out, HL4.out, HDd.out]; simp; omega); clear hR5)
              | (at_builtin; refine wpList_rowE (E := ElemL) rfl (.tmp 60) (.tmp 63) rfl rfl HR5.out (d.drop k) HDd.out rfl HT5.out hz3 ?_; intro A6 k6 w5 l6 HL6 hR6 hk6 _ _))
            have HFIN : Hid (l6 = insD d x) := Lib.hid (by rw [HL6.out, HL5.out, HL4.out, HIN.out]; simp)
            have hlen : l6.length ≤ d.length + 1 := by rw [HFIN.out, (insD_perm d x).length_eq, List.length_append, List.length_singleton]; omega
            go_roundw
            case rel => exact ⟨j + 1, A6, k6, l6, by omega, by go_num, rfl, hk6, Lib.hid (by rw [HFIN.out, HS.out, HYES.out, HD.out]; rfl), Lib.hid (hR6.base HV2.out.low), by have := HDL.out; omega⟩
            case measure => simp [intOf]; omega
        · have hg : decide ((k : Int) < (d.length : Int)) = false := by simp; omega
          have HIN : Hid (insD d x = d.take k ++ [x] ++ d.drop k) := Lib.hid (insD_of HK.out (.inl (by omega)))
          go_wp2
          go_quiet (fail)
          obtain ⟨w2, hw2⟩ : ∃ w2, w2 = (w1.drewN n).drewN nq := ⟨_, rfl⟩
          have hB2 : Below w1.heap.size w1 w2 := by rw [hw2, World.drewN_drewN]; exact drewN_below w1 _
          rw [← hw2]
          have HX2 := Lib.hid (HX.out.later hB2)
          have HV2 := Lib.hid (HV1.out.later hB2)
          have HE2 : Hid (El ElemL w2 w2.heap.size (A') d) := Lib.hid (HE1.out.later hB2)
          have HDr := Lib.hid (show (d.take k).length = k by rw [List.length_take]; omega)
          have HDd := Lib.hid (show (d.drop k).length = d.length - k from List.length_drop)
          have hh1 : ∀ W, (Instr.slice 23 (.slice (A') d.length c') none (some (.int .i64 (k : Int))) none).run Try.prog W = .ok (.slice (A') k c') W := fun W => by
            have := run_headE ElemL (A') d.length c' (k : Int) (by omega) (by omega) W
            rwa [Int.toNat_natCast] at this
          obtain ⟨A3, hA3⟩ : ∃ A3, A3 = (if c' = k then (A') else (A' : Option Addr).map (·.add (k * ElemL.m))) := ⟨_, rfl⟩
          have hh2 : ∀ W, (Instr.slice 23 (.slice (A') d.length c') (some (.int .i64 (k : Int))) none none).run Try.prog W = .ok (.slice A3 (d.length - k) (c' - k)) W := fun W => by
            have := run_tailE ElemL (A') d.length c' (k : Int) (by omega) (by omega) W
            rw [Int.toNat_natCast, ← hA3] at this
            exact this
          have HCUT : Hid (El ElemL w2 w2.heap.size A3 (d.drop k)) := Lib.hid (by rw [hA3]; exact HE2.out.cut hk hdc)
          have HLIT : Hid (RowE ElemL w2 (w2.alloc (.cells #[] 34)) (.slice (some ⟨w2.heap.size, 0, none⟩) 0 0) []) := Lib.hid (RowE.lit (E := ElemL) (Below.refl _ w2) [] (by simp) #[] rfl)
          have hz1 : ([] : List LV).length + (d.take k).length ≤ 100000000000 := by rw [HDr.out]; simp; omega
          clear hw2 hB2 hA3 x0 x1 x2 x3 x4 x5 x6 x7
          have e0 : Below w2.heap.size w2 (w2.alloc (.cells #[] 34)) := (Below.refl _ _).alloc (Nat.le_refl _) _
          have HT1 := Lib.hid ((HE2.out.take k).below e0)
          have HB0 := Lib.hid e0
          clear e0
          go_wp2_with (first
            | (at_builtin; refine wpList_rowE (E := ElemL) rfl (.tmp 51) (.tmp 54) rfl rfl HLIT.out (d.take k) HDr.out rfl HT1.out hz1 ?_; intro A4 k4 w3 l4 HL4 hR4 hk4 _ _; have HR4 := Lib.hid hR4; obtain ⟨x0, x1, x2, x3, x4, x5, x6, x7⟩ := (HX2.out.later hR4.low).all; have hz2 : l4.length + [x].length ≤ 100000000000 := (by rw [HL4.out]; simp; omega); have HLX := Lib.hid (El.lit (E := ElemL) w3 [x] x.cells 34 (cells8 x)); clear hR4)
            | (at_builtin; refine wpList_rowE (E := ElemL) rfl (.tmp 56) (.tmp 58) rfl rfl (HR4.out.alloc _) [x] rfl rfl HLX.out hz2 ?_; intro A5 k5 w4 l5 HL5 hR5 hk5 _ _; have HR5 := Lib.hid hR5; have HT5 := Lib.hid (HCUT.out.below hR5.low); have hz3 : l5.length + (d.drop k).length ≤ 100000000000 := (by rw [HL5.out, HL4.out, HDd.out]; simp; omega); clear hR5)
            | (at_builtin; refine wpList_rowE (E := ElemL) rfl (.tmp 60) (.tmp 63) rfl rfl HR5.out (d.drop k) HDd.out rfl HT5.out hz3 ?_; intro A6 k6 w5 l6 HL6 hR6 hk6 _ _))
          have HFIN : Hid (l6 = insD d x) := Lib.hid (by rw [HL6.out, HL5.out, HL4.out, HIN.out]; simp)
          have hlen : l6.length ≤ d.length + 1 := by rw [HFIN.out, (insD_perm d x).length_eq, List.length_append, List.length_singleton]; omega
          go_roundw
          case rel => exact ⟨j + 1, A6, k6, l6, by omega, by go_num, rfl, hk6, Lib.hid (by rw [HFIN.out, HS.out, HYES.out, HD.out]; rfl), Lib.hid (hR6.base HV2.out.low), by have := HDL.out; omega⟩
          case measure => simp [intOf]; omega
    · obtain rfl : j = L.length := by omega
      have HD2 : Hid (d = dueL L now) := Lib.hid (by rw [HD.out, List.take_of_length_le (Nat.le_refl _)])
      go_wp2
      go_ret
      exact ⟨A', c', d, rfl, HD2, HV.out, hdc⟩
end Go.Proofs.Ytjkkdmfpekkfhaa
