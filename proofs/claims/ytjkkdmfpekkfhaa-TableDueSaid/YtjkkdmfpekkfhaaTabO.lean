/- The document's table: Of, Due. -/
import Derived.Test.YtjkkdmfpekkfhaaTabS
namespace Go.Proofs.Ytjkkdmfpekkfhaa
open Go.RowKit Go.Sort

/-- Leases are answered, in a row made since. -/
def GivesE (w : World) (l : List LV) (e : Ending) (w' : World) : Prop :=
  ∃ A c l', e = .returned (.slice A l'.length c) ∧ Hid (l' = l) ∧ RowE ElemL w w' (.slice A l'.length c) l' ∧ l'.length ≤ c
theorem of_snoc (L : List LV) (x : LV) (c : List UInt8) : ofL (L ++ [x]) c = ofL L c ++ (if (decide (HeldL x.bind) && x.client == c) = true then [x] else []) := by
  unfold ofL
  rw [List.filter_append]
  congr 1
  rw [List.filter_cons, List.filter_nil]
theorem cells8 (x : LV) : x.cells.toList = ecells ElemL [x] := (ecells_one_elem ElemL x).symm

set_option maxRecDepth 100000 in
set_option maxHeartbeats 4000000 in
theorem rof_any {w0 w : World} {g : Nat} {v : Value} {L : List LV} (s : ByteArray) (h : RT w0 w g v L) (hL : L.length ≤ 100000) :
    Calls Try.prog 22 #[.pointer (some ⟨g, 0, none⟩), .string s] w (GivesE w (ofL L s.data.toList)) := by
  have hgl := h.lt
  obtain ⟨A, c, -, c0, hlc, HE⟩ := h.read
  have HE := Lib.hid HE
  obtain ⟨cl, hcl⟩ : ∃ cl, cl = s.data.toList := ⟨_, rfl⟩
  have HCL : Hid (cl = s.toList) := Lib.hid (by rw [hcl, ByteArray.toList_eq])
  rw [← hcl]
  clear h hcl
  go_enter Try.func22, Try.ntmps22
  go_wp2
  have HC0 := Lib.hid c0
  clear c0
  go_loopw [5, 6, 7] (fun out i _ wr => ∃ (j : Nat) (A' : Option Addr) (c' : Nat) (d : List LV), j ≤ L.length ∧ i = .int .i64 j ∧ out = .slice A' d.length c' ∧ Hid (d = ofL (L.take j) cl) ∧ Hid (RowE ElemL w wr (.slice A' d.length c') d) ∧ d.length ≤ j) (fun _ i _ _ => L.length - (intOf i).toNat)
  case atStart => exact ⟨0, none, 0, [], Nat.zero_le _, rfl, rfl, Lib.hid rfl, Lib.hid (RowE.nil w), Nat.le_refl _⟩
  case round =>
    obtain ⟨j, A', c', d, hj, rfl, rfl, HD, HV, hdl⟩ := hrel
    have c0 := (HV.out.low.cell (p := ⟨g, 0, none⟩) hgl).trans HC0.out
    by_cases hlt : j < L.length
    · obtain ⟨x, hx⟩ : ∃ x, L[j]? = some x := ⟨_, List.getElem?_eq_getElem hlt⟩
      have HS : Hid (ofL (L.take (j + 1)) cl = ofL (L.take j) cl ++ (if (decide (HeldL x.bind) && x.client == cl) = true then [x] else [])) := Lib.hid (by rw [take_snoc_of L j x hx, of_snoc])
      obtain ⟨b, o, rfl, hb, x0, x1, x2, x3, x4, x5, x6, x7⟩ := (HE.out.below HV.out.low).at8 j x hx
      clear hx
      have HTL : Hid (x.cb.toList = x.client) := Lib.hid (cb_toList x)
      by_cases hh : HeldL x.bind
      rotate_left
      · have b2 : (x.bind == 2) = false := by unfold HeldL at hh; simp; omega
        have b3 : (x.bind == 3) = false := by unfold HeldL at hh; simp; omega
        have b4 : (x.bind == 4) = false := by unfold HeldL at hh; simp; omega
        have HNO : Hid ((decide (HeldL x.bind) && x.client == cl) = false) := Lib.hid (by rw [decide_eq_false hh, Bool.false_and])
        clear hh
        go_wp2
        go_roundw
        case rel => exact ⟨j + 1, A', c', d, by omega, by go_num, rfl, Lib.hid (by rw [HS.out, HNO.out, HD.out]; simp), HV, by omega⟩
        case measure => simp [intOf]; omega
      · by_cases he : x.client = cl
        rotate_left
        · have hq : (x.cb.toList == s.toList) = false := by rw [HTL.out, ← HCL.out]; simpa using he
          have HNO : Hid ((decide (HeldL x.bind) && x.client == cl) = false) := Lib.hid (by simp [he])
          clear he
          rcases hh with hb2 | hb2 | hb2
          · have b2 : (x.bind == 2) = true := by rw [hb2]; rfl
            clear hb2
            go_wp2
            go_roundw
            case rel => exact ⟨j + 1, A', c', d, by omega, by go_num, rfl, Lib.hid (by rw [HS.out, HNO.out, HD.out]; simp), HV, by omega⟩
            case measure => simp [intOf]; omega
          · have b2 : (x.bind == 2) = false := by rw [hb2]; rfl
            have b3 : (x.bind == 3) = true := by rw [hb2]; rfl
            clear hb2
            go_wp2
            go_roundw
            case rel => exact ⟨j + 1, A', c', d, by omega, by go_num, rfl, Lib.hid (by rw [HS.out, HNO.out, HD.out]; simp), HV, by omega⟩
            case measure => simp [intOf]; omega
          · have b2 : (x.bind == 2) = false := by rw [hb2]; rfl
            have b3 : (x.bind == 3) = false := by rw [hb2]; rfl
            have b4 : (x.bind == 4) = true := by rw [hb2]; rfl
            clear hb2
            go_wp2
            go_roundw
            case rel => exact ⟨j + 1, A', c', d, by omega, by go_num, rfl, Lib.hid (by rw [HS.out, HNO.out, HD.out]; simp), HV, by omega⟩
            case measure => simp [intOf]; omega
        · have hq : (x.cb.toList == s.toList) = true := by rw [HTL.out, ← HCL.out]; simpa using he
          have HYES : Hid ((decide (HeldL x.bind) && x.client == cl) = true) := Lib.hid (by simp [he, hh])
          have HLIT := Lib.hid (El.lit (E := ElemL) wr [x] x.cells 34 (cells8 x))
          have hsz : d.length + [x].length ≤ 100000000000 := by rw [List.length_singleton]; omega
          have HDL := Lib.hid hdl
          clear he hdl
          rcases hh with hb2 | hb2 | hb2
          · have b2 : (x.bind == 2) = true := by rw [hb2]; rfl
            clear hb2
            go_wp2_with (at_builtin; refine wpList_rowE (E := ElemL) rfl (.tmp 47) (.tmp 55) rfl rfl (HV.out.alloc _) [x] rfl rfl HLIT.out hsz ?_; intro A1 k1 w1 l1 HL1 hR1 hk1 hE1 _)
            go_roundw
            case rel => exact ⟨j + 1, A1, k1, l1, by omega, by go_num, rfl, Lib.hid (by rw [HL1.out, HS.out, HYES.out, HD.out]; rfl), Lib.hid hR1, by rw [HL1.out, List.length_append]; have := HDL.out; simp; omega⟩
            case measure => simp [intOf]; omega
          · have b2 : (x.bind == 2) = false := by rw [hb2]; rfl
            have b3 : (x.bind == 3) = true := by rw [hb2]; rfl
            clear hb2
            go_wp2_with (at_builtin; refine wpList_rowE (E := ElemL) rfl (.tmp 47) (.tmp 55) rfl rfl (HV.out.alloc _) [x] rfl rfl HLIT.out hsz ?_; intro A1 k1 w1 l1 HL1 hR1 hk1 hE1 _)
            go_roundw
            case rel => exact ⟨j + 1, A1, k1, l1, by omega, by go_num, rfl, Lib.hid (by rw [HL1.out, HS.out, HYES.out, HD.out]; rfl), Lib.hid hR1, by rw [HL1.out, List.length_append]; have := HDL.out; simp; omega⟩
            case measure => simp [intOf]; omega
          · have b2 : (x.bind == 2) = false := by rw [hb2]; rfl
            have b3 : (x.bind == 3) = false := by rw [hb2]; rfl
            have b4 : (x.bind == 4) = true := by rw [hb2]; rfl
            clear hb2
            go_wp2_with (at_builtin; refine wpList_rowE (E := ElemL) rfl (.tmp 47) (.tmp 55) rfl rfl (HV.out.alloc _) [x] rfl rfl HLIT.out hsz ?_; intro A1 k1 w1 l1 HL1 hR1 hk1 hE1 _)
            go_roundw
            case rel => exact ⟨j + 1, A1, k1, l1, by omega, by go_num, rfl, Lib.hid (by rw [HL1.out, HS.out, HYES.out, HD.out]; rfl), Lib.hid hR1, by rw [HL1.out, List.length_append]; have := HDL.out; simp; omega⟩
            case measure => simp [intOf]; omega
    · obtain rfl : j = L.length := by omega
      have HD2 : Hid (d = ofL L cl) := Lib.hid (by rw [HD.out, List.take_of_length_le (Nat.le_refl _)])
      go_wp2
      go_ret
      obtain ⟨A1, k1, e1, hk1, _⟩ := HV.out.form
      injection e1 with e1 e2 e3
      subst e3
      exact ⟨A', c', d, rfl, HD2, HV.out, hk1⟩
end Go.Proofs.Ytjkkdmfpekkfhaa
