/- The program's closures over leases: what they test, and how they compare. -/
import Derived.Test.YtjkkdmfpekkfhaaTabI
import Derived.Test.YtjkkdmfpekkfhaaTabC
import Derived.Test.YtjkkdmfpekkfhaaAddrA
namespace Go.Proofs.Ytjkkdmfpekkfhaa
open Go.RowKit Go.Sort Go.Maps Go.Shelf Go.Lib

/-! ### tests -/
theorem all1_tests (w : World) : TestsL (fun _ => False) w 33 #[] fun _ => true := by
  intro x W _ _
  show Calls Try.prog 33 #[x.v] W _
  go_enter Try.func33, Try.ntmps33
  go_wp2
  go_ret
  exact ⟨rfl, (Below.refl _ _).alloc (Nat.le_refl _) _⟩

theorem bound1_tests {w : World} {c : Nat} {q : Int} (hc : Boxed w c 3 (.int .i64 q)) : TestsL (fun k => k = c) w 52 #[.pointer (some ⟨c, 0, none⟩)] fun y => y.bind == q := by
  intro x W hz hk
  show Calls Try.prog 52 #[x.v, .pointer (some ⟨c, 0, none⟩)] W _
  have hb : Boxed (W.alloc (lbox x)) c 3 (.int .i64 q) := Boxed.alloc ((hk c rfl).trans hc) _
  have c1 := hb.cell
  have c2 := (LBox.new W x).c1
  clear hb
  go_enter Try.func52, Try.ntmps52
  go_wp2
  go_ret
  refine ⟨?_, (Below.refl _ _).alloc (Nat.le_refl _) _⟩
  first | rfl | (congr 2; simp [BEq.beq])

theorem due1_tests {w : World} {c : Nat} {q : Int} (hc : Boxed w c 3 (.int .i64 q)) : TestsL (fun k => k = c) w 36 #[.pointer (some ⟨c, 0, none⟩)] (actL q) := by
  intro x W hz hk
  show Calls Try.prog 36 #[x.v, .pointer (some ⟨c, 0, none⟩)] W _
  have hb : Boxed (W.alloc (lbox x)) c 3 (.int .i64 q) := Boxed.alloc ((hk c rfl).trans hc) _
  have c1 := hb.cell
  have c2 := (LBox.new W x).c1
  have c3 := (LBox.new W x).c3
  clear hb
  by_cases h : x.bind = 2
  · have hd : ((x.bind == 2) = true) := by simpa using h
    go_enter Try.func36, Try.ntmps36
    go_wp2
    go_ret
    refine ⟨?_, (Below.refl _ _).alloc (Nat.le_refl _) _⟩
    unfold actL
    rw [hd]
    rfl
  · have hd : ((x.bind == 2) = false) := by simpa using h
    go_enter Try.func36, Try.ntmps36
    go_wp2
    go_ret
    refine ⟨?_, (Below.refl _ _).alloc (Nat.le_refl _) _⟩
    unfold actL
    rw [hd]
    rfl

theorem held_any (q : Int) (W : World) : Calls Try.prog 41 #[.int .i64 q] W fun e w' => e = .returned (.bool (decide (HeldL q))) ∧ W = w' := by
  by_cases h2 : q = 2
  · subst h2
    go_enter Try.func41, Try.ntmps41
    go_wp2
    go_ret
    exact ⟨rfl, rfl⟩
  by_cases h3 : q = 3
  · subst h3
    go_enter Try.func41, Try.ntmps41
    go_wp2
    go_ret
    exact ⟨rfl, rfl⟩
  by_cases h4 : q = 4
  · subst h4
    go_enter Try.func41, Try.ntmps41
    go_wp2
    go_ret
    exact ⟨rfl, rfl⟩
  have e2 : (q == 2) = false := by simpa using h2
  have e3 : (q == 3) = false := by simpa using h3
  have e4 : (q == 4) = false := by simpa using h4
  have hd : decide (HeldL q) = false := decide_eq_false (by unfold HeldL; omega)
  go_enter Try.func41, Try.ntmps41
  go_wp2
  go_ret
  rw [hd]
  exact ⟨rfl, rfl⟩

theorem of1_tests {w : World} {c : Nat} {s : ByteArray} (hc : Boxed w c 9 (.string s)) : TestsL (fun k => k = c) w 40 #[.pointer (some ⟨c, 0, none⟩)] fun y => decide (HeldL y.bind) && y.client == s.data.toList := by
  intro x W hz hk
  show Calls Try.prog 40 #[x.v, .pointer (some ⟨c, 0, none⟩)] W _
  have hb : Boxed (W.alloc (lbox x)) c 9 (.string s) := Boxed.alloc ((hk c rfl).trans hc) _
  have c1 := hb.cell
  have c2 := (LBox.new W x).c1
  have c3 := (LBox.new W x).c2
  have HH := Lib.hid (fun W => held_any x.bind W)
  have HE : Hid ((x.cb.toList == s.toList) = (x.client == s.data.toList)) := Lib.hid (by rw [ByteArray.toList_eq, ByteArray.toList_eq, x.cb_data])
  clear hb
  show Calls _ _ _ _ fun e w' => e = .returned (.bool (decide (HeldL x.bind) && x.client == s.data.toList)) ∧ _
  cases h : decide (HeldL x.bind) with
  | true =>
    rw [h] at HH
    clear h
    go_enter Try.func40, Try.ntmps40
    go_wp2_with (go_at_call 41; refine (HH.out _).mono ?_; rintro e w' ⟨rfl, rfl⟩)
    go_ret
    refine ⟨?_, (Below.refl _ _).alloc (Nat.le_refl _) _⟩
    rw [← HE.out]
    rfl
  | false =>
    rw [h] at HH
    clear h
    go_enter Try.func40, Try.ntmps40
    go_wp2_with (go_at_call 41; refine (HH.out _).mono ?_; rintro e w' ⟨rfl, rfl⟩)
    go_ret
    exact ⟨rfl, (Below.refl _ _).alloc (Nat.le_refl _) _⟩

/-! ### orders -/
theorem byaddr_any (x y : LV) (W : World) : Calls Try.prog 35 #[x.v, y.v] W fun e w' => e = .returned (.int .i64 (cmpA x y)) ∧ w' = (W.alloc (lbox x)).alloc (lbox y) := by
  have hcon := fun W' => compare_addr x.addr y.addr W'
  unfold cmpA
  generalize cmpN x.addr y.addr = r at hcon ⊢
  go_enter Try.func35, Try.ntmps35
  go_wp2_with (go_at_call 56; refine (hcon _).mono ?_; rintro e w' ⟨rfl, rfl⟩)
  go_ret
  exact ⟨rfl, rfl⟩
theorem isNaN_int (x : Int) (w : World) : Calls Try.prog 57 #[.int .i64 x] w fun e w' => e = .returned (.bool false) ∧ w = w' := by
  go_enter Try.func57, Try.ntmps57
  go_wp2
  go_ret
  exact ⟨rfl, rfl⟩
theorem compare_int (x y : Int) (w : World) : Calls Try.prog 39 #[.int .i64 x, .int .i64 y] w fun e w' => e = .returned (.int .i64 (cmpI x y)) ∧ w = w' := by
  go_enter Try.func39, Try.ntmps39
  go_wp2_with (go_at_call 57; refine (isNaN_int _ _).mono ?_; rintro e w' ⟨rfl, rfl⟩)
  all_goals
    go_ret
    refine ⟨?_, rfl⟩
    unfold cmpI
    simp_all
  all_goals omega

/-- The first one that is not nought. -/
theorem or_any (g : Nat) (x y : Int) (w : World) (hg : w.heap[g]? = some (.cells #[.int .i64 x, .int .i64 y] 3 (0, 0))) : Calls Try.prog 38 #[.slice (some ⟨g, 0, none⟩) 2 2] w fun e w' => e = .returned (.int .i64 (if x = 0 then y else x)) ∧ w = w' := by
  have c0 := cell_of_row w g 0 _ _ _ hg
  have c1 := cell_of_row w g 1 _ _ _ hg
  simp at c0 c1
  obtain ⟨r, hr⟩ : ∃ r, r = if x = 0 then y else x := ⟨_, rfl⟩
  rw [← hr]
  have HR := Lib.hid hr
  clear hg hr
  go_enter Try.func38, Try.ntmps38
  go_wp2
  go_loop [8] (fun i => ∃ j : Nat, j ≤ 2 ∧ i = .int .i64 j ∧ Hid (1 ≤ j → x = 0) ∧ Hid (2 ≤ j → y = 0)) (fun i => 2 - (intOf i).toNat)
  case atStart => exact ⟨0, Nat.zero_le _, rfl, Lib.hid (by omega), Lib.hid (by omega)⟩
  case round =>
    obtain ⟨j, hj, rfl, H1, H2⟩ := hrel
    have h3 : j = 0 ∨ j = 1 ∨ j = 2 := by omega
    rcases h3 with rfl | rfl | rfl
    · by_cases hx : x = 0
      · have hd : (x != 0) = false := by simpa using hx
        have HX := Lib.hid hx
        clear hx
        go_wp2
        go_round
        case rel => exact ⟨1, by omega, by go_num, Lib.hid (fun _ => HX.out), Lib.hid (by omega)⟩
        case measure => simp [intOf]
      · have hd : (x != 0) = true := by simpa using hx
        have HX := Lib.hid hx
        clear hx
        go_wp2
        go_ret
        rw [HR.out, if_neg HX.out]
        exact ⟨rfl, rfl⟩
    · by_cases hy : y = 0
      · have hd : (y != 0) = false := by simpa using hy
        have HY := Lib.hid hy
        clear hy
        go_wp2
        go_round
        case rel => exact ⟨2, by omega, by go_num, Lib.hid (fun _ => H1.out (by omega)), Lib.hid (fun _ => HY.out)⟩
        case measure => simp [intOf]
      · have hd : (y != 0) = true := by simpa using hy
        clear hy
        go_wp2
        go_ret
        rw [HR.out, if_pos (H1.out (by omega))]
        exact ⟨rfl, rfl⟩
    · go_wp2
      go_ret
      rw [HR.out, if_pos (H1.out (by omega)), H2.out (by omega)]
      exact ⟨rfl, rfl⟩
end Go.Proofs.Ytjkkdmfpekkfhaa
