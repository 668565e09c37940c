/- The law BalanceApart, walked. -/
import Derived.Test.YtamdhljoamggeaaLawBal
import Derived.Lib.ConvBytes
import Derived.Laws.IdiomStrings
namespace Go.Proofs.Ytamdhljoamggeaa
open Go.RowKit Go.Sort

def byteS (l : List UInt8) : ByteArray := ⟨l.toArray⟩
theorem byteS_toList (l : List UInt8) : (byteS l).toList = l := by
  rw [ByteArray.toList_eq]
  rfl
theorem listOf_byteS (l : List UInt8) : listOf (byteS l) = l := rfl
theorem byteS_size (l : List UInt8) : (byteS l).size = l.length := by simp [byteS, ByteArray.size]
theorem toList_listOf (s : ByteArray) : s.toList = listOf s := ByteArray.toList_eq s

set_option maxRecDepth 100000 in
set_option maxHeartbeats 1000000 in
theorem apart_out (s : ByteArray) (i : Int) (b : Nat) (h : i < 0 ∨ (s.size : Int) ≤ i ∨ 2000 < s.size) (w : World) :
    Calls Try.prog 6 #[.string s, .int .i64 i, .int .u8 (b : Int)] w fun e w' => e = .returned (.bool true) ∧ Below w.heap.size w w' := by
  have hor : decide (i < 0) = true ∨ (decide (i < 0) = false ∧ decide ((s.size : Int) ≤ i) = true) ∨ (decide (i < 0) = false ∧ decide ((s.size : Int) ≤ i) = false ∧ decide ((2000 : Int) < (s.size : Int)) = true) := by
    simp only [decide_eq_true_eq, decide_eq_false_iff_not]
    omega
  clear h
  rcases hor with h1 | ⟨h1, h2⟩ | ⟨h1, h2, h3⟩
  all_goals
    go_enter Try.func6, Try.ntmps6
    go_wp2_with fail
    refine (awake_any _).mono ?_
    rintro e w1 ⟨rfl, hb1⟩
    go_wp2
    go_ret
    exact ⟨rfl, hb1⟩

set_option maxRecDepth 100000 in
set_option maxHeartbeats 2000000 in
theorem apart_in (s : ByteArray) (i b : Nat) (hi : i < s.size) (hs : s.size ≤ 2000) (hb : b < 256) (w : World) :
    Calls Try.prog 6 #[.string s, .int .i64 (i : Int), .int .u8 (b : Int)] w fun e w' => e = .returned (.bool true) ∧ Below w.heap.size w w' := by
  have h1 : decide ((i : Int) < 0) = false := by simp
  have h2 : decide ((s.size : Int) ≤ (i : Int)) = false := by simp; omega
  have h2' : decide (s.size ≤ i) = false := by simp; omega
  have h3 : decide ((2000 : Int) < (s.size : Int)) = false := by simp; omega
  have HA := Lib.hid (bucket_any s (by omega))
  obtain ⟨l, hl⟩ : ∃ l, l = (listOf s).set i (UInt8.ofNat b) := ⟨_, rfl⟩
  have hln : l.length = s.size := by rw [hl, List.length_set, listOf_len]
  have HB := Lib.hid (bucket_any (byteS l) (by rw [byteS_size]; omega))
  rw [listOf_byteS] at HB
  have hiff := bk_apart (listOf s) i (UInt8.ofNat b) (by rw [listOf_len]; exact hi)
  rw [← hl] at hiff
  have HS := Lib.hid (fun W : World => Lib.run_convert_string_bytes (P := Try.prog) W 9 36 5 s (u := .string) (by kernel_rfl) (by kernel_rfl) (by kernel_rfl))
  have hq : (s.toList == (byteS l).toList) = decide (bkN (listOf s) = bkN l) := by
    rw [byteS_toList, toList_listOf, Bool.eq_iff_iff]
    simp [hiff]
  have HQ := Lib.hid hq
  have HLN := Lib.hid hln
  have HLL := Lib.hid hl
  clear hl hln hiff hq
  generalize bkN (listOf s) = x at *
  generalize bkN l = y at *
  go_enter Try.func6, Try.ntmps6
  go_wp2_with fail
  refine (awake_any _).mono ?_
  rintro e w1 ⟨rfl, hb1⟩
  have hcv := HS.out w1
  obtain ⟨cap, hcap⟩ : ∃ cap, cap = grownCap w1 s.size 0 5 := ⟨_, rfl⟩
  rw [← hcap] at hcv
  clear hcap
  have hsz := Lib.bytesWorld_size w1 5 s
  have hcell : ∀ j, j < s.size → (Lib.bytesWorld w1 5 s).cell? ⟨w1.heap.size, j, none⟩ = some (.int .u8 (((listOf s).getD j 0).toNat : Int)) := fun j hj => Lib.bytesWorld_cell w1 5 s j hj
  have hfr : (Lib.bytesWorld w1 5 s).frozen? ⟨w1.heap.size, i, none⟩ = false := by
    have h := Lib.bytesWorld_at_new w1 5 s
    have hsz : s.size ≤ (Lib.bytesCells w1 5 s).size := by
      have : (Lib.bytesCells w1 5 s).size = s.data.size + (grownCap w1 s.size 0 5 - s.size) := by rw [Lib.bytesCells, Array.size_append, Array.size_map, Array.size_replicate]
      rw [this]
      exact Nat.le_add_right _ _
    simp only [World.frozen?, h]
    simp
    omega
  have hbw : Below w1.heap.size w1 (Lib.bytesWorld w1 5 s) := by
    refine ⟨?_, ?_, ?_, by rw [hsz]; omega, fun k hk => Lib.bytesWorld_at_old w1 5 s k hk⟩
    all_goals (unfold Lib.bytesWorld World.freeze; split <;> rfl)
  have HC := Lib.hid hcell
  have hci := HC.out i hi
  generalize Lib.bytesWorld w1 5 s = w2 at *
  have HSZ := Lib.hid hsz
  have HB2 := Lib.hid (hb1.trans (hbw.mono hb1.size))
  have HBW := Lib.hid hb1
  clear hcell hsz hb1 hbw
  go_wp2
  obtain ⟨w3, hw3⟩ : ∃ w3, w3 = w2.setCell ⟨w1.heap.size, i, none⟩ (.int .u8 (b : Int)) := ⟨_, rfl⟩
  have hc3 : ∀ j (hj : j < l.length), w3.cell? ((⟨w1.heap.size, 0, none⟩ : Addr).add j) = some (.int .u8 (l[j].toNat : Int)) := by
    intro j hj
    have hadd : (⟨w1.heap.size, 0, none⟩ : Addr).add j = ⟨w1.heap.size, j, none⟩ := by rw [Addr.add_mid]; simp
    have hlj : l[j] = ((listOf s).set i (UInt8.ofNat b))[j]'(by rw [← HLL.out]; exact hj) := by simp only [HLL.out]
    rw [hadd, hw3, hlj, List.getElem_set]
    by_cases e : i = j
    · subst e
      rw [World.cell?_setCell_same _ _ _ hci, if_pos rfl, UInt8.toNat_ofNat', Nat.mod_eq_of_lt hb]
    · rw [World.cell?_setCell_other _ _ _ _ (fun h => e (congrArg Addr.off h)), if_neg e, HC.out j (by rw [← HLN.out]; exact hj), List.getD_eq_getElem?_getD, List.getElem?_eq_getElem (by rw [listOf_len, ← HLN.out]; exact hj), Option.getD_some]
  have hlt : w1.heap.size < w3.heap.size := by rw [hw3]; simp [HSZ.out]
  have HB3 : Hid (Below w.heap.size w w3) := Lib.hid (by rw [hw3]; exact HB2.out.setCell (by exact HBW.out.size) _)
  have hcv3 : ∀ (d : Nat) (os : Array Obj), (convert 36 9 (.slice (some ⟨w1.heap.size, 0, none⟩) s.size cap)).run Try.prog (grow (redrawn w3 d) os) = .ok (.string (byteS l)) (grow (redrawn w3 d) os) := by
    intro d os
    have h := run_convert_bytes_back (P := Try.prog) (grow (redrawn w3 d) os) 36 9 5 ⟨w1.heap.size, 0, none⟩ cap l (by kernel_rfl) (by kernel_rfl) (by kernel_rfl) (fun j hj => by
      rw [(below_regrown w3 d os).cell (by rw [Addr.add_mid]; exact hlt)]
      exact hc3 j hj)
    rw [HLN.out] at h
    exact h
  rw [← hw3]
  have C1 := Lib.hid (fun d os => Calls.regrown_of ((HA.out (grow (redrawn w3 d) os)).mono fun e w' (h : e = .returned _ ∧ _ = w') => ⟨h.1, h.2 ▸ Below.refl _ _⟩))
  have C2 := Lib.hid (fun d os => Calls.regrown_of ((HB.out (grow (redrawn w3 d) os)).mono fun e w' (h : e = .returned _ ∧ _ = w') => ⟨h.1, h.2 ▸ Below.refl _ _⟩))
  have hself : (decide (x = y) == decide (x = y)) = true := by simp
  have hq := HQ.out
  have hxy : ((x : Int) == (y : Int)) = decide (x = y) := by
    rw [Bool.eq_iff_iff]
    simp only [beq_iff_eq, decide_eq_true_eq]
    omega
  generalize decide (x = y) = v at *
  clear hc3 hci hfr hcv hw3
  refine wp_region_quiet_below (by kernel_rfl) (by kernel_rfl) ?_
  repeat (go_big_quiet_step ((first | with_reducible exact C1.out _ _ | with_reducible exact C2.out _ _)))
  refine wpQuiet_nil ?_
  intro _ hw'
  obtain ⟨⟨dq, osq⟩, hw''⟩ := hw'
  subst hw''
  go_wp2
  go_ret
  exact ⟨rfl, HB3.out.trans ((below_regrown w3 dq osq).mono HB3.out.size)⟩

theorem law_apart (s : ByteArray) (i : Int) (b : Nat) (hb : b < 256) (w : World) :
    Calls Try.prog 6 #[.string s, .int .i64 i, .int .u8 (b : Int)] w fun e w' => e = .returned (.bool true) ∧ Below w.heap.size w w' := by
  by_cases h : i < 0 ∨ (s.size : Int) ≤ i ∨ 2000 < s.size
  · exact apart_out s i b h w
  · obtain ⟨k, rfl⟩ := Int.eq_ofNat_of_zero_le (show 0 ≤ i by omega)
    exact apart_in s k b (by omega) (by omega) hb w
end Go.Proofs.Ytamdhljoamggeaa
