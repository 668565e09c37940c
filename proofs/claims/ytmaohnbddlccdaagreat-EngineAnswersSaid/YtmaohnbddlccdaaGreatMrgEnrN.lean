/- lessorref02.Bytes: what it answers was made since. -/
import Derived.Test.YtmaohnbddlccdaaGreatMrgPktM
namespace Go.Proofs.YtmaohnbddlccdaaGreat.NO
open Go.RowKit

/-- Bytes are given, in a row made since. -/
def GivesBN (w : World) (l : List UInt8) (code : Int) (e : Ending) (w' : World) : Prop :=
  ∃ A c, e = .returned (.tuple #[.slice A l.length c, .int .i64 code]) ∧ By w' w'.heap.size A l ∧ l.length ≤ c ∧ (∀ b o, A = some ⟨b, o, none⟩ → w.heap.size ≤ b) ∧ Below w.heap.size w w'

set_option maxRecDepth 100000 in
set_option maxHeartbeats 1000000 in
theorem rbytesN_ok (n m : Nat) (hn : n < 9223372036854775808) (hm : m ≤ 4) (hs : sizedB (m : Int) = true) (w : World) :
    Calls Tryz.prog 142 #[.int .i64 (n : Int), .int .i64 (m : Int)] w (GivesBN w (bytR n m).1 (bytR n m).2) := by
  have HR : Hid ((256 ^ m ≤ n ∧ bytR n m = ([], 1)) ∨ (n < 256 ^ m ∧ bytR n m = (beL n m, 0))) := by
    by_cases h : n < 256 ^ m
    · exact .inr ⟨h, bytR_ok hs h⟩
    · exact .inl ⟨Nat.le_of_not_lt h, bytR_big (Nat.le_of_not_lt h)⟩
  have hd0 : decide ((n : Int) < 0) = false := by simp
  have hmk := run_makeF m (by omega)
  have hone : ((m : Int) != 1) = false ∨ (((m : Int) != 1) = true ∧ ((m : Int) != 2) = false) ∨ (((m : Int) != 1) = true ∧ ((m : Int) != 2) = true ∧ ((m : Int) != 4) = false) := by
    simp [sizedB] at hs ⊢; omega
  have hm1 : 1 ≤ m := by simp [sizedB] at hs; omega
  clear hs
  have hown0 := madeF_own w w.heap.size m (Nat.le_refl _) (by omega)
  have hB0 : Below w.heap.size w (w.alloc (.cells (madeCells #[.int .u8 0] m) 5)) := (Below.refl _ _).alloc (Nat.le_refl _) _
  rcases hone with h1 | ⟨h1, h2⟩ | ⟨h1, h2, h4⟩
  all_goals
    go_enter Tryz.func142, Tryz.ntmps142
    go_wp2
    clear hmk
    go_loopw [0, 7] (fun nv i wr => ∃ k q : Nat, k ≤ m ∧ i = .int .i64 ((m : Int) - 1 - k) ∧ nv = .int .i64 (q : Int) ∧ q = n / 256 ^ k ∧ wr.ownsRow w.heap.size 5 1 (.slice (some ⟨w.heap.size, 0, none⟩) m m) m (bcells (tailP n m k)) ∧ Below w.heap.size w wr) (fun _ i _ => (intOf i + 1).toNat)
    case atStart => exact ⟨0, n, Nat.zero_le _, by simp, rfl, by simp, by rw [tailP_zero]; exact hown0, hB0⟩
    case round =>
      obtain ⟨k, q, hk, rfl, rfl, hq, hown, hB⟩ := hrel
      have hqn : q ≤ n := by rw [hq]; exact Nat.div_le_self _ _
      have HQ := Lib.hid hq
      clear hq
      by_cases hlt : k < m
      · obtain ⟨j, hj⟩ : ∃ j, j = m - 1 - k := ⟨_, rfl⟩
        have hjm : (m : Int) - 1 - k = (j : Int) := by omega
        have hcell := hown.cellAt j (by omega)
        obtain ⟨y, hy⟩ : ∃ y, (bcells (tailP n m k))[j]? = some y := ⟨_, List.getElem?_eq_getElem (by rw [bcells_length, tailP_length]; omega)⟩
        rw [hy] at hcell
        have hfr := hown.frozenAt j
        have hjlt : j < m := by omega
        have HJ := Lib.hid hj
        have HJM := Lib.hid hjm
        rw [hjm]
        clear hy hj hjm
        go_wp2
        have eb : (q : Int) % 256 = ((UInt8.ofNat q).toNat : Int) := by rw [UInt8.toNat_ofNat']; rfl
        rw [eb]
        have hst := hown.stored j (bV (UInt8.ofNat q))
        rw [bcells_set, HQ.out, HJ.out, tailP_set n m k hlt] at hst
        rw [← HQ.out, ← HJ.out] at hst
        go_roundw
        case rel => exact ⟨k + 1, q / 256, by omega, by have := HJM.out; congr 1; omega, by go_num, by rw [HQ.out, Nat.div_div_eq_div_mul, Nat.pow_succ], hst.1, own_below hB hB.size hown hst.2⟩
        case measure => simp [intOf]
      · obtain rfl : k = m := by omega
        rw [tailP_all] at hown
        have hby := By.of_own hown
        rw [show (k : Int) - 1 - k = -1 by omega]
        rcases HR.out with ⟨hge, hR⟩ | ⟨hlt', hR⟩
        · have HRR := Lib.hid hR
          have hq0 : 0 < q := by rw [HQ.out]; exact Nat.div_pos hge (Nat.pow_pos (by omega))
          clear hR hge
          go_wp2
          go_ret2
          rw [HRR.out]
          exact ⟨none, 0, rfl, By.nil, Nat.le_refl _, (fun b o e => by cases e), hB⟩
        · have HRR := Lib.hid hR
          have hq0 : q = 0 := by rw [HQ.out]; exact Nat.div_eq_of_lt hlt'
          clear hR hlt' HQ
          subst hq0
          go_wp2
          go_ret2
          rw [HRR.out]
          exact ⟨some ⟨w.heap.size, 0, none⟩, k, by rw [beL_length]; rfl, hby, by rw [beL_length]; exact Nat.le_refl _, (fun b o e => by injection e with e; injection e with e; omega), hB⟩

set_option maxRecDepth 100000 in
set_option maxHeartbeats 1000000 in
theorem rbytesN_any (n many : Int) (hn : n < 9223372036854775808) (w : World) :
    Calls Tryz.prog 142 #[.int .i64 n, .int .i64 many] w (GivesBN w (bytR n many).1 (bytR n many).2) := by
  cases hs : sizedB many
  · have HR := Lib.hid (bytR_bad_many (n := n) hs)
    have h1 : (many != 1) = true := by simp [sizedB] at hs ⊢; omega
    have h2 : (many != 2) = true := by simp [sizedB] at hs ⊢; omega
    have h4 : (many != 4) = true := by simp [sizedB] at hs ⊢; omega
    clear hs
    go_enter Tryz.func142, Tryz.ntmps142
    go_wp2
    go_ret2
    rw [HR.out]
    exact ⟨none, 0, rfl, By.nil, Nat.le_refl _, (fun b o e => by cases e), Below.refl _ _⟩
  · obtain ⟨m, rfl⟩ : ∃ m : Nat, many = m := ⟨many.toNat, by simp [sizedB] at hs; omega⟩
    have hm4 : m ≤ 4 := by simp [sizedB] at hs; omega
    by_cases hneg : n < 0
    · have HR := Lib.hid (bytR_neg (many := m) hneg)
      have hd : decide (n < 0) = true := by simpa using hneg
      have hone : ((m : Int) != 1) = false ∨ (((m : Int) != 1) = true ∧ ((m : Int) != 2) = false) ∨ (((m : Int) != 1) = true ∧ ((m : Int) != 2) = true ∧ ((m : Int) != 4) = false) := by
        simp [sizedB] at hs ⊢; omega
      clear hs
      rcases hone with h1 | ⟨h1, h2⟩ | ⟨h1, h2, h4⟩
      all_goals
        go_enter Tryz.func142, Tryz.ntmps142
        go_wp2
        go_ret2
        rw [HR.out]
        exact ⟨none, 0, rfl, By.nil, Nat.le_refl _, (fun b o e => by cases e), Below.refl _ _⟩
    · obtain ⟨q, rfl⟩ : ∃ q : Nat, n = q := ⟨n.toNat, by omega⟩
      exact rbytesN_ok q m (by omega) hm4 hs w
end Go.Proofs.YtmaohnbddlccdaaGreat.NO
