/- lessorref11.number, of. -/
import Derived.Test.YtdjbgphcmmcnhaaBytN
namespace Go.Proofs.Ytdjbgphcmmcnhaa
open Go.RowKit

set_option maxRecDepth 100000 in
set_option maxHeartbeats 1000000 in
theorem rnum_any (n m : Nat) (hm : m ≤ 6) (hm1 : 1 ≤ m) (hn : n < 9223372036854775808) (w : World) :
    Calls Try.prog 20 #[.int .i64 (n : Int), .int .i64 (m : Int)] w fun e w' => ∃ A c, e = .returned (.slice A (beL n m).length c) ∧ Row w w' (.slice A (beL n m).length c) (beL n m) := by
  have hmk := run_makeF m (by omega)
  have hown0 := madeF_own w w.heap.size m (Nat.le_refl _) (by omega)
  have hB0 : Below w.heap.size w (w.alloc (.cells (madeCells #[.int .u8 0] m) 5)) := (Below.refl _ _).alloc (Nat.le_refl _) _
  go_enter Try.func20, Try.ntmps20
  go_wp2
  clear hmk
  go_loopw [0, 6] (fun nv i wr => ∃ k q : Nat, k ≤ m ∧ i = .int .i64 ((m : Int) - 1 - k) ∧ nv = .int .i64 (q : Int) ∧ q = n / 256 ^ k ∧ wr.ownsRow w.heap.size 5 1 (.slice (some ⟨w.heap.size, 0, none⟩) m m) m (bcells (tailP n m k)) ∧ Below w.heap.size w wr) (fun _ i _ => (intOf i + 1).toNat)
  case atStart => exact ⟨0, n, Nat.zero_le _, by simp, rfl, by simp, by rw [tailP_zero]; exact hown0, hB0⟩
  case round =>
    obtain ⟨k, q, hk, rfl, rfl, hq, hown, hB⟩ := hrel
    have hqn : q ≤ n := by rw [hq]; exact Nat.div_le_self _ _
    have HQ := Lib.hid hq
    clear hq
    by_cases hlt : k < m
    · obtain ⟨j, hj⟩ : ∃ j, j = m - 1 - k := ⟨_, rfl⟩
      have hjm : (m : Int) - 1 - k = (j : Int) := by omega
      have hcell := hown.cellAt j (by omega)
      obtain ⟨y, hy⟩ : ∃ y, (bcells (tailP n m k))[j]? = some y := ⟨_, List.getElem?_eq_getElem (by rw [bcells_length, tailP_length]; omega)⟩
      rw [hy] at hcell
      have hfr := hown.frozenAt j
      have hjlt : j < m := by omega
      have HJ := Lib.hid hj
      have HJM := Lib.hid hjm
      rw [hjm]
      clear hy hj hjm
      go_wp2
      have eb : (q : Int) % 256 = ((UInt8.ofNat q).toNat : Int) := by rw [UInt8.toNat_ofNat']; rfl
      rw [eb]
      have hst := hown.stored j (bV (UInt8.ofNat q))
      rw [bcells_set, HQ.out, HJ.out, tailP_set n m k hlt] at hst
      rw [← HQ.out, ← HJ.out] at hst
      go_roundw
      case rel => exact ⟨k + 1, q / 256, by omega, by have := HJM.out; congr 1; omega, by go_num, by rw [HQ.out, Nat.div_div_eq_div_mul, Nat.pow_succ], hst.1, own_below hB hB.size hown hst.2⟩
      case measure => simp [intOf]
    · obtain rfl : k = m := by omega
      rw [tailP_all] at hown
      rw [show (k : Int) - 1 - k = -1 by omega]
      go_wp2
      go_ret
      exact ⟨some ⟨w.heap.size, 0, none⟩, k, by rw [beL_length]; rfl, ⟨by rw [beL_length]; exact hown, hB⟩⟩

/-- The same of a number that is not below 0; its bytes under a letter. -/
theorem rnum_row (x : Int) (hx : 0 ≤ x) (hx2 : x < 9223372036854775808) (m : Nat) (hm : m ≤ 6) (hm1 : 1 ≤ m) (w : World) :
    Calls Try.prog 20 #[.int .i64 x, .int .i64 (m : Int)] w fun e w' => ∃ A c d, e = .returned (.slice A d.length c) ∧ Hid (d = beL x.toNat m) ∧ d.length ≤ 6 ∧ Row w w' (.slice A d.length c) d := by
  obtain ⟨n, rfl⟩ : ∃ n : Nat, x = n := ⟨x.toNat, by omega⟩
  exact (rnum_any n m hm hm1 (by omega) w).mono fun e w' ⟨A, c, he, hr⟩ => ⟨A, c, _, he, Lib.hid rfl, by rw [beL_length]; exact hm, hr⟩
theorem Row.base {w00 w0 w : World} {v : Value} {l : List UInt8} (h : Row w0 w v l) (hb : Below w00.heap.size w00 w0) : Row w00 w v l :=
  ⟨⟨h.own.1, by
    rcases h.own.2 with h1 | ⟨g, cap, cur, e, hg, r⟩
    · exact .inl h1
    · exact .inr ⟨g, cap, cur, e, Nat.le_trans hb.size hg, r⟩⟩, hb.trans (h.low.mono hb.size)⟩

set_option maxRecDepth 100000 in
set_option maxHeartbeats 1000000 in
theorem of_any (B : Nat) (A : Option Addr) (c : Nat) (l : List UInt8) (w : World) (h : By w B A l) (hl : l.length ≤ 6) :
    Calls Try.prog 23 #[.slice A l.length c] w fun e w' => e = .returned (.int .i64 ((numL l : Nat) : Int)) ∧ w = w' := by
  go_enter Try.func23, Try.ntmps23
  go_wp2
  go_loop [3, 4] (fun n i => ∃ k m : Nat, k ≤ l.length ∧ i = .int .i64 k ∧ n = .int .i64 (m : Int) ∧ m = numL (l.take k)) (fun _ i => l.length - (intOf i).toNat)
  case atStart => exact ⟨0, 0, Nat.zero_le _, rfl, rfl, rfl⟩
  case round =>
    obtain ⟨k, m, hk, rfl, rfl, hm⟩ := hrel
    have HM := Lib.hid hm
    have hml : m < 256 ^ k := by rw [hm]; have := numL_lt (l.take k); rwa [List.length_take, Nat.min_eq_left hk] at this
    clear hm
    by_cases hlt : k < l.length
    · obtain ⟨x, hx⟩ : ∃ x, l[k]? = some x := ⟨_, List.getElem?_eq_getElem hlt⟩
      obtain ⟨b, o, rfl, hb, hc⟩ := h.at_ k x hx
      have hml2 : m < 1099511627776 := Nat.lt_of_lt_of_le hml (Nat.pow_le_pow_right (by omega) (show k ≤ 5 by omega))
      have hxx := x.toNat_lt
      clear hml
      go_wp2
      go_round
      case rel => exact ⟨k + 1, m * 256 + x.toNat, by omega, by go_num, by go_num, by rw [take_snoc_of l k x hx, numL_snoc, ← HM.out]⟩
      case measure => simp [intOf]; omega
    · go_wp2
      go_ret
      rw [HM.out, List.take_of_length_le (by omega)]
      exact ⟨rfl, rfl⟩
end Go.Proofs.Ytdjbgphcmmcnhaa
