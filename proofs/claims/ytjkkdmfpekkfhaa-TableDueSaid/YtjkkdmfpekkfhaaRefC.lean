/- lessorref01.Count: a walk. -/
import Derived.Test.YtjkkdmfpekkfhaaRefR
namespace Go.Proofs.Ytjkkdmfpekkfhaa
open Go.RowKit

theorem wr_small (z : Int) (h1 : -1000000000000 ≤ z) (h2 : z ≤ 1000000000000) : wrap64 z = z := IntWalk.wrap64_in _ ⟨by omega, by omega⟩

theorem seg_count {x : Nat × Nat} (h : x.1 ≤ x.2) : ((seg x.1 (x.2 + 1)).length : Int) = (x.2 : Int) - (x.1 : Int) + 1 := by
  rw [seg_length]; omega

theorem addrs_take_le (l : List (Nat × Nat)) (k : Nat) : (addrsOf (l.take k)).length ≤ (addrsOf l).length := (addrsOf_take_prefix l k).length_le

set_option maxRecDepth 100000 in
set_option maxHeartbeats 1000000 in
theorem rcount_any (A : Option Addr) (c : Nat) (l : List (Nat × Nat)) (w : World) (hr : Rg w w.heap.size A l) (hv : ∀ x ∈ l, x.1 ≤ x.2) (hl : l.length ≤ 1000) (hn : (addrsOf l).length ≤ 256) :
    Calls Try.prog 26 #[.slice A l.length c] w fun e w' => e = .returned (.int .i64 ((addrsOf l).length : Nat)) ∧ ∃ n, w' = w.drewN n := by
  go_enter Try.func26, Try.ntmps26
  go_wp2
  go_loopw [3, 4] (fun nv i wr => ∃ k : Nat, k ≤ l.length ∧ i = .int .i64 k ∧ nv = .int .i64 ((addrsOf (l.take k)).length : Nat) ∧ ∃ n, wr = w.drewN n) (fun _ i _ => l.length - (intOf i).toNat)
  case atStart => exact ⟨0, Nat.zero_le _, rfl, rfl, 0, rfl⟩
  case round =>
    obtain ⟨k, hk, rfl, rfl, n, rfl⟩ := hrel
    by_cases hlt : k < l.length
    · obtain ⟨x, hx⟩ : ∃ x, l[k]? = some x := ⟨_, List.getElem?_eq_getElem hlt⟩
      have hxx := hr.w32 x (List.mem_of_getElem? hx)
      have hxv := hv x (List.mem_of_getElem? hx)
      obtain ⟨b, o, rfl, hb, hc1, hc2⟩ := hr.at_ k x hx
      have hm := addrs_take_le l k
      have hm1 := addrs_take_le l (k + 1)
      have he : ((addrsOf (l.take (k + 1))).length : Int) = ((addrsOf (l.take k)).length : Int) + (x.2 : Int) - (x.1 : Int) + 1 := by
        rw [addrsOf_take l k x hx, List.length_append, Int.natCast_add, seg_count hxv]; omega
      have HE := Lib.hid he
      clear hr hx hv he
      generalize hmm : (addrsOf (l.take k)).length = m at *
      have hk1 : (k : Int) < (l.length : Int) := by omega
      have hw : wrap64 ((m : Int) + (x.2 : Int)) = (m : Int) + (x.2 : Int) ∧ wrap64 ((m : Int) + (x.2 : Int) - (x.1 : Int)) = (m : Int) + (x.2 : Int) - (x.1 : Int) := ⟨wr_small _ (by omega) (by omega), wr_small _ (by omega) (by omega)⟩
      obtain ⟨hw1, hw2⟩ := hw
      clear hmm
      go_wp2
      go_quiet (fail)
      clear hw1 hw2
      go_wp2
      go_roundw
      case rel => exact ⟨k + 1, by omega, by go_num, by rw [HE.out], _, rfl⟩
      case measure => simp [intOf]; omega
    · obtain rfl : k = l.length := by omega
      clear hr hv
      go_wp2
      go_ret
      rw [List.take_length]
      exact ⟨rfl, n, rfl⟩
end Go.Proofs.Ytjkkdmfpekkfhaa
