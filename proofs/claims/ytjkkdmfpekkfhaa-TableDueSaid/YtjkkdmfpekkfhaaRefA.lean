/- lessorref01.At and Index: walks. -/
import Derived.Test.YtjkkdmfpekkfhaaRefC
namespace Go.Proofs.Ytjkkdmfpekkfhaa
open Go.RowKit

theorem seg_get {lo hi j : Nat} (h : j < hi - lo) : (seg lo hi)[j]? = some (lo + j) := by
  simp [seg, h]

theorem addrs_get {l : List (Nat × Nat)} {k j : Nat} {x : Nat × Nat} (hx : l[k]? = some x) (hj : x.1 + j ≤ x.2) : (addrsOf l)[(addrsOf (l.take k)).length + j]? = some (x.1 + j) := by
  obtain ⟨r, hr⟩ := addrsOf_take_prefix l (k + 1)
  rw [← hr, addrsOf_take l k x hx, List.append_assoc, List.getElem?_append_right (by omega), List.getElem?_append_left (by rw [seg_length]; omega)]
  rw [show (addrsOf (l.take k)).length + j - (addrsOf (l.take k)).length = j by omega]
  exact seg_get (by omega)

theorem atL_hit {l : List (Nat × Nat)} {k : Nat} {x : Nat × Nat} {q : Int} (hx : l[k]? = some x) (h1 : ((addrsOf (l.take k)).length : Int) ≤ q) (h2 : q - ((addrsOf (l.take k)).length : Int) < (x.2 : Int) - (x.1 : Int) + 1) :
    atL (addrsOf l) q = ((x.1 + (q - ((addrsOf (l.take k)).length : Int)).toNat), 0) := by
  have h := addrs_get (j := (q - ((addrsOf (l.take k)).length : Int)).toNat) hx (by omega)
  unfold atL
  rw [if_neg (by omega), show q.toNat = (addrsOf (l.take k)).length + (q - ((addrsOf (l.take k)).length : Int)).toNat by omega, h]

theorem atL_over {av : List Nat} {q : Int} (h : (av.length : Int) ≤ q) : atL av q = (0, 4) := by
  unfold atL
  rw [if_neg (by omega), List.getElem?_eq_none (by omega)]

theorem atL_under {av : List Nat} {q : Int} (h : q < 0) : atL av q = (0, 4) := by
  unfold atL
  rw [if_pos h]

set_option maxRecDepth 100000 in
set_option maxHeartbeats 1000000 in
theorem rat_any (A : Option Addr) (c : Nat) (l : List (Nat × Nat)) (q : Int) (w : World) (hr : Rg w w.heap.size A l) (hv : ∀ x ∈ l, x.1 ≤ x.2) (hl : l.length ≤ 1000) (hn : (addrsOf l).length ≤ 256) (hq : q ≤ 9223372036854775807) :
    Calls Try.prog 50 #[.slice A l.length c, .int .i64 q] w fun e w' => e = .returned (.tuple #[.int .u32 ((atL (addrsOf l) q).1 : Nat), .int .i64 (atL (addrsOf l) q).2]) ∧ ∃ n, w' = w.drewN n := by
  go_enter Try.func50, Try.ntmps50
  go_wp2
  go_loopw [1, 6] (fun nv i wr => ∃ k : Nat, k ≤ l.length ∧ i = .int .i64 k ∧ nv = .int .i64 (q - ((addrsOf (l.take k)).length : Int)) ∧ (((addrsOf (l.take k)).length : Int) ≤ q ∨ k = 0) ∧ ∃ n, wr = w.drewN n) (fun _ i _ => l.length - (intOf i).toNat)
  case atStart => exact ⟨0, Nat.zero_le _, rfl, by simp [addrsOf], .inr rfl, 0, rfl⟩
  case round =>
    obtain ⟨k, hk, rfl, rfl, hor, n, rfl⟩ := hrel
    by_cases hlt : k < l.length
    · obtain ⟨x, hx⟩ : ∃ x, l[k]? = some x := ⟨_, List.getElem?_eq_getElem hlt⟩
      have hxx := hr.w32 x (List.mem_of_getElem? hx)
      have hxv := hv x (List.mem_of_getElem? hx)
      obtain ⟨b, o, rfl, hb, hc1, hc2⟩ := hr.at_ k x hx
      have hm := addrs_take_le l k
      have hm1 := addrs_take_le l (k + 1)
      have he : ((addrsOf (l.take (k + 1))).length : Int) = ((addrsOf (l.take k)).length : Int) + ((x.2 : Int) - (x.1 : Int) + 1) := by
        rw [addrsOf_take l k x hx, List.length_append, Int.natCast_add, seg_count hxv]
      have HE := Lib.hid he
      have HX := Lib.hid hx
      have hmk : k = 0 → (addrsOf (l.take k)).length = 0 := fun h => by subst h; simp [addrsOf]
      by_cases hneg : q < 0
      · have HZ := Lib.hid (atL_under (av := addrsOf l) hneg)
        have hlt' : q - ((addrsOf (l.take k)).length : Int) < 0 := by omega
        clear hr hx hv he hmk hor hm hm1
        generalize (addrsOf (l.take k)).length = m at *
        go_wp2
        go_ret2
        refine ⟨?_, n, rfl⟩
        rw [HZ.out]
        rfl
      · have hge : ((addrsOf (l.take k)).length : Int) ≤ q := by
          rcases hor with h | h
          · exact h
          · have := hmk h; omega
        have HH := Lib.hid (atL_hit (q := q) hx hge)
        have hk1 : (k : Int) < (l.length : Int) := by omega
        clear hr hx hv he hmk hor
        generalize (addrsOf (l.take k)).length = m at *
        obtain ⟨d, hd⟩ : ∃ d : Nat, q - (m : Int) = d := ⟨(q - (m : Int)).toNat, by omega⟩
        have HD := Lib.hid hd
        rw [hd]
        have hdb : (d : Int) ≤ 9223372036854775807 := by omega
        clear hd hge
        have hw : wrap64 ((x.2 : Int) - (x.1 : Int)) = (x.2 : Int) - (x.1 : Int) ∧ 0 ≤ (x.2 : Int) - (x.1 : Int) := ⟨wr_small _ (by omega) (by omega), by omega⟩
        by_cases hhit : (d : Int) < (x.2 : Int) - (x.1 : Int) + 1
        · obtain ⟨hw1, hw2⟩ := hw
          go_wp2
          go_quiet (fail)
          clear hw1
          have hdx : (d : Int) ≤ (x.2 : Int) - (x.1 : Int) := by omega
          have hd32 : d < 4294967296 := by omega
          have hsum : (x.1 : Int) + (d : Int) < 4294967296 := by omega
          have hH := HH.out (by have := HD.out; omega)
          rw [HD.out, Int.toNat_natCast] at hH
          have HF := Lib.hid hH
          clear hH
          go_wp2
          go_ret2
          refine ⟨?_, _, rfl⟩
          rw [HF.out]
          rfl
        · obtain ⟨hw1, hw2⟩ := hw
          go_wp2
          go_quiet (fail)
          clear hw1
          have hnn : 0 ≤ (d : Int) - ((x.2 : Int) - (x.1 : Int) + 1) := by omega
          go_wp2
          go_roundw
          case rel =>
            have h1 := HD.out
            have h2 := HE.out
            refine ⟨k + 1, by omega, by go_num, ?_, .inl (by omega), _, rfl⟩
            rw [h2, show q - ((m : Int) + ((x.2 : Int) - (x.1 : Int) + 1)) = (d : Int) - ((x.2 : Int) - (x.1 : Int) + 1) by omega]
          case measure => simp [intOf]; omega
    · obtain rfl : k = l.length := by omega
      rw [List.take_length] at *
      clear hr hv
      have HZ : Hid (atL (addrsOf l) q = (0, 4)) := by
        rcases hor with h | h
        · exact atL_over h
        · have hl0 : l = [] := List.eq_nil_of_length_eq_zero h
          subst hl0
          rcases Int.lt_or_le q 0 with hq0 | hq0
          · exact atL_under hq0
          · exact atL_over (by simpa [addrsOf] using hq0)
      go_wp2
      go_ret2
      refine ⟨?_, n, rfl⟩
      rw [HZ.out]
      rfl

end Go.Proofs.Ytjkkdmfpekkfhaa
