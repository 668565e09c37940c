/- lessorref01.Index: a walk. -/
import Derived.Test.YtfddngpjaoffgaaDoorRefA
namespace Go.Proofs.YtfddngpjaoffgaaDoor
open Go.RowKit

theorem idxL_hit {l : List (Nat × Nat)} {k : Nat} {x : Nat × Nat} {a : Nat} (hs : (addrsOf l).Pairwise (· < ·)) (hx : l[k]? = some x) (h1 : x.1 ≤ a) (h2 : a ≤ x.2) :
    idxL (addrsOf l) a = ((addrsOf (l.take k)).length : Int) + (a : Int) - (x.1 : Int) := by
  have h := addrs_get (j := a - x.1) hx (by omega)
  rw [show x.1 + (a - x.1) = a by omega] at h
  have hm : a ∈ addrsOf l := List.mem_of_getElem? h
  obtain ⟨g1, g2⟩ := List.getElem?_eq_some_iff.1 h
  have hnd : (addrsOf l).Nodup := hs.imp (fun h => Nat.ne_of_lt h)
  unfold idxL
  rw [if_pos hm]
  have : (addrsOf l).idxOf a = (addrsOf (l.take k)).length + (a - x.1) := by
    have := hnd.idxOf_getElem _ g1
    rwa [g2] at this
  rw [this]
  omega

theorem idxL_miss {av : List Nat} {a : Nat} (h : a ∉ av) : idxL av a = -1 := by
  unfold idxL
  rw [if_neg h]

set_option maxRecDepth 100000 in
set_option maxHeartbeats 1000000 in
theorem rindex_any (A : Option Addr) (c : Nat) (l : List (Nat × Nat)) (a : Nat) (w : World) (hr : Rg w w.heap.size A l) (hv : ∀ x ∈ l, x.1 ≤ x.2) (hs : (addrsOf l).Pairwise (· < ·)) (hl : l.length ≤ 1000) (hn : (addrsOf l).length ≤ 256) (ha : a < 4294967296) :
    Calls Tryd.prog 21 #[.slice A l.length c, .int .u32 (a : Int)] w fun e w' => e = .returned (.int .i64 (idxL (addrsOf l) a)) ∧ ∃ n, w' = w.drewN n := by
  go_enter Tryd.func21, Tryd.ntmps21
  go_wp2
  go_loopw [5, 6] (fun nv i wr => ∃ k : Nat, k ≤ l.length ∧ i = .int .i64 k ∧ nv = .int .i64 ((addrsOf (l.take k)).length : Nat) ∧ a ∉ addrsOf (l.take k) ∧ ∃ n, wr = w.drewN n) (fun _ i _ => l.length - (intOf i).toNat)
  case atStart => exact ⟨0, Nat.zero_le _, rfl, rfl, by simp [addrsOf], 0, rfl⟩
  case round =>
    obtain ⟨k, hk, rfl, rfl, hno, n, rfl⟩ := hrel
    have HN := Lib.hid hno
    clear hno
    by_cases hlt : k < l.length
    · obtain ⟨x, hx⟩ : ∃ x, l[k]? = some x := ⟨_, List.getElem?_eq_getElem hlt⟩
      have hxx := hr.w32 x (List.mem_of_getElem? hx)
      have hxv := hv x (List.mem_of_getElem? hx)
      obtain ⟨b, o, rfl, hb, hc1, hc2⟩ := hr.at_ k x hx
      have hm := addrs_take_le l k
      have hm1 := addrs_take_le l (k + 1)
      have he : ((addrsOf (l.take (k + 1))).length : Int) = ((addrsOf (l.take k)).length : Int) + (x.2 : Int) - (x.1 : Int) + 1 := by
        rw [addrsOf_take l k x hx, List.length_append, Int.natCast_add, seg_count hxv]; omega
      have HE := Lib.hid he
      have HX := Lib.hid hx
      have HH := Lib.hid (idxL_hit (a := a) hs hx)
      have hk1 : (k : Int) < (l.length : Int) := by omega
      clear hr hx hv he hs
      generalize (addrsOf (l.take k)).length = m at *
      have HW : Hid (wrap64 (wrap64 (wrap64 ((m : Int) + wrap64 (x.2 : Int)) - wrap64 (x.1 : Int)) + 1) = (m : Int) + (x.2 : Int) - (x.1 : Int) + 1) := by
        show _ = _
        rw [wr_small (x.2 : Int) (by omega) (by omega), wr_small (x.1 : Int) (by omega) (by omega), wr_small ((m : Int) + (x.2 : Int)) (by omega) (by omega), wr_small ((m : Int) + (x.2 : Int) - (x.1 : Int)) (by omega) (by omega), wr_small _ (by omega) (by omega)]
      by_cases h1 : x.1 ≤ a
      · by_cases h2 : a ≤ x.2
        · go_wp2
          go_ret
          refine ⟨?_, n, rfl⟩
          rw [HH.out h1 h2]
          rfl
        · go_wp2
          have H12 := Lib.hid (And.intro h1 h2)
          clear h1 h2 hm hm1 hxv hxx hn ha
          go_quiet (fail)
          go_wp2
          go_roundw
          case rel => exact ⟨k + 1, by omega, by go_num, by rw [HE.out, HW.out], not_mem_snoc HX.out HN.out (fun h => H12.out.2 h.2), _, rfl⟩
          case measure => simp [intOf]; omega
      · have hd : decide (x.1 ≤ a) = false := by simpa using h1
        go_wp2
        have H12 := Lib.hid h1
        clear h1 hd hm hm1 hxv hxx hn ha
        go_quiet (fail)
        go_wp2
        go_roundw
        case rel => exact ⟨k + 1, by omega, by go_num, by rw [HE.out, HW.out], not_mem_snoc HX.out HN.out (fun h => H12.out h.1), _, rfl⟩
        case measure => simp [intOf]; omega
    · obtain rfl : k = l.length := by omega
      have HZ : Hid (idxL (addrsOf l) a = -1) := by
        have := HN.out
        rw [List.take_length] at this
        exact idxL_miss this
      clear hr hv hs
      go_wp2
      go_ret
      refine ⟨?_, n, rfl⟩
      rw [HZ.out]
      rfl
end Go.Proofs.YtfddngpjaoffgaaDoor
