/- The law AddrIndex answers true. -/
import Derived.Test.YtfddngpjaoffgaaDoorAddrM
import Derived.Test.YtfddngpjaoffgaaDoorAddrW
namespace Go.Proofs.YtfddngpjaoffgaaDoor
open Go.RowKit

def lastOf (av : List Nat) (k : Nat) : Nat := if k = 0 then 0 else av[k - 1]?.getD 0
def memB (av : List Nat) (q k : Nat) : Bool := decide (q ∈ av.take k)

theorem memB_zero (av : List Nat) (q : Nat) : memB av q 0 = false := by simp [memB]
theorem memB_succ {av : List Nat} {q k x : Nat} (hx : av[k]? = some x) : memB av q (k + 1) = (memB av q k || decide (x = q)) := by
  unfold memB
  rw [List.take_add_one, hx, Bool.eq_iff_iff]
  by_cases h : x = q
  · subst h; simp
  · simp [h, Ne.symm h]

theorem beq_cast (x q : Nat) : ((x : Int) == (q : Int)) = decide (x = q) := by
  rw [Bool.eq_iff_iff]; simp; omega

theorem sorted_lt {av : List Nat} (h : av.Pairwise (· < ·)) {i j x y : Nat} (hi : av[i]? = some x) (hj : av[j]? = some y) (hij : i < j) : x < y := by
  obtain ⟨h1, rfl⟩ := List.getElem?_eq_some_iff.1 hi
  obtain ⟨h2, rfl⟩ := List.getElem?_eq_some_iff.1 hj
  exact List.pairwise_iff_getElem.1 h i j h1 h2 hij

theorem idx_sorted {av : List Nat} (h : av.Pairwise (· < ·)) {k x : Nat} (hx : av[k]? = some x) : idxL av x = (k : Nat) := by
  obtain ⟨h1, h2⟩ := List.getElem?_eq_some_iff.1 hx
  have hm : x ∈ av := List.mem_of_getElem? hx
  unfold idxL
  rw [if_pos hm]
  have hn : av.Nodup := h.imp (fun h => Nat.ne_of_lt h)
  have : av.idxOf x = k := by
    rw [← h2]
    exact hn.idxOf_getElem k h1
  rw [this]

theorem idx_mem (av : List Nat) (q : Nat) : decide (0 ≤ idxL av q) = decide (q ∈ av) := by
  unfold idxL
  by_cases h : q ∈ av
  · rw [if_pos h]; simp [h]
  · rw [if_neg h]; simp [h]

theorem atL_at {av : List Nat} {k x : Nat} (h : av[k]? = some x) : atL av (k : Int) = (x, 0) := by
  unfold atL
  rw [if_neg (by omega), Int.toNat_natCast, h]
theorem atL_past (av : List Nat) : atL av (av.length : Int) = (0, 4) := by
  unfold atL
  rw [if_neg (by omega), Int.toNat_natCast]
  simp
theorem atL_neg (av : List Nat) : atL av (-1) = (0, 4) := by
  unfold atL
  rw [if_pos (by omega)]

theorem last_lt {av : List Nat} (h : av.Pairwise (· < ·)) {k x : Nat} (hx : av[k]? = some x) (hk : 0 < k) : lastOf av k < x := by
  have h1 := (List.getElem?_eq_some_iff.1 hx).1
  have hy : av[k - 1]? = some (av[k - 1]'(by omega)) := List.getElem?_eq_getElem (by omega)
  unfold lastOf
  rw [if_neg (by omega), hy]
  exact sorted_lt h hy hx (by omega)

set_option maxRecDepth 100000 in
set_option maxHeartbeats 2000000 in
theorem law_index (A : Option Addr) (c : Nat) (l : List (Nat × Nat)) (q : Nat) (w : World) (hr : Rg w w.heap.size A l) (hT : Tab w) (hlm : l.length ≤ 9223372036854775807) :
    Calls Tryd.prog 6 #[.slice A l.length c, .int .u32 q] w fun e w' => e = .returned (.bool true) ∧ Below w.heap.size w w' := by
  have HA := Lib.hid (awake_any w hT)
  have HR := Lib.hid hr
  clear hr hT
  by_cases h200 : 200 < l.length
  · go_enter Tryd.func6, Tryd.ntmps6
    go_wp2_with fail
    refine HA.out.mono ?_
    rintro e w1 ⟨rfl, hB1⟩
    go_wp2
    go_ret
    exact ⟨rfl, hB1⟩
  · go_enter Tryd.func6, Tryd.ntmps6
    go_wp2_with fail
    refine HA.out.mono ?_
    rintro e w1 ⟨rfl, hB1⟩
    have HP := Lib.hid (pool_any A c l w1 ((HR.out.below hB1).more hB1.size) (by omega))
    have hd200 : decide ((200 : Int) < (l.length : Int)) = false := by simp; omega
    go_wp2_with fail
    refine HP.out.mono ?_
    rintro e w2 ⟨ol, code, p, cap, rfl, hres, hR2, hB2⟩
    by_cases hc : code = 0
    · subst hc
      obtain ⟨hcan, hlen, -⟩ := pool_ok hres
      have hoL := pool_len hres
      have hreach : ol.length * 8 ≤ 140737488351232 := by omega
      clear hres
      have HS := Lib.hid hcan.sorted
      have htake : (addrsOf ol).take 257 = addrsOf ol := List.take_of_length_le (by omega)
      have hBB : Below w.heap.size w w2 := hB1.trans (hB2.mono hB1.size)
      have HC := Lib.hid (count_any p cap ol hreach w2 hR2)
      have HAT := Lib.hid (fun (W : World) (hB : Below w2.heap.size w2 W) (k : Int) => at_any p cap ol k hreach W ((hR2.below hB).more hB.size))
      have HIX := Lib.hid (fun (W : World) (hB : Below w2.heap.size w2 W) (k : Nat) => index_any p cap ol k hreach W ((hR2.below hB).more hB.size))
      rw [htake] at HAT HIX
      clear hcan hR2 htake
      rw [show min 257 (addrsOf ol).length = (addrsOf ol).length by omega] at HC
      generalize addrsOf ol = av at *
      go_wp2_with fail
      refine HC.out.mono ?_
      rintro e w3 ⟨rfl, hB3⟩
      go_wp2
      go_loopw [9, 10, 11] (fun la nv iv wr => ∃ k : Nat, k ≤ av.length ∧ iv = .int .i64 k ∧ la = .int .u32 (lastOf av k : Nat) ∧ nv = .bool (memB av q k) ∧ Below w2.heap.size w2 wr) (fun _ _ iv _ => av.length - (intOf iv).toNat)
      case atStart => exact ⟨0, Nat.zero_le _, rfl, rfl, by rw [memB_zero], hB3⟩
      case round =>
        obtain ⟨k, hk, rfl, rfl, rfl, hBr⟩ := hrel
        by_cases hlt : k < av.length
        · obtain ⟨x, hx⟩ : ∃ x, av[k]? = some x := ⟨_, List.getElem?_eq_getElem hlt⟩
          have hAt := HAT.out wr hBr k
          rw [atL_at hx] at hAt
          have HAt := Lib.hid hAt
          have HX := Lib.hid hx
          have hm := memB_succ (q := q) hx
          have HM := Lib.hid hm
          have hlast : 0 < k → lastOf av k < x := last_lt HS.out hx
          have HL := Lib.hid hlast
          have hls : lastOf av (k + 1) = x := by simp [lastOf, hx]
          have HLS := Lib.hid hls
          clear hAt hx hm hlast hls
          generalize hla : lastOf av k = la at *
          clear hla
          generalize hmb : memB av q k = mb at *
          clear hmb
          have hk300 : decide ((k : Int) < 300) = true := by simp; omega
          have hkk : ((k : Int) != (k : Int)) = false := by simp
          have HG : Hid ((decide (0 < k) = false) ∨ (decide (0 < k) = true ∧ la < x)) := by
            have hL := HL.out
            rcases Nat.eq_zero_or_pos k with hk0 | hk0
            · left; simp; omega
            · right; exact ⟨by simp; omega, hL hk0⟩
          go_wp2_with fail
          refine HAt.out.mono ?_
          rintro e w4 ⟨rfl, hB4⟩
          have hB4' : Below w2.heap.size w2 w4 := hBr.trans (hB4.mono hBr.size)
          have hIx := HIX.out w4 hB4' x
          rw [idx_sorted HS.out HX.out] at hIx
          have HIx := Lib.hid hIx
          clear hIx
          dsimp only
          go_wp2_with fail
          refine HIx.out.mono ?_
          rintro e w5 ⟨rfl, hB5⟩
          have hB5' : Below w2.heap.size w2 w5 := hB4'.trans (hB5.mono hB4'.size)
          rcases HG.out with hg | ⟨hg, hgx⟩
          · cases mb
            · go_wp2
              go_roundw
              case rel => exact ⟨k + 1, by omega, by go_num, by rw [HLS.out], by rw [HM.out]; simp [beq_cast], hB5'⟩
              case measure => simp [intOf]; omega
            · go_wp2
              go_roundw
              case rel => exact ⟨k + 1, by omega, by go_num, by rw [HLS.out], by rw [HM.out]; simp, hB5'⟩
              case measure => simp [intOf]; omega
          · cases mb
            · go_wp2
              go_roundw
              case rel => exact ⟨k + 1, by omega, by go_num, by rw [HLS.out], by rw [HM.out]; simp [beq_cast], hB5'⟩
              case measure => simp [intOf]; omega
            · go_wp2
              go_roundw
              case rel => exact ⟨k + 1, by omega, by go_num, by rw [HLS.out], by rw [HM.out]; simp, hB5'⟩
              case measure => simp [intOf]; omega
        · obtain rfl : k = av.length := by omega
          have h256 : decide ((av.length : Int) ≤ 256) = true := by simp; omega
          have h1 := HAT.out wr hBr (av.length : Int)
          rw [atL_past] at h1
          have H1 := Lib.hid h1
          have HMB : Hid (memB av q av.length = decide (q ∈ av)) := by show memB av q av.length = _; simp [memB]
          clear h1
          generalize hmb : memB av q av.length = mb at *
          go_wp2_with fail
          refine H1.out.mono ?_
          rintro e w4 ⟨rfl, hB4⟩
          have hB4' : Below w2.heap.size w2 w4 := hBr.trans (hB4.mono hBr.size)
          have h2 := HAT.out w4 hB4' (-1)
          rw [atL_neg] at h2
          have H2 := Lib.hid h2
          clear h2
          dsimp only
          go_wp2_with fail
          refine H2.out.mono ?_
          rintro e w5 ⟨rfl, hB5⟩
          have hB5' : Below w2.heap.size w2 w5 := hB4'.trans (hB5.mono hB4'.size)
          have H3 := Lib.hid (HIX.out w5 hB5' q)
          dsimp only
          go_wp2_with fail
          refine H3.out.mono ?_
          rintro e w6 ⟨rfl, hB6⟩
          have HD : Hid (decide (0 ≤ idxL av q) = mb) := by show _ = _; rw [idx_mem, ← HMB.out]
          generalize idxL av q = ix at *
          go_wp2
          go_ret
          refine ⟨?_, hBB.trans ((hB5'.trans (hB6.mono hB5'.size)).mono hBB.size)⟩
          show Ending.returned (.bool (decide (0 ≤ ix) == mb)) = _
          rw [HD.out]
          simp
    · have hol := pool_bad hres hc
      subst hol
      have hne : (code == 0) = false := by simp [hc]
      have hne' : (code != 0) = true := by simp [hc]
      go_wp2
      go_ret
      exact ⟨rfl, hB1.trans (hB2.mono hB1.size)⟩
end Go.Proofs.YtfddngpjaoffgaaDoor
