/- lessorref02.Same and lessorref02.zero. -/
import Derived.Test.YtmlckjccgdmknaaOptS
namespace Go.Proofs.Ytmlckjccgdmknaa
open Go.RowKit

set_option maxRecDepth 100000 in
set_option maxHeartbeats 1000000 in
theorem zero_any (B : Nat) (A : Option Addr) (c : Nat) (l : List UInt8) (w : World) (h : By w B A l) (hl : l.length ≤ 100000) :
    Calls Try.prog 49 #[.slice A l.length c] w fun e w' => e = .returned (.bool (skipL l).isEmpty) ∧ w = w' := by
  go_enter Try.func49, Try.ntmps49
  go_wp2
  go_loop [3] (fun i => ∃ k : Nat, k ≤ l.length ∧ i = .int .i64 k ∧ skipL (l.drop k) = skipL l) (fun i => l.length - (intOf i).toNat)
  case atStart => exact ⟨0, Nat.zero_le _, rfl, rfl⟩
  case round =>
    obtain ⟨k, hk, rfl, hsk⟩ := hrel
    have HS := Lib.hid hsk
    clear hsk
    by_cases hlt : k < l.length
    · obtain ⟨x, hx⟩ : ∃ x, l[k]? = some x := ⟨_, List.getElem?_eq_getElem hlt⟩
      obtain ⟨b, o, rfl, hb, hcell⟩ := h.at_ k x hx
      have hdr : l.drop k = x :: l.drop (k + 1) := by
        obtain ⟨h1, h2⟩ := List.getElem?_eq_some_iff.1 hx
        rw [List.drop_eq_getElem_cons h1, h2]
      rw [hdr] at HS
      clear hdr hx
      by_cases hx0 : x = 0
      · subst hx0
        rw [skipL_zero] at HS
        have hcell' : w.cell? ⟨b, o + k, none⟩ = some (.int .u8 0) := hcell
        clear hcell
        go_wp2
        go_round
        case rel => exact ⟨k + 1, by omega, by go_num, HS.out⟩
        case measure => simp [intOf]; omega
      · rw [skipL_other _ hx0] at HS
        have hxn : ((x.toNat : Int) != 0) = true := by
          have : x.toNat ≠ 0 := fun e => hx0 (UInt8.toNat_inj.1 (by simpa using e))
          simp; omega
        go_wp2
        go_ret
        rw [← HS.out]
        exact ⟨rfl, rfl⟩
    · rw [List.drop_of_length_le (by omega)] at HS
      go_wp2
      go_ret
      rw [← HS.out]
      exact ⟨rfl, rfl⟩

theorem abs_ne {L M : List OptV} {k : Nat} {x y : OptV} (hx : (absL L)[k]? = some x.abs) (hy : (absL M)[k]? = some y.abs) (h : x.abs ≠ y.abs) : absL L ≠ absL M := by
  intro e
  rw [e, hy] at hx
  exact h (Option.some.inj hx).symm

set_option maxRecDepth 100000 in
set_option maxHeartbeats 2000000 in
theorem same_any (A A' : Option Addr) (c c' : Nat) (L M : List OptV) (w : World) (hL : Op w w.heap.size A L) (hM : Op w w.heap.size A' M) (hlL : L.length ≤ 100000) :
    Calls Try.prog 37 #[.slice A L.length c, .slice A' M.length c'] w fun e w' => e = .returned (.bool (decide (absL L = absL M))) ∧ ∃ n, w' = w.drewN n := by
  by_cases hlen : L.length = M.length
  · have hne : ((L.length : Int) != (M.length : Int)) = false := by simp [hlen]
    have HL := Lib.hid hlen
    clear hlen
    go_enter Try.func37, Try.ntmps37
    go_wp2
    go_loopw [5] (fun i wr => ∃ k n : Nat, k ≤ L.length ∧ i = .int .i64 k ∧ (absL L).take k = (absL M).take k ∧ wr = w.drewN n) (fun i _ => L.length - (intOf i).toNat)
    case atStart => exact ⟨0, 0, Nat.zero_le _, rfl, rfl, rfl⟩
    case round =>
      obtain ⟨k, n, hk, rfl, htk, rfl⟩ := hrel
      have HT := Lib.hid htk
      clear htk
      by_cases hlt : k < L.length
      · have hltM : k < M.length := by have := HL.out; omega
        obtain ⟨x, hx⟩ : ∃ x, L[k]? = some x := ⟨_, List.getElem?_eq_getElem hlt⟩
        obtain ⟨y, hy⟩ : ∃ y, M[k]? = some y := ⟨_, List.getElem?_eq_getElem hltM⟩
        obtain ⟨b, o, rfl, hb, hc1, hc2⟩ := hL.at_ k x hx
        obtain ⟨b', o', rfl, hb', hd1, hd2⟩ := hM.at_ k y hy
        have HX := Lib.hid (absL_at hx)
        have HY := Lib.hid (absL_at hy)
        have hdx := hL.data x (List.mem_of_getElem? hx)
        have hdy := hM.data y (List.mem_of_getElem? hy)
        have i0 : (0 : Int) ≤ (k : Int) := by omega
        have i1 : (k : Int) < (L.length : Int) := by omega
        have i2 : (k : Int) < (M.length : Int) := by omega
        clear hx hy
        by_cases hcode : x.code = y.code
        · have hs1 : ∀ m, (convert 24 9 (.slice x.ad x.data.length x.cap)).run Try.prog (w.drewN m) = .ok (.string ⟨x.data.toArray⟩) (w.drewN m) := fun m => str_run x.cap (hdx.drewN m)
          have hs2 : ∀ m, (convert 24 9 (.slice y.ad y.data.length y.cap)).run Try.prog (w.drewN m) = .ok (.string ⟨y.data.toArray⟩) (w.drewN m) := fun m => str_run y.cap (hdy.drewN m)
          have hne2 : (x.code != y.code) = false := by simpa using hcode
          have HC := Lib.hid hcode
          clear hcode
          by_cases hdat : x.data = y.data
          · have HD := Lib.hid hdat
            have hq : (x.data == y.data) = true := by simpa using hdat
            clear hdat
            go_wp2
            go_quiet (fail)
            go_wp2
            go_roundw
            case rel => exact ⟨k + 1, n + nq, by omega, by go_num, by rw [take_snoc_of _ _ _ HX.out, take_snoc_of _ _ _ HY.out, HT.out]; simp [OptV.abs, HC.out, HD.out], by first | rfl | rw [World.drewN_drewN]⟩
            case measure => simp [intOf]; omega
          · have hq : (x.data == y.data) = false := by simpa using hdat
            have HD := Lib.hid hdat
            clear hdat
            go_wp2
            go_quiet (fail)
            go_wp2
            go_ret
            refine ⟨?_, n + nq, by first | rfl | rw [World.drewN_drewN]⟩
            rw [decide_eq_false]
            · rfl
            · exact abs_ne HX.out HY.out (fun e => HD.out (congrArg Prod.snd e))
        · have hne2 : (x.code != y.code) = true := by simpa using hcode
          have HC := Lib.hid hcode
          clear hcode
          go_wp2
          go_quiet (fail)
          go_wp2
          go_ret
          refine ⟨?_, n + nq, by first | rfl | rw [World.drewN_drewN]⟩
          rw [decide_eq_false]
          · rfl
          · exact abs_ne HX.out HY.out (fun e => HC.out (congrArg Prod.fst e))
      · have hkl : L.length ≤ k := by omega
        go_wp2
        go_ret
        refine ⟨?_, n, rfl⟩
        rw [decide_eq_true]
        · rfl
        · have h1 := HT.out
          rw [List.take_of_length_le (by rw [absL_length]; exact hkl), List.take_of_length_le (by rw [absL_length, ← HL.out]; exact hkl)] at h1
          exact h1
  · have hne : ((L.length : Int) != (M.length : Int)) = true := by simp; omega
    have HL := Lib.hid hlen
    clear hlen
    go_enter Try.func37, Try.ntmps37
    go_wp2
    go_ret
    refine ⟨?_, 0, rfl⟩
    rw [decide_eq_false]
    · rfl
    · intro h
      have := congrArg List.length h
      rw [absL_length, absL_length] at this
      exact HL.out this
end Go.Proofs.Ytmlckjccgdmknaa
