/- lessorref09.Same. -/
import Derived.Test.YtdeahiccgjldbaaFrmM
import Derived.BigQuiet
namespace Go.Proofs.Ytdeahiccgjldbaa
open Go.RowKit

theorem dat_ne {L M : List SlV} {k : Nat} {x y : SlV} (hx : (datas L)[k]? = some x.data) (hy : (datas M)[k]? = some y.data) (h : x.data ≠ y.data) : datas L ≠ datas M := by
  intro e
  rw [e, hy] at hx
  exact h (Option.some.inj hx).symm

set_option maxRecDepth 100000 in
set_option maxHeartbeats 2000000 in
theorem same_any (B B' : Nat) (A A' : Option Addr) (c c' : Nat) (L M : List SlV) (w : World) (hL : Ls w B A L) (hM : Ls w B' A' M) (hlL : L.length ≤ 1048576) :
    Calls Try.prog 16 #[.slice A L.length c, .slice A' M.length c'] w fun e w' => e = .returned (.bool (decide (datas L = datas M))) ∧ ∃ n, w' = w.drewN n := by
  by_cases hlen : L.length = M.length
  · have hne : ((L.length : Int) != (M.length : Int)) = false := by simp [hlen]
    have HL := Lib.hid hlen
    clear hlen
    go_enter Try.func16, Try.ntmps16
    go_wp2
    go_loopw [5] (fun i wr => ∃ k n : Nat, k ≤ L.length ∧ i = .int .i64 k ∧ (datas L).take k = (datas M).take k ∧ wr = w.drewN n) (fun i _ => L.length - (intOf i).toNat)
    case atStart => exact ⟨0, 0, Nat.zero_le _, rfl, rfl, rfl⟩
    case round =>
      obtain ⟨k, n, hk, rfl, htk, rfl⟩ := hrel
      have HT := Lib.hid htk
      clear htk
      by_cases hlt : k < L.length
      · have hltM : k < M.length := by have := HL.out; omega
        obtain ⟨x, hx⟩ : ∃ x, L[k]? = some x := ⟨_, List.getElem?_eq_getElem hlt⟩
        obtain ⟨y, hy⟩ : ∃ y, M[k]? = some y := ⟨_, List.getElem?_eq_getElem hltM⟩
        obtain ⟨b, o, rfl, hb, hc1⟩ := hL.at_ k x hx
        obtain ⟨b', o', rfl, hb', hd1⟩ := hM.at_ k y hy
        have HX := Lib.hid (datas_at hx)
        have HY := Lib.hid (datas_at hy)
        have hdx := hL.data x (List.mem_of_getElem? hx)
        have hdy := hM.data y (List.mem_of_getElem? hy)
        have i0 : (0 : Int) ≤ (k : Int) := by omega
        have i1 : (k : Int) < (L.length : Int) := by omega
        have i2 : (k : Int) < (M.length : Int) := by omega
        clear hx hy
        have hs1 : ∀ m, (convert 40 9 (.slice x.ad x.data.length x.cap)).run Try.prog (w.drewN m) = .ok (.string ⟨x.data.toArray⟩) (w.drewN m) := fun m => str_run x.cap (hdx.drewN m)
        have hs2 : ∀ m, (convert 40 9 (.slice y.ad y.data.length y.cap)).run Try.prog (w.drewN m) = .ok (.string ⟨y.data.toArray⟩) (w.drewN m) := fun m => str_run y.cap (hdy.drewN m)
        by_cases hdat : x.data = y.data
        · have HD := Lib.hid hdat
          have hq : (x.data == y.data) = true := by simpa using hdat
          clear hdat
          go_wp2
          go_quiet (fail)
          go_wp2
          go_roundw
          case rel => exact ⟨k + 1, n + nq, by omega, by go_num, by rw [take_snoc_of _ _ _ HX.out, take_snoc_of _ _ _ HY.out, HT.out, HD.out], by first | rfl | rw [World.drewN_drewN]⟩
          case measure => simp [intOf]; omega
        · have hq : (x.data == y.data) = false := by simpa using hdat
          have HD := Lib.hid hdat
          clear hdat
          go_wp2
          go_quiet (fail)
          go_wp2
          go_ret
          refine ⟨?_, n + nq, by first | rfl | rw [World.drewN_drewN]⟩
          rw [decide_eq_false]
          · rfl
          · exact dat_ne HX.out HY.out HD.out
      · have hkl : L.length ≤ k := by omega
        go_wp2
        go_ret
        refine ⟨?_, n, rfl⟩
        rw [decide_eq_true]
        · rfl
        · have h1 := HT.out
          have h2 := HL.out
          rw [List.take_of_length_le (by rw [datas_length]; omega), List.take_of_length_le (by rw [datas_length]; omega)] at h1
          exact h1
  · have hne : ((L.length : Int) != (M.length : Int)) = true := by simp; omega
    have HL := Lib.hid hlen
    clear hlen
    go_enter Try.func16, Try.ntmps16
    go_wp2
    go_ret
    refine ⟨?_, 0, rfl⟩
    rw [decide_eq_false]
    · rfl
    · intro e
      have := congrArg List.length e
      rw [datas_length, datas_length] at this
      exact HL.out this
end Go.Proofs.Ytdeahiccgjldbaa
