/- addr.Pool: a walk over the contracts of sorted, joined and Count. -/
import Derived.Test.YtjkkdmfpekkfhaaAddrS
import Derived.Test.YtjkkdmfpekkfhaaAddrC
namespace Go.Proofs.Ytjkkdmfpekkfhaa
open Go.RowKit

/-- What Pool answers, of what it was given: the pool and the error's number. -/
def PoolRes (l ol : List (Nat × Nat)) (code : Int) : Prop :=
  ((∃ x ∈ l, x.2 < x.1) ∧ ol = [] ∧ code = 1) ∨
  (∃ l', (∀ x ∈ l, x.1 ≤ x.2) ∧ l'.Perm l ∧ SortedLow l' ∧ ((256 < (addrsOf (joinL l')).length ∧ ol = [] ∧ code = 3) ∨ ((addrsOf (joinL l')).length ≤ 256 ∧ ol = joinL l' ∧ code = 0)))

theorem joined_rg (A : Option Addr) (c : Nat) (l : List (Nat × Nat)) (w : World) (hr : Rg w w.heap.size A l) (hsz : l.length * 8 ≤ 140737488351232) :
    Calls Try.prog 59 #[.slice A l.length c] w fun e w' => ∃ p cap, e = .returned (.slice p (joinL l).length cap) ∧ Rg w' w'.heap.size p (joinL l) ∧ Below w.heap.size w w' :=
  (joined_any A c l w hr hsz).mono fun e w' ⟨v', he, hown, hB⟩ => by
    rcases hown.2 with ⟨hv, h0⟩ | ⟨g, cap, cur, hv, _⟩
    · subst hv
      have hown' := hown
      rw [h0] at hown'
      exact ⟨none, 0, by rw [he, h0], Rg.of_own (n := 0) (joinL_w32 hr.w32) hown', hB⟩
    · subst hv
      exact ⟨_, _, he, Rg.of_own (joinL_w32 hr.w32) hown, hB⟩

set_option maxRecDepth 100000 in
set_option maxHeartbeats 1000000 in
theorem pool_any (A : Option Addr) (c : Nat) (l : List (Nat × Nat)) (w : World) (hr : Rg w w.heap.size A l) (hsz : l.length * 8 ≤ 140737488351232) :
    Calls Try.prog 46 #[.slice A l.length c] w fun e w' => ∃ ol code p cap, e = .returned (.tuple #[.slice p ol.length cap, .int .i64 code]) ∧ PoolRes l ol code ∧ Rg w' w'.heap.size p ol ∧ Below w.heap.size w w' := by
  go_enter Try.func46, Try.ntmps46
  go_wp2
  go_loopw [9] (fun i wr => ∃ k : Nat, k ≤ l.length ∧ i = .int .i64 k ∧ (∀ x ∈ l.take k, x.1 ≤ x.2) ∧ Below w.heap.size w wr) (fun i _ => l.length - (intOf i).toNat)
  case atStart => exact ⟨0, Nat.zero_le _, rfl, by simp, Below.refl _ _⟩
  case round =>
    obtain ⟨k, hk, rfl, hval, hB⟩ := hrel
    by_cases hlt : k < l.length
    · obtain ⟨x, hx⟩ : ∃ x, l[k]? = some x := ⟨_, List.getElem?_eq_getElem hlt⟩
      obtain ⟨b, o, rfl, hb, hc1, hc2⟩ := (hr.below hB).at_ k x hx
      have HX := Lib.hid hx
      have HV := Lib.hid hval
      have hsz1 := hB.size
      clear hx hr hval
      by_cases hle : x.2 < x.1
      · go_wp2
        go_ret2
        exact ⟨[], 1, none, 0, rfl, .inl ⟨⟨x, List.mem_of_getElem? HX.out, hle⟩, rfl, rfl⟩, ⟨fun y hy => by simp at hy, fun i y h => by simp at h⟩, hB.alloc hsz1 _⟩
      · go_wp2
        go_roundw
        case rel =>
          refine ⟨k + 1, by omega, by go_num, ?_, hB.alloc hsz1 _⟩
          rw [take_snoc_of l k x HX.out]
          intro y hy
          rcases List.mem_append.1 hy with hy | hy
          · exact HV.out y hy
          · simp at hy; subst hy; omega
        case measure => simp [intOf]; omega
    · obtain rfl : k = l.length := by omega
      rw [List.take_length] at hval
      have HV := Lib.hid hval
      have HR := Lib.hid (hr.below hB)
      have hsz1 := hB.size
      clear hval hr
      go_wp2_with fail
      refine (sorted_any A c l wr (HR.out.more hsz1) hsz).mono ?_
      rintro e w1 ⟨l', p, cap, rfl, hP, hS, hR1, hB1⟩
      have hlen := hP.length_eq
      have HP := Lib.hid hP
      have HL := Lib.hid hlen
      have hszl : l'.length * 8 ≤ 140737488351232 := by omega
      have hR1' := Lib.hid hR1
      clear hP hlen hR1
      go_wp2_with fail
      refine (joined_rg p cap l' w1 hR1'.out hszl).mono ?_
      rintro e w2 ⟨p2, cap2, rfl, hR2, hB2⟩
      have hlj : (joinL l').length * 8 ≤ 140737488351232 := by have := joinL_len l'; omega
      have HC := Lib.hid (count_any p2 cap2 (joinL l') hlj w2 hR2)
      have HR2 := Lib.hid hR2
      have hBB : Below w.heap.size w w2 := hB.trans ((hB1.mono hsz1).trans (hB2.mono (by have := hB1.size; omega)))
      clear hR2
      generalize hm : min 257 (addrsOf (joinL l')).length = m at HC
      have HM := Lib.hid hm
      clear hm
      by_cases h256 : 256 < m
      · go_wp2_with fail
        refine HC.out.mono ?_
        rintro e w3 ⟨rfl, hB3⟩
        have h256' : decide ((256 : Int) < (m : Int)) = true := by simp; omega
        go_wp2
        go_ret2
        refine ⟨[], 3, none, 0, rfl, .inr ⟨l', HV.out, HP.out, hS, .inl ⟨?_, rfl, rfl⟩⟩, ⟨fun y hy => by simp at hy, fun i y h => by simp at h⟩, hBB.trans (hB3.mono hBB.size)⟩
        have := HM.out
        omega
      · go_wp2_with fail
        refine HC.out.mono ?_
        rintro e w3 ⟨rfl, hB3⟩
        have h256' : decide ((256 : Int) < (m : Int)) = false := by simp; omega
        go_wp2
        go_ret2
        refine ⟨joinL l', 0, p2, cap2, rfl, .inr ⟨l', HV.out, HP.out, hS, .inr ⟨?_, rfl, rfl⟩⟩, (HR2.out.below hB3).more hB3.size, hBB.trans (hB3.mono hBB.size)⟩
        have := HM.out
        omega
end Go.Proofs.Ytjkkdmfpekkfhaa
