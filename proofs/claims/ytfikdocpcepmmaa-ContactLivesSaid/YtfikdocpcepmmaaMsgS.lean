/- message.among, bit, limit: small functions. -/
import Derived.Test.YtfikdocpcepmmaaMsgM
import Derived.Outline
namespace Go.Proofs.Ytfikdocpcepmmaa
open Go.RowKit

/-- Is a number among these? -/
def amB (k : Int) (ks : List Int) : Bool := ks.contains k

set_option maxRecDepth 100000 in
set_option maxHeartbeats 400000 in
theorem among_any (k : Int) (b : Nat) (ks : List Int) (hks : ks.length ≤ 10) (W : World) (hb : W.heap[b]? = some (.cells (ks.map fun x => Value.int .i64 x).toArray 3 (0, 0))) :
    Calls Try.prog 30 #[.int .i64 k, .slice (some ⟨b, 0, none⟩) ks.length ks.length] W fun e w' => e = .returned (.bool (amB k ks)) ∧ W = w' := by
  go_enter Try.func30, Try.ntmps30
  go_wp2
  go_loop [9] (fun i => ∃ j : Nat, j ≤ ks.length ∧ i = .int .i64 j ∧ (ks.take j).contains k = false) (fun i => ks.length - (intOf i).toNat)
  case atStart => exact ⟨0, Nat.zero_le _, rfl, rfl⟩
  case round =>
    obtain ⟨j, hj, rfl, hno⟩ := hrel
    have HN := Lib.hid hno
    clear hno
    by_cases hlt : j < ks.length
    · obtain ⟨x, hx⟩ : ∃ x, ks[j]? = some x := ⟨_, List.getElem?_eq_getElem hlt⟩
      have hc : W.cell? ⟨b, j, none⟩ = some (.int .i64 x) := by
        rw [cell_of_row W b j _ _ _ hb]
        simp [hx]
      have HX := Lib.hid hx
      clear hx
      by_cases he : x = k
      · subst he
        go_wp2
        go_ret
        have : amB x ks = true := by
          unfold amB
          rw [List.contains_iff_mem]
          exact List.mem_of_getElem? HX.out
        rw [this]
        exact ⟨rfl, rfl⟩
      · have hd : (x == k) = false := by simpa using he
        have HE := Lib.hid he
        clear he
        go_wp2
        go_round
        case rel =>
          refine ⟨j + 1, by omega, by go_num, ?_⟩
          rw [take_snoc_of ks j x HX.out, List.contains_eq_any_beq, List.any_append, ← List.contains_eq_any_beq, HN.out]
          simp
          exact fun e => HE.out e.symm
        case measure => simp [intOf]; omega
    · go_wp2
      go_ret
      have : amB k ks = false := by
        unfold amB
        have := HN.out
        rwa [List.take_of_length_le (by omega)] at this
      rw [this]
      exact ⟨rfl, rfl⟩

def bitI (b : Bool) : Int := if b then 1 else 0
theorem bit_any (b : Bool) (W : World) : Calls Try.prog 31 #[.bool b] W fun e w' => e = .returned (.int .i64 (bitI b)) ∧ W = w' := by
  cases b
  all_goals
    go_enter Try.func31, Try.ntmps31
    go_wp2
    go_ret
    exact ⟨rfl, rfl⟩

/-- What limit answers. -/
def limI (n lo hi : Int) : Int := min (max n lo) hi
theorem limit_any (n size lo hi : Int) (W : World) : Calls Try.prog 28 #[.int .i64 n, .int .i64 size, .int .i64 lo, .int .i64 hi] W fun e w' => e = .returned (.int .i64 (limI n lo hi)) ∧ W = w' := by
  go_enter Try.func28, Try.ntmps28
  go_wp2
  all_goals
    go_ret
    refine ⟨?_, rfl⟩
    show Ending.returned (.int .i64 _) = _
    congr 2
    unfold limI
    omega

end Go.Proofs.Ytfikdocpcepmmaa
