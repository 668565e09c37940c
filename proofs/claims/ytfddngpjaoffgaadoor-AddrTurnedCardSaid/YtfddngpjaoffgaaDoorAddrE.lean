/- lessorref01.Same: a walk. -/
import Derived.Test.YtfddngpjaoffgaaDoorAddrA
import Derived.BigQuiet
import Derived.Deep.QuietTactic
import Derived.Laws.StructEq
namespace Go.Proofs.YtfddngpjaoffgaaDoor
open Go.RowKit

theorem neq_range (x y : Nat × Nat) (w : World) : (binOp .neq 40 (rgV x) (rgV y)).run Tryd.prog w = .ok (.bool (decide (x ≠ y))) w := by
  have u3 := Tryd.underlying23
  have a3 := Tryd.isAgg23
  have z3 := Tryd.sizeOf23
  have hS : Tryd.prog.underlying 40 = some (.struct (Tryd.prog.fieldsOf 40)) := by kernel_rfl
  have hp : Tryd.prog.stoodInHeld 40 = false := by kernel_rfl
  rw [run_neq_struct, show (10000 : Nat) = 9999 + 1 from rfl, run_equalIn_struct w 9999 40 _ _ hS hp]
  simp only [Program.fieldsOf, Tryd.underlying40]
  go_simp
  by_cases h1 : x.1 = y.1
  · by_cases h2 : x.2 = y.2
    · simp [h1, h2, Prod.ext_iff]
    · have h2' : ¬ (x.2 : Int) = (y.2 : Int) := by omega
      simp [h1, h2, h2', Prod.ext_iff]
  · have h1' : ¬ (x.1 : Int) = (y.1 : Int) := by omega
    simp [h1, h1', Prod.ext_iff]

set_option maxRecDepth 100000 in
set_option maxHeartbeats 1000000 in
theorem same_any (A B : Option Addr) (c d : Nat) (l m : List (Nat × Nat)) (w : World) (hr : Rg w w.heap.size A l) (hs : Rg w w.heap.size B m) (hl : l.length ≤ 1000) (hm : m.length ≤ 1000) :
    Calls Tryd.prog 15 #[.slice A l.length c, .slice B m.length d] w fun e w' => e = .returned (.bool (decide (l = m))) ∧ ∃ n, w' = w.drewN n := by
  by_cases hne : l.length = m.length
  · have HN := Lib.hid hne
    have hb : ((l.length : Int) != (m.length : Int)) = false := by simp; omega
    clear hne
    go_enter Tryd.func15, Tryd.ntmps15
    go_wp2
    go_loopw [5] (fun i wr => ∃ k : Nat, k ≤ l.length ∧ i = .int .i64 k ∧ l.take k = m.take k ∧ ∃ n, wr = w.drewN n) (fun i _ => l.length - (intOf i).toNat)
    case atStart => exact ⟨0, Nat.zero_le _, rfl, rfl, 0, rfl⟩
    case round =>
      obtain ⟨k, hk, rfl, htk, n, rfl⟩ := hrel
      by_cases hlt : k < l.length
      · obtain ⟨x, hx⟩ : ∃ x, l[k]? = some x := ⟨_, List.getElem?_eq_getElem hlt⟩
        obtain ⟨y, hy⟩ : ∃ y, m[k]? = some y := ⟨_, List.getElem?_eq_getElem (by have := HN.out; omega)⟩
        obtain ⟨b, o, rfl, hb0, hc1, hc2⟩ := hr.at_ k x hx
        obtain ⟨b', o', rfl, hb0', hc1', hc2'⟩ := hs.at_ k y hy
        have hlt' : k < m.length := by have := HN.out; omega
        have HT := Lib.hid htk
        have HX := Lib.hid hx
        have HY := Lib.hid hy
        clear hr hs htk hx hy
        have hk1 : (k : Int) < (l.length : Int) := by omega
        have hk2 : (k : Int) < (m.length : Int) := by omega
        by_cases hxy : x = y
        · have hneq : ∀ W, (binOp .neq 40 (rgV x) (rgV y)).run Tryd.prog W = .ok (.bool false) W := fun W => by rw [neq_range]; simp [hxy]
          have HXY := Lib.hid hxy
          clear hxy
          go_wp2
          go_quiet (fail)
          clear hneq
          go_wp2
          go_roundw
          case rel =>
            refine ⟨k + 1, by omega, by go_num, ?_, _, rfl⟩
            rw [take_snoc_of l k x HX.out, take_snoc_of m k y HY.out, HT.out, HXY.out]
          case measure => simp [intOf]; omega
        · have hneq : ∀ W, (binOp .neq 40 (rgV x) (rgV y)).run Tryd.prog W = .ok (.bool true) W := fun W => by rw [neq_range]; simp [hxy]
          have HXY := Lib.hid hxy
          clear hxy
          go_wp2
          go_quiet (fail)
          clear hneq
          go_wp2
          go_ret
          refine ⟨?_, _, (World.drewN_drewN _ _ _)⟩
          have : l ≠ m := by
            rintro rfl
            have := HX.out.symm.trans HY.out
            exact HXY.out (Option.some.inj this)
          simp [this]
      · obtain rfl : k = l.length := by omega
        have HT := Lib.hid htk
        clear htk
        go_wp2
        go_ret
        refine ⟨?_, n, rfl⟩
        have : l = m := by
          have := HT.out
          rw [List.take_length, HN.out, List.take_length] at this
          exact this
        simp [this]
  · have hb : ((l.length : Int) != (m.length : Int)) = true := by simp; omega
    go_enter Tryd.func15, Tryd.ntmps15
    go_wp2
    go_ret
    refine ⟨?_, 0, rfl⟩
    have : l ≠ m := by rintro rfl; exact hne rfl
    simp [this]
end Go.Proofs.YtfddngpjaoffgaaDoor
