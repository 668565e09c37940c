/- strings.SplitN at a point and five pieces at most, for texts of any size that an argument has: a walk of the library's own text. -/
import Derived.Test.YtfddngpjaoffgaaDoorAddrT
import Derived.Test.YtfddngpjaoffgaaDoorShelfP
import Derived.Lib.Split
import Derived.Laws.Strings3
import Derived.Deep.OwnRows
namespace Go.Proofs.YtfddngpjaoffgaaDoor
open Go.RowKit

def point : ByteArray := ⟨#[46]⟩

theorem index_point_any (x : ByteArray) (w : World) : Calls Tryd.prog 47 #[.string x, .string point] w fun e w' => e = .returned (.int .i64 (Lib.indexB x point)) ∧ w' = w := by
  have h := Any.strings_Index_one Tryd.lays143 x 46 w
  rw [← Lib.index_one] at h
  exact h

/-- A text cut at its first four points at most. -/
def cuts (s : ByteArray) : List ByteArray := Lib.splitB point 0 (min 5 (s.size + 1) - 1) s

set_option maxHeartbeats 2000000 in
set_option maxRecDepth 1000000 in
theorem gensplit_any (s : ByteArray) (hs : s.size ≤ 140737488351232) (w : World) :
    Calls Tryd.prog 32 #[.string s, .string point, .int .i64 0, .int .i64 5] w fun e w' =>
      e = .returned (.slice (some ⟨w.heap.size, 0, none⟩) (cuts s).length (min 5 (s.size + 1))) ∧ w' = w.alloc (.cells (Lib.cellsOf (cuts s) (min 5 (s.size + 1))) 9) := by
  unfold cuts
  obtain ⟨N, hN⟩ : ∃ N, N = min 5 (s.size + 1) := ⟨_, rfl⟩
  rw [← hN]
  have eN : min (5 : Int) ((s.size : Int) + 1) = (N : Int) := by omega
  have hN1 : 1 ≤ N := by omega
  have hN5 : N ≤ 5 := by omega
  clear hN
  have hse : point.toList.isEmpty = false := by rw [Lib.toList_data]; rfl
  have hps : point.size = 1 := rfl
  have hmk := run_make_row' (P := Tryd.prog) 42 9 (.string ByteArray.empty) 16 Tryd.underlying42 (by kernel_rfl) rfl .i64 .i64 N (by omega) (by omega)
  generalize hpt : point = pt at *
  go_enter Tryd.func32, Tryd.ntmps32
  go_wp2_with fail
  clear hmk
  go_loopw [0, 10] (fun s0 s10 wr => ∃ (done : List ByteArray) (rest : ByteArray), s0 = .string rest ∧ s10 = .int .i64 done.length ∧ done.length ≤ N - 1 ∧ rest.size ≤ s.size ∧
      wr = w.alloc (.cells (Lib.cellsOf done N) 9) ∧ done ++ Lib.splitB pt 0 (N - 1 - done.length) rest = Lib.splitB pt 0 (N - 1) s) (fun _ s10 _ => N - 1 - (intOf s10).toNat)
  case atStart => exact ⟨[], s, rfl, rfl, Nat.zero_le _, Nat.le_refl _, by rw [Lib.cellsOf_nil], rfl⟩
  case round =>
    obtain ⟨done, rest, rfl, rfl, hd, hrs, rfl, hsp⟩ := hrel
    have hnext : (Lib.cellsOf done N)[done.length]? = some (.string ByteArray.empty) := Lib.cellsOf_next (by omega)
    have HS := Lib.hid hsp
    clear hsp
    have fin : Lib.splitB pt 0 (N - 1 - done.length) rest = [rest] → (Lib.splitB pt 0 (N - 1) s).length = done.length + 1 ∧ (Lib.cellsOf done N).setIfInBounds done.length (.string rest) = Lib.cellsOf (Lib.splitB pt 0 (N - 1) s) N := fun h => by
      have e := HS.out
      rw [h] at e
      rw [← e]
      exact ⟨by simp, Lib.cellsOf_set (by omega) rest⟩
    have HF := Lib.hid fin
    clear fin
    have HI := Lib.hid (fun (x : ByteArray) (W : World) => index_point_any x W)
    rw [hpt] at HI
    by_cases hlt : done.length < N - 1
    · have hltz : ((done.length : Nat) : Int) < (N : Int) - 1 := by omega
      rcases Lib.indexB_cases rest pt with hix | ⟨i, hix, hroom⟩
      · go_wp2_with fail
        refine (HI.out rest _).mono ?_
        rintro e w' ⟨rfl, rfl⟩
        rw [hix]
        go_wp2
        go_ret
        obtain ⟨f1, f2⟩ := HF.out (Lib.splitB_miss pt 0 _ rest hix)
        rw [f1, ← f2]
        exact ⟨by first | rfl | (congr 2 <;> omega), rfl⟩
      · have c0 : ¬ ((i : Int) < 0) := by omega
        have c1 : (0 : Int) ≤ ↑i + 0 := by omega
        have c2 : (↑i + 0 : Int) ≤ ↑rest.size := by omega
        have c3 : (0 : Int) ≤ ↑i + ↑pt.size := by omega
        have c4 : (↑i + ↑pt.size : Int) ≤ ↑rest.size := by omega
        go_wp2_with fail
        refine (HI.out rest _).mono ?_
        rintro e w' ⟨rfl, rfl⟩
        rw [hix]
        go_wp2
        go_roundw
        case measure => simp [intOf]; omega
        case rel =>
          refine ⟨done ++ [rest.extract 0 (i + 0)], rest.extract (i + pt.size) rest.size, ?_, by simp, by simp; omega, by rw [ByteArray.size_extract]; omega, by rw [← Lib.cellsOf_set (by omega)]; simp, ?_⟩
          · rw [hps]
          · rw [← HS.out, show N - 1 - done.length = (N - 1 - (done.length + 1)) + 1 by omega, Lib.splitB_hit pt 0 _ rest i hix]
            simp
    · have hltz : ¬ (((done.length : Nat) : Int) < (N : Int) - 1) := by omega
      go_wp2
      go_ret
      obtain ⟨f1, f2⟩ := HF.out (by rw [show N - 1 - done.length = 0 by omega]; rfl)
      rw [f1, ← f2]
      exact ⟨by first | rfl | (congr 2 <;> omega), rfl⟩

set_option maxRecDepth 100000 in
theorem splitn_any (s : ByteArray) (hs : s.size ≤ 140737488351232) (w : World) :
    Calls Tryd.prog 22 #[.string s, .string ⟨#[46]⟩, .int .i64 5] w fun e w' =>
      e = .returned (.slice (some ⟨w.heap.size, 0, none⟩) (cuts s).length (min 5 (s.size + 1))) ∧ w' = w.alloc (.cells (Lib.cellsOf (cuts s) (min 5 (s.size + 1))) 9) := by
  have H := Lib.hid (gensplit_any s hs w)
  go_enter Tryd.func22, Tryd.ntmps22
  go_wp2_with fail
  refine H.out.mono ?_
  rintro e w1 ⟨rfl, rfl⟩
  go_wp2
  go_ret
  exact ⟨rfl, rfl⟩
end Go.Proofs.YtfddngpjaoffgaaDoor
