/- strings.SplitN at a point and five pieces at most, for texts of any size that an argument has: a walk of the library's own text. -/
import Derived.Test.YtfddngpjaoffgaaDoorAddrT
import Derived.Test.YtfddngpjaoffgaaDoorShelfP
import Derived.Lib.Split
import Derived.Laws.Strings3
import Derived.Deep.OwnRows
namespace Go.Proofs.YtfddngpjaoffgaaDoor
open Go.RowKit

def point : ByteArray := ⟨#[46]⟩

theorem index_point_any (x : ByteArray) (w : World) : Calls Tryd.prog 47 #[.string x, .string point] w fun e w' => e = .returned (.int .i64 (Lib.indexB x point)) ∧ w' = w := by
  have h := Any.strings_Index_one Tryd.lays143 x 46 w
  rw [← Lib.index_one] at h
  exact h

/-- A text cut at its first four points at most. -/
def cuts (s : ByteArray) : List ByteArray := Lib.splitB point 0 (min 5 (s.size + 1) - 1) s

/-- One piece more: what stands at k, and the pieces behind it. -/
theorem piece_at {C r : List ByteArray} {x : ByteArray} {k : Nat} (h : C.drop k = x :: r) : C.take (k + 1) = C.take k ++ [x] ∧ C.drop (k + 1) = r ∧ k < C.length := by
  have hk : k < C.length := by
    rcases Nat.lt_or_ge k C.length with h' | h'
    · exact h'
    · rw [List.drop_of_length_le h'] at h
      cases h
  rw [List.drop_eq_getElem_cons hk, List.cons.injEq] at h
  refine ⟨?_, h.2, hk⟩
  rw [List.take_add_one, List.getElem?_eq_getElem hk, h.1]
  rfl

/-- The last piece: nothing stands behind it. -/
theorem piece_last {C : List ByteArray} {x : ByteArray} {k : Nat} (h : C.drop k = [x]) : C.take k ++ [x] = C ∧ C.length = k + 1 := by
  obtain ⟨h1, h2, h3⟩ := piece_at h
  have hl : C.length ≤ k + 1 := by
    rw [List.drop_eq_nil_iff] at h2
    exact h2
  exact ⟨by rw [← h1, List.take_of_length_le hl], by omega⟩

set_option maxHeartbeats 2000000 in
set_option maxRecDepth 1000000 in
theorem gensplit_any (s : ByteArray) (hs : s.size ≤ 140737488351232) (w : World) :
    Calls Tryd.prog 32 #[.string s, .string point, .int .i64 0, .int .i64 5] w fun e w' =>
      e = .returned (.slice (some ⟨w.heap.size, 0, none⟩) (cuts s).length (min 5 (s.size + 1))) ∧ w' = w.alloc (.cells (Lib.cellsOf (cuts s) (min 5 (s.size + 1))) 9) := by
  obtain ⟨N, hN⟩ : ∃ N, N = min 5 (s.size + 1) := ⟨_, rfl⟩
  have HC := Lib.hid (show cuts s = Lib.splitB point 0 (N - 1) s by rw [hN]; rfl)
  rw [← hN]
  have hmin : min (5 : Int) ((s.size : Int) + 1) = (N : Int) := by omega
  have hlow : 1 ≤ N := by omega
  have hhigh : N ≤ 5 := by omega
  clear hN
  have HI := Lib.hid (fun (x : ByteArray) (W : World) => index_point_any x W)
  have hfull : point.toList.isEmpty = false := by rw [Lib.toList_data]; rfl
  have hone : point.size = 1 := rfl
  have hmake := run_make_row' (P := Tryd.prog) 42 9 (.string ByteArray.empty) 16 Tryd.underlying42 (by kernel_rfl) rfl .i64 .i64 N (by omega) (by omega)
  generalize point = pt at *
  generalize cuts s = C at *
  go_enter Tryd.func32, Tryd.ntmps32
  go_wp2_with fail
  clear hmake
  go_loopw [0, 10] (fun sv iv wr => ∃ (k : Nat) (r : ByteArray), iv = .int .i64 k ∧ sv = .string r ∧ k ≤ N - 1 ∧ k ≤ C.length ∧ r.size ≤ s.size ∧ C.drop k = Lib.splitB pt 0 (N - 1 - k) r ∧
      wr = w.alloc (.cells (Lib.cellsOf (C.take k) N) 9)) (fun _ iv _ => N - (intOf iv).toNat)
  case atStart => exact ⟨0, s, rfl, rfl, Nat.zero_le _, Nat.zero_le _, Nat.le_refl _, HC.out, by rw [List.take_zero, Lib.cellsOf_nil]⟩
  case round =>
    obtain ⟨k, r, rfl, rfl, hk, hkl, hr, hC, rfl⟩ := hrel
    have hlen : (C.take k).length = k := by rw [List.length_take]; omega
    have hcell : (Lib.cellsOf (C.take k) N)[k]? = some (.string ByteArray.empty) := by
      have h := Lib.cellsOf_next (done := C.take k) (N := N) (by omega)
      rw [hlen] at h
      exact h
    have hset : ∀ x : ByteArray, (Lib.cellsOf (C.take k) N).setIfInBounds k (.string x) = Lib.cellsOf (C.take k ++ [x]) N := fun x => by
      have h := Lib.cellsOf_set (done := C.take k) (N := N) (by omega) x
      rw [hlen] at h
      exact h
    have HT := Lib.hid hset
    have HD := Lib.hid hC
    clear hset hC hlen
    rcases Nat.lt_or_ge k (N - 1) with hlt | hge
    · have hltz : (k : Int) < (N : Int) - 1 := by omega
      rcases Lib.indexB_cases r pt with hno | ⟨m, hyes, hroom⟩
      · go_wp2_with fail
        refine (HI.out r _).mono ?_
        rintro e w' ⟨rfl, rfl⟩
        rw [hno]
        go_wp2
        go_ret
        obtain ⟨h1, h2⟩ := piece_last (HD.out.trans (Lib.splitB_miss pt 0 _ r hno))
        rw [h2]
        refine ⟨rfl, ?_⟩
        rw [HT.out r, h1]
      · have hm0 : ¬ ((m : Int) < 0) := by omega
        have hm1 : (m : Int) + 1 ≤ (r.size : Int) := by omega
        go_wp2_with fail
        refine (HI.out r _).mono ?_
        rintro e w' ⟨rfl, rfl⟩
        rw [hyes]
        go_wp2
        go_roundw
        case measure => simp [intOf]; omega
        case rel =>
          have hd := HD.out
          rw [show N - 1 - k = (N - 1 - (k + 1)) + 1 by omega, Lib.splitB_hit pt 0 _ r m hyes] at hd
          obtain ⟨h1, h2, h3⟩ := piece_at hd
          refine ⟨k + 1, r.extract (m + pt.size) r.size, by go_num, by rw [hone], by omega, by omega, by rw [ByteArray.size_extract]; omega, h2, ?_⟩
          rw [h1, ← HT.out]
          simp
    · have hgez : ¬ ((k : Int) < (N : Int) - 1) := by omega
      go_wp2
      go_ret
      have hd := HD.out
      rw [show N - 1 - k = 0 by omega, Lib.splitB_zero] at hd
      obtain ⟨h1, h2⟩ := piece_last hd
      rw [h2]
      refine ⟨rfl, ?_⟩
      rw [HT.out r, h1]

set_option maxRecDepth 100000 in
theorem splitn_any (s : ByteArray) (hs : s.size ≤ 140737488351232) (w : World) :
    Calls Tryd.prog 22 #[.string s, .string ⟨#[46]⟩, .int .i64 5] w fun e w' =>
      e = .returned (.slice (some ⟨w.heap.size, 0, none⟩) (cuts s).length (min 5 (s.size + 1))) ∧ w' = w.alloc (.cells (Lib.cellsOf (cuts s) (min 5 (s.size + 1))) 9) := by
  have H := Lib.hid (gensplit_any s hs w)
  go_enter Tryd.func22, Tryd.ntmps22
  go_wp2_with fail
  refine H.out.mono ?_
  rintro e w1 ⟨rfl, rfl⟩
  go_wp2
  go_ret
  exact ⟨rfl, rfl⟩
end Go.Proofs.YtfddngpjaoffgaaDoor
