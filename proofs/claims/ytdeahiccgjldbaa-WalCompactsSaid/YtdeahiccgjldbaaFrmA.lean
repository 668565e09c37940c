/- frame.fits, frame.Put, lessorref09.Put, slices.Clone at bytes. -/
import Derived.Test.YtdeahiccgjldbaaFrmM
namespace Go.Proofs.Ytdeahiccgjldbaa
open Go.RowKit

/-- What Put answers. -/
def putR (l : List UInt8) : List UInt8 × Int := if 1 ≤ l.length ∧ l.length ≤ 1000 then (fr l, 0) else ([], 1)
theorem putR_ok {l : List UInt8} (h : GoodF l) : putR l = (fr l, 0) := if_pos h
theorem putR_no {l : List UInt8} (h : ¬ GoodF l) : putR l = ([], 1) := if_neg h

set_option maxRecDepth 100000 in
set_option maxHeartbeats 1000000 in
theorem fits_any (n : Nat) (w : World) : Calls Try.prog 46 #[.int .i64 (n : Int)] w fun e w' => e = .returned (.bool (decide (1 ≤ n ∧ n ≤ 1000))) ∧ w = w' := by
  by_cases h1 : (1 : Int) ≤ n
  · have d1 : decide ((1 : Int) ≤ n) = true := by simpa using h1
    by_cases h2 : (n : Int) ≤ 1000
    · have d2 : decide ((n : Int) ≤ 1000) = true := by simpa using h2
      have e : decide (1 ≤ n ∧ n ≤ 1000) = true := by rw [decide_eq_true_eq]; omega
      rw [e]
      clear h1 h2 e
      go_enter Try.func46, Try.ntmps46
      go_wp2
      go_ret
      exact ⟨rfl, rfl⟩
    · have d2 : decide ((n : Int) ≤ 1000) = false := by simpa using h2
      have e : decide (1 ≤ n ∧ n ≤ 1000) = false := by rw [decide_eq_false_iff_not]; omega
      rw [e]
      clear h1 h2 e
      go_enter Try.func46, Try.ntmps46
      go_wp2
      go_ret
      exact ⟨rfl, rfl⟩
  · have d1 : decide ((1 : Int) ≤ n) = false := by simpa using h1
    have e : decide (1 ≤ n ∧ n ≤ 1000) = false := by rw [decide_eq_false_iff_not]; omega
    rw [e]
    clear h1 e
    go_enter Try.func46, Try.ntmps46
    go_wp2
    go_ret
    exact ⟨rfl, rfl⟩

set_option maxRecDepth 100000 in
set_option maxHeartbeats 1000000 in
theorem clone_any (A : Option Addr) (c : Nat) (l : List UInt8) (w : World) (h : By w w.heap.size A l) (hl : l.length ≤ 140737488355328) :
    Calls Try.prog 41 #[.slice A l.length c] w fun e w' => ∃ A' c', e = .returned (.slice A' l.length c') ∧ Own8 w' w.heap.size (.slice A' l.length c') l ∧ Below w.heap.size w w' := by
  cases A with
  | none =>
    obtain rfl := h.none_
    have hq : ∀ W, (binOp .eql 40 (.slice none 0 c) (.slice none 0 0)).run Try.prog W = .ok (.bool true) W := fun W => Lib.run_eql_slice_nil W 40 5 none 0 c 0 0 Try.underlying40
    rw [List.length_nil]
    go_enter Try.func41, Try.ntmps41
    go_wp2
    go_ret
    exact ⟨none, 0, rfl, ⟨rfl, .inl ⟨rfl, rfl⟩⟩, Below.refl _ _⟩
  | some ad =>
    have hq : ∀ W, (binOp .eql 40 (.slice (some ad) l.length c) (.slice none 0 0)).run Try.prog W = .ok (.bool false) W := fun W => Lib.run_eql_slice_nil W 40 5 (some ad) l.length c 0 0 Try.underlying40
    have hownW : (w.alloc (.cells #[] 5)).ownsRow w.heap.size 5 1 (.slice (some ⟨w.heap.size, 0, none⟩) 0 0) 0 (bcells []) := World.ownsRow_made w #[] 0 (Nat.le_refl _) (Nat.zero_le _) rfl
    have hBW : Below w.heap.size w (w.alloc (.cells #[] 5)) := (Below.refl _ _).alloc (Nat.le_refl _) _
    have hby := h.below hBW
    go_enter Try.func41, Try.ntmps41
    go_wp2_with (at_builtin; refine wpList_appB rfl (.tmp 5) (.tmp 6) rfl w.heap.size _ _ _ rfl hownW _ _ l _ rfl hby (by omega) hBW.size ?_; intro v1 w1 hown1 hg1 _)
    go_ret
    rw [Nat.zero_add] at hown1
    obtain ⟨A', c', rfl, _⟩ := own_form hown1
    exact ⟨A', c', rfl, hown1, own_below hBW hBW.size hownW hg1⟩

/-- Bytes of their own, made since, and an error's number are answered. -/
def GivesR (w : World) (l : List UInt8) (k : Int) (e : Ending) (w' : World) : Prop :=
  ∃ A c, e = .returned (.tuple #[.slice A l.length c, .int .i64 k]) ∧ Row w w' (.slice A l.length c) l
theorem GivesR.b {w : World} {l : List UInt8} {k : Int} {e : Ending} {w' : World} (h : GivesR w l k e w') : GivesB w l k e w' := by
  obtain ⟨A, c, rfl, hr⟩ := h
  obtain ⟨A', c', e', hc, hby⟩ := hr.form
  injection e' with e1 _ e3
  subst e1 e3
  exact ⟨A, c, rfl, hby, hc, hr.low⟩
theorem row_none (w : World) : Row w w (.slice none 0 0) [] := ⟨⟨rfl, .inl ⟨rfl, rfl⟩⟩, Below.refl _ _⟩

theorem row_made (w : World) (s : Nat) (hs : s ≤ 1048576) : Row w (w.alloc (.cells (madeCells #[.int .u8 0] s) 5)) (.slice (some ⟨w.heap.size, 0, none⟩) 0 s) [] :=
  ⟨made_own w w.heap.size s (Nat.le_refl _) hs, (Below.refl _ _).alloc (Nat.le_refl _) _⟩
theorem hi_byte (n : Nat) (h : n ≤ 1000) : IntKind.u8.wrap ((n : Int) / 256) = ((n / 256 : Nat) : Int) := by
  rw [show (n : Int) / 256 = ((n / 256 : Nat) : Int) by omega]
  simp [IntKind.wrap, IntKind.bits, IntKind.signed]; omega
theorem lo_byte (n : Nat) : IntKind.u8.wrap (n : Int) = ((n % 256 : Nat) : Int) := by
  simp [IntKind.wrap, IntKind.bits, IntKind.signed]

theorem head_bytes (w : World) (n : Nat) (h : n ≤ 1000) : By (w.alloc (.cells #[.int .u8 ((n : Int) / 256), .int .u8 ((n : Int) % 256)] 5)) (w.heap.size + 1) (some ⟨w.heap.size, 0, none⟩) [UInt8.ofNat (n / 256), UInt8.ofNat (n % 256)] := by
  have hby := two_bytes w 5 ((n / 256 : Nat) : Int) (n % 256) (by omega) (by omega) (by omega)
  rw [Int.toNat_natCast] at hby
  simpa only [Int.natCast_emod, Int.natCast_ediv, Int.cast_ofNat_Int] using hby

set_option maxRecDepth 100000 in
set_option maxHeartbeats 1000000 in
theorem put_own (A : Option Addr) (c : Nat) (l : List UInt8) (w : World) (h : By w w.heap.size A l) :
    Calls Try.prog 36 #[.slice A l.length c] w (GivesR w (putR l).1 (putR l).2) := by
  have HF := Lib.hid (fun W => fits_any l.length W)
  by_cases hg : GoodF l
  · rw [putR_ok hg]
    rw [show decide (1 ≤ l.length ∧ l.length ≤ 1000) = true from decide_eq_true hg] at HF
    have hgl : l.length ≤ 1000 := hg.2
    clear hg
    have hmk := run_makeB (l.length + 3) (by omega)
    rw [show ((l.length + 3 : Nat) : Int) = 2 + (l.length : Int) + 1 by omega] at hmk
    have HR0 := Lib.hid (row_made w (l.length + 3) (by omega))
    have hw1 := hi_byte l.length hgl
    have hw2 := lo_byte l.length
    go_enter Try.func36, Try.ntmps36
    go_wp2_with (first
      | (go_at_call 46; refine (HF.out _).mono ?_; rintro e w' ⟨rfl, rfl⟩)
      | (at_builtin; refine wpList_row rfl (.tmp 14) (.tmp 22) rfl rfl (HR0.out.alloc _) [UInt8.ofNat (l.length / 256), UInt8.ofNat (l.length % 256)] rfl rfl (by simpa using head_bytes (w.alloc (.cells (madeCells #[.int .u8 0] (l.length + 3)) 5)) l.length hgl) (by simp) ?_; intro v1 w1 hr1 hg1; have hr1 := Lib.hid hr1; clear hg1)
      | (at_builtin; refine wpList_row rfl (.tmp 24) (.tmp 25) rfl rfl hr1.out l rfl rfl (h.below hr1.out.low) (by simp; omega) ?_; intro v2 w2 hr2 hg2; have hr2 := Lib.hid hr2; clear hg2)
      | (at_builtin; refine wpList_row rfl (.tmp 27) (.tmp 28) rfl rfl (hr2.out.alloc _) [90] rfl rfl (one_byte w2 5 90 (by omega)) (by simp; omega) ?_; intro v3 w3 hr3 hg3; have hr3 := Lib.hid hr3; clear hg3))
    obtain ⟨A', c', rfl, hc, hby⟩ := hr3.out.form
    go_ret2
    have e : [] ++ [UInt8.ofNat (l.length / 256), UInt8.ofNat (l.length % 256)] ++ l ++ [90] = fr l := by simp [fr]
    have hr := hr3.out
    rw [e] at hr ⊢
    exact ⟨A', c', rfl, hr⟩
  · rw [putR_no hg]
    rw [show decide (1 ≤ l.length ∧ l.length ≤ 1000) = false from decide_eq_false hg] at HF
    clear hg
    go_enter Try.func36, Try.ntmps36
    go_wp2_with (go_at_call 46; refine (HF.out _).mono ?_; rintro e w' ⟨rfl, rfl⟩)
    go_ret2
    exact ⟨none, 0, rfl, row_none w⟩

theorem put_any (A : Option Addr) (c : Nat) (l : List UInt8) (w : World) (h : By w w.heap.size A l) :
    Calls Try.prog 36 #[.slice A l.length c] w (GivesB w (putR l).1 (putR l).2) := (put_own A c l w h).mono fun _ _ h => h.b

theorem row_lit (w : World) (l : List UInt8) (hl : l.length ≤ 1048576) : Row w (w.alloc (.cells (bcells l).toArray 5)) (.slice (some ⟨w.heap.size, 0, none⟩) l.length l.length) l := by
  have h := World.ownsRow_lit (base := w.heap.size) (e := 5) (size := 1) w (bcells l).toArray l.length (Nat.le_refl _) (by unfold maxLen; omega) (by simp [bcells_length])
  exact ⟨h, (Below.refl _ _).alloc (Nat.le_refl _) _⟩
theorem head_cells (n : Nat) (h : n ≤ 1000) : (bcells [UInt8.ofNat (n / 256), UInt8.ofNat (n % 256)]).toArray = #[.int .u8 ((n : Int) / 256), .int .u8 ((n : Int) % 256)] := by
  have e1 : (UInt8.ofNat (n / 256)).toNat = n / 256 := by rw [UInt8.toNat_ofNat', Nat.mod_eq_of_lt (by omega)]
  have e2 : (UInt8.ofNat (n % 256)).toNat = n % 256 := by rw [UInt8.toNat_ofNat', Nat.mod_eq_of_lt (by omega)]
  simp only [bcells, List.map_cons, List.map_nil, bV, e1, e2, Int.natCast_emod, Int.natCast_ediv, Int.cast_ofNat_Int]

set_option maxRecDepth 100000 in
set_option maxHeartbeats 1000000 in
theorem rput_own (A : Option Addr) (c : Nat) (l : List UInt8) (w : World) (h : By w w.heap.size A l) :
    Calls Try.prog 44 #[.slice A l.length c] w (GivesR w (putR l).1 (putR l).2) := by
  by_cases hg : GoodF l
  · rw [putR_ok hg]
    have hgl : l.length ≤ 1000 := hg.2
    have d1 : decide ((l.length : Int) < 1) = false := by have := hg.1; simp; omega
    have d2 : decide ((1000 : Int) < (l.length : Int)) = false := by simp; omega
    clear hg
    have hw1 := hi_byte l.length hgl
    have hw2 : IntKind.u8.wrap ((l.length : Int) % 256) = (l.length : Int) % 256 := by simp [IntKind.wrap, IntKind.bits, IntKind.signed]
    have HR0 : Hid (Row w (w.alloc (.cells #[.int .u8 ((l.length : Int) / 256), .int .u8 ((l.length : Int) % 256)] 5)) (.slice (some ⟨w.heap.size, 0, none⟩) 2 2) [UInt8.ofNat (l.length / 256), UInt8.ofNat (l.length % 256)]) := by
      have h0 := row_lit w [UInt8.ofNat (l.length / 256), UInt8.ofNat (l.length % 256)] (by simp)
      rw [head_cells l.length hgl] at h0
      exact h0
    go_enter Try.func44, Try.ntmps44
    go_wp2_with (first
      | (at_builtin; refine wpList_row rfl (.tmp 22) (.tmp 23) rfl rfl HR0.out l rfl rfl (h.below HR0.out.low) (by simp; omega) ?_; intro v2 w2 hr2 hg2; have hr2 := Lib.hid hr2; clear hg2)
      | (at_builtin; refine wpList_row rfl (.tmp 25) (.tmp 26) rfl rfl (hr2.out.alloc _) [90] rfl rfl (one_byte w2 5 90 (by omega)) (by simp; omega) ?_; intro v3 w3 hr3 hg3; have hr3 := Lib.hid hr3; clear hg3))
    obtain ⟨A', c', rfl, hc, hby⟩ := hr3.out.form
    go_ret2
    have e : [UInt8.ofNat (l.length / 256), UInt8.ofNat (l.length % 256)] ++ l ++ [90] = fr l := by simp [fr]
    have hr := hr3.out
    rw [e] at hr ⊢
    exact ⟨A', c', rfl, hr⟩
  · rw [putR_no hg]
    by_cases h0 : (l.length : Int) < 1
    · have d1 : decide ((l.length : Int) < 1) = true := by simpa using h0
      clear hg h0
      go_enter Try.func44, Try.ntmps44
      go_wp2
      go_ret2
      exact ⟨none, 0, rfl, row_none w⟩
    · have d1 : decide ((l.length : Int) < 1) = false := by simpa using h0
      have d2 : decide ((1000 : Int) < (l.length : Int)) = true := by
        have h1 : ¬ (1 ≤ l.length ∧ l.length ≤ 1000) := hg
        simp; omega
      clear hg h0
      go_enter Try.func44, Try.ntmps44
      go_wp2
      go_ret2
      exact ⟨none, 0, rfl, row_none w⟩
theorem rput_any (A : Option Addr) (c : Nat) (l : List UInt8) (w : World) (h : By w w.heap.size A l) :
    Calls Try.prog 44 #[.slice A l.length c] w (GivesB w (putR l).1 (putR l).2) := (rput_own A c l w h).mono fun _ _ h => h.b
end Go.Proofs.Ytdeahiccgjldbaa
