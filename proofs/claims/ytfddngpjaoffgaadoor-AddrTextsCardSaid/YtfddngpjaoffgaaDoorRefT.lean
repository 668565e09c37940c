/- lessorref01.figures and lessorref01.Text. -/
import Derived.Test.YtfddngpjaoffgaaDoorAddrX
namespace Go.Proofs.YtfddngpjaoffgaaDoor
open Go.RowKit

theorem fig_one (n : Nat) (hn : n < 10) : (⟨#[UInt8.ofNat (48 + n)]⟩ : ByteArray) = itoaS n := by
  have h : ∀ m : Fin 10, (⟨#[UInt8.ofNat (48 + m.val)]⟩ : ByteArray) = itoaS m.val := by decide +kernel
  exact h ⟨n, hn⟩
theorem fig_more (n : Nat) (h10 : 10 ≤ n) (hn : n < 256) : itoaS (n / 10) ++ itoaS (n % 10) = itoaS n := by
  have h : ∀ m : Fin 256, 10 ≤ m.val → itoaS (m.val / 10) ++ itoaS (m.val % 10) = itoaS m.val := by decide +kernel
  exact h ⟨n, hn⟩ h10

set_option maxRecDepth 100000 in
set_option maxHeartbeats 1000000 in
theorem figures_one (n : Nat) (hn : n < 10) (w : World) :
    Calls Tryd.prog 26 #[.int .i64 n] w fun e w' => e = .returned (.string (itoaS n)) ∧ Below w.heap.size w w' := by
  have hconv : (convert 62 9 (.slice (some ⟨w.heap.size, 0, none⟩) 1 1)).run Tryd.prog (w.alloc (.cells #[.int .u8 (48 + (n : Int))] 5)) = .ok (.string (itoaS n)) (w.alloc (.cells #[.int .u8 (48 + (n : Int))] 5)) := by
    have hload : (loadCells ⟨w.heap.size, 0, none⟩ 1).run Tryd.prog (w.alloc (.cells #[.int .u8 (48 + (n : Int))] 5)) = .ok ([48 + (n : Int)].map (Value.int .u8)).toArray (w.alloc (.cells #[.int .u8 (48 + (n : Int))] 5)) :=
      run_loadCells_list (P := Tryd.prog) (w := w.alloc (.cells #[.int .u8 (48 + (n : Int))] 5)) ⟨w.heap.size, 0, none⟩ [.int .u8 (48 + (n : Int))] (by
        intro j v h
        match j, h with
        | 0, h =>
          simp at h
          subst h
          show (w.alloc _).cell? ⟨w.heap.size, 0, none⟩ = _
          simp)
    rw [run_convert_bytes_string _ 62 9 5 _ _ _ Tryd.underlying62 Tryd.underlying5 Tryd.underlying9]
    rw [run_bytesToString _ ⟨w.heap.size, 0, none⟩ 1 1 [48 + (n : Int)] hload]
    congr 2
    rw [← fig_one n hn]
    have : (48 + (n : Int)).toNat = 48 + n := by omega
    simp only [List.foldl_cons, List.foldl_nil, this]
    rfl
  go_enter Tryd.func26, Tryd.ntmps26
  go_wp2
  clear hconv
  go_ret
  exact ⟨rfl, (Below.refl _ _).alloc (Nat.le_refl _) _⟩

set_option maxRecDepth 100000 in
set_option maxHeartbeats 1000000 in
theorem figures_step (n : Nat) (h10 : 10 ≤ n) (hn : n < 256) (w : World)
    (h1 : ∀ W, Calls Tryd.prog 26 #[.int .i64 ((n / 10 : Nat) : Int)] W fun e w' => e = .returned (.string (itoaS (n / 10))) ∧ Below W.heap.size W w')
    (h2 : ∀ W, Calls Tryd.prog 26 #[.int .i64 ((n % 10 : Nat) : Int)] W fun e w' => e = .returned (.string (itoaS (n % 10))) ∧ Below W.heap.size W w') :
    Calls Tryd.prog 26 #[.int .i64 n] w fun e w' => e = .returned (.string (itoaS n)) ∧ Below w.heap.size w w' := by
  have H1 := Lib.hid h1
  have H2 := Lib.hid h2
  have hz1 : (itoaS (n / 10)).size ≤ 3 := by rw [Lib.size_eq]; exact itoa_length _ (by omega)
  have hz2 : (itoaS (n % 10)).size ≤ 3 := by rw [Lib.size_eq]; exact itoa_length _ (by omega)
  clear h1 h2
  go_enter Tryd.func26, Tryd.ntmps26
  go_wp2_with fail
  refine (H1.out _).mono ?_
  rintro e w1 ⟨rfl, hB1⟩
  go_wp2_with fail
  refine (H2.out _).mono ?_
  rintro e w2 ⟨rfl, hB2⟩
  go_wp2
  go_ret
  exact ⟨by rw [← fig_more n h10 hn]; rfl, hB1.trans (hB2.mono hB1.size)⟩

theorem figures_any (n : Nat) (hn : n < 256) (w : World) :
    Calls Tryd.prog 26 #[.int .i64 n] w fun e w' => e = .returned (.string (itoaS n)) ∧ Below w.heap.size w w' := by
  have two : ∀ m, m < 100 → ∀ W, Calls Tryd.prog 26 #[.int .i64 ((m : Nat) : Int)] W fun e w' => e = .returned (.string (itoaS m)) ∧ Below W.heap.size W w' := by
    intro m hm W
    by_cases h : m < 10
    · exact figures_one m h W
    · exact figures_step m (by omega) (by omega) W (fun W => figures_one _ (by omega) W) (fun W => figures_one _ (by omega) W)
  by_cases h : n < 10
  · exact figures_one n h w
  · exact figures_step n (by omega) hn w (fun W => two _ (by omega) W) (fun W => two _ (by omega) W)

theorem app_eq (a : Nat) : partS a 0 ++ ⟨#[46]⟩ ++ partS a 1 ++ ⟨#[46]⟩ ++ partS a 2 ++ ⟨#[46]⟩ ++ partS a 3 = textS a := by
  apply data_inj
  show _ = textL a
  rw [textL_eq]
  simp

set_option maxRecDepth 100000 in
set_option maxHeartbeats 1000000 in
theorem rtext_any (a : Nat) (ha : a < 4294967296) (w : World) :
    Calls Tryd.prog 12 #[.int .u32 a] w fun e w' => e = .returned (.string (textS a)) ∧ Below w.heap.size w w' := by
  have H0 := Lib.hid (fun W => figures_any (a / 16777216) (by omega) W)
  have H1 := Lib.hid (fun W => figures_any (a / 65536 % 256) (by omega) W)
  have H2 := Lib.hid (fun W => figures_any (a / 256 % 256) (by omega) W)
  have H3 := Lib.hid (fun W => figures_any (a % 256) (by omega) W)
  have e0 : itoaS (a / 16777216) = partS a 0 := by show _ = itoaS (a / 16777216 % 256); rw [Nat.mod_eq_of_lt (by omega)]
  have e1 : itoaS (a / 65536 % 256) = partS a 1 := rfl
  have e2 : itoaS (a / 256 % 256) = partS a 2 := rfl
  have e3 : itoaS (a % 256) = partS a 3 := by show _ = itoaS (a / 1 % 256); rw [Nat.div_one]
  have hz0 : (partS a 0).size ≤ 3 := by rw [Lib.size_eq]; exact part_length a 0
  have hz1 : (partS a 1).size ≤ 3 := by rw [Lib.size_eq]; exact part_length a 1
  have hz2 : (partS a 2).size ≤ 3 := by rw [Lib.size_eq]; exact part_length a 2
  have hz3 : (partS a 3).size ≤ 3 := by rw [Lib.size_eq]; exact part_length a 3
  rw [e0] at H0
  rw [e1] at H1
  rw [e2] at H2
  rw [e3] at H3
  clear e0 e1 e2 e3
  have HA := Lib.hid (app_eq a)
  generalize partS a 0 = x0 at *
  generalize partS a 1 = x1 at *
  generalize partS a 2 = x2 at *
  generalize partS a 3 = x3 at *
  go_enter Tryd.func12, Tryd.ntmps12
  go_wp2_with fail
  refine (H0.out _).mono ?_
  rintro e w1 ⟨rfl, hB1⟩
  go_wp2_with fail
  refine (H1.out _).mono ?_
  rintro e w2 ⟨rfl, hB2⟩
  go_wp2_with fail
  refine (H2.out _).mono ?_
  rintro e w3 ⟨rfl, hB3⟩
  go_wp2_with fail
  refine (H3.out _).mono ?_
  rintro e w4 ⟨rfl, hB4⟩
  go_wp2
  go_ret
  have hB := hB1.trans (hB2.mono hB1.size)
  have hB' := hB.trans (hB3.mono hB.size)
  exact ⟨by rw [← HA.out]; rfl, hB'.trans (hB4.mono hB'.size)⟩
end Go.Proofs.YtfddngpjaoffgaaDoor
