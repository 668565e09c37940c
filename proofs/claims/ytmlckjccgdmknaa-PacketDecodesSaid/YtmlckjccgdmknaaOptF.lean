/- option.first and option.Find; lessorref02.Find. -/
import Derived.Test.YtmlckjccgdmknaaRefD
namespace Go.Proofs.Ytmlckjccgdmknaa
open Go.RowKit

/-- Where the first option with a code is, or -1. -/
def firstL : List (Int × List UInt8) → Int → Int
  | [], _ => -1
  | x :: r, c => if x.1 = c then 0 else if firstL r c < 0 then -1 else firstL r c + 1
theorem first_none (l : List (Int × List UInt8)) (c : Int) (h : ∀ x ∈ l, x.1 ≠ c) : firstL l c = -1 := by
  induction l with
  | nil => rfl
  | cons x r ih => rw [firstL, if_neg (h x (by simp)), ih (fun y hy => h y (by simp [hy])), if_pos (by omega)]
theorem first_at (l : List (Int × List UInt8)) (c : Int) (k : Nat) (x : Int × List UInt8) (hx : l[k]? = some x) (hc : x.1 = c) (h : ∀ y ∈ l.take k, y.1 ≠ c) : firstL l c = k := by
  induction l generalizing k with
  | nil => simp at hx
  | cons y r ih =>
    cases k with
    | zero => simp at hx; subst hx; rw [firstL, if_pos hc]; rfl
    | succ k =>
      rw [firstL, if_neg (h y (by simp)), ih k (by simpa using hx) (fun z hz => h z (by simp [hz])), if_neg (by omega)]
      omega
/-- The data of the first option with a code. -/
def findL : List (Int × List UInt8) → Int → List UInt8 × Bool
  | [], _ => ([], false)
  | x :: r, c => if x.1 = c then (x.2, true) else findL r c
theorem find_none (l : List (Int × List UInt8)) (c : Int) (h : ∀ x ∈ l, x.1 ≠ c) : findL l c = ([], false) := by
  induction l with
  | nil => rfl
  | cons x r ih => rw [findL, if_neg (h x (by simp)), ih (fun y hy => h y (by simp [hy]))]
theorem find_at (l : List (Int × List UInt8)) (c : Int) (k : Nat) (x : Int × List UInt8) (hx : l[k]? = some x) (hc : x.1 = c) (h : ∀ y ∈ l.take k, y.1 ≠ c) : findL l c = (x.2, true) := by
  induction l generalizing k with
  | nil => simp at hx
  | cons y r ih =>
    cases k with
    | zero => simp at hx; subst hx; rw [findL, if_pos hc]
    | succ k => rw [findL, if_neg (h y (by simp)), ih k (by simpa using hx) (fun z hz => h z (by simp [hz]))]
theorem first_cases (l : List (Int × List UInt8)) (c : Int) : (firstL l c = -1 ∧ ∀ x ∈ l, x.1 ≠ c) ∨ ∃ k x, firstL l c = (k : Nat) ∧ l[k]? = some x ∧ x.1 = c ∧ ∀ y ∈ l.take k, y.1 ≠ c := by
  induction l with
  | nil => exact .inl ⟨rfl, fun x h => by simp at h⟩
  | cons x r ih =>
    by_cases hx : x.1 = c
    · exact .inr ⟨0, x, by rw [firstL, if_pos hx]; rfl, rfl, hx, fun y h => by simp at h⟩
    · rcases ih with ⟨h1, h2⟩ | ⟨k, y, h1, h2, h3, h4⟩
      · refine .inl ⟨by rw [firstL, if_neg hx, h1, if_pos (by omega)], fun y hy => ?_⟩
        rcases List.mem_cons.1 hy with rfl | hy
        · exact hx
        · exact h2 y hy
      · refine .inr ⟨k + 1, y, by rw [firstL, if_neg hx, h1, if_neg (by omega)]; omega, by simpa using h2, h3, fun z hz => ?_⟩
        rw [List.take_succ_cons] at hz
        rcases List.mem_cons.1 hz with rfl | hz
        · exact hx
        · exact h4 z hz

theorem first1_any (x : OptV) (Bc : Nat) (code : Int) (w : World) (hc : w.cell? ⟨Bc, 0, none⟩ = some (.int .i64 code)) (hB : Bc < w.heap.size) :
    Calls Try.prog 59 #[x.v, .pointer (some ⟨Bc, 0, none⟩)] w fun e w' => e = .returned (.bool (x.code == code)) ∧ w' = w.alloc (obox x) := by
  have hc' : (w.alloc (obox x)).cell? ⟨Bc, 0, none⟩ = some (.int .i64 code) := (World.cell?_alloc_lt w _ ⟨Bc, 0, none⟩ hB).trans hc
  go_enter Try.func59, Try.ntmps59
  go_wp2
  go_ret
  exact ⟨rfl, rfl⟩

set_option maxRecDepth 100000 in
set_option maxHeartbeats 1000000 in
theorem indexFunc_any (A : Option Addr) (c : Nat) (L : List OptV) (Bc : Nat) (code : Int) (w : World) (hr : Op w w.heap.size A L) (hL : L.length ≤ 9223372036854775807) (hc : w.cell? ⟨Bc, 0, none⟩ = some (.int .i64 code)) (hBc : Bc < w.heap.size) :
    Calls Try.prog 58 #[.slice A L.length c, .func (.func 59) #[] #[.pointer (some ⟨Bc, 0, none⟩)]] w fun e w' => e = .returned (.int .i64 (firstL (absL L) code)) ∧ Below w.heap.size w w' := by
  go_enter Try.func58, Try.ntmps58
  go_wp2
  go_loopw [8] (fun i wr => ∃ k : Nat, k ≤ L.length ∧ i = .int .i64 k ∧ (∀ y ∈ (absL L).take k, y.1 ≠ code) ∧ Below w.heap.size w wr) (fun i _ => L.length - (intOf i).toNat)
  case atStart => exact ⟨0, Nat.zero_le _, rfl, fun y h => by simp at h, Below.refl _ _⟩
  case round =>
    obtain ⟨k, hk, rfl, hno, hB⟩ := hrel
    have HN := Lib.hid hno
    clear hno
    by_cases hlt : k < L.length
    · obtain ⟨x, hx⟩ : ∃ x, L[k]? = some x := ⟨_, List.getElem?_eq_getElem hlt⟩
      obtain ⟨b, o, rfl, hb, hc1, hc2⟩ := (hr.below hB).at_ k x hx
      have HX := Lib.hid (absL_at hx)
      have HF := Lib.hid (first1_any x Bc code wr ((hB.cell (p := ⟨Bc, 0, none⟩) hBc).trans hc) (Nat.lt_of_lt_of_le hBc hB.size))
      clear hx
      cases hq : (x.code == code)
      · rw [hq] at HF
        have HQ := Lib.hid (show x.code ≠ code by simpa using hq)
        clear hq
        go_wp2_with fail
        refine HF.out.mono ?_
        rintro e w' ⟨rfl, rfl⟩
        go_wp2
        go_roundw
        case rel =>
          refine ⟨k + 1, by omega, by go_num, fun y hy => ?_, hB.alloc hB.size _⟩
          rw [take_snoc_of _ _ _ HX.out] at hy
          rcases List.mem_append.1 hy with hy | hy
          · exact HN.out y hy
          · simp at hy; subst hy; exact HQ.out
        case measure => simp [intOf]; omega
      · rw [hq] at HF
        have HQ := Lib.hid (show x.code = code by simpa using hq)
        clear hq
        go_wp2_with fail
        refine HF.out.mono ?_
        rintro e w' ⟨rfl, rfl⟩
        go_wp2
        go_ret
        rw [first_at _ _ k _ HX.out HQ.out HN.out]
        exact ⟨rfl, hB.alloc hB.size _⟩
    · go_wp2
      go_ret
      rw [first_none _ _ (fun y hy => HN.out y (by rw [List.take_of_length_le (by rw [absL_length]; omega)]; exact hy))]
      exact ⟨rfl, hB⟩

set_option maxRecDepth 100000 in
set_option maxHeartbeats 1000000 in
theorem first_any (A : Option Addr) (c : Nat) (L : List OptV) (code : Int) (w : World) (hr : Op w w.heap.size A L) (hL : L.length ≤ 9223372036854775807) :
    Calls Try.prog 51 #[.slice A L.length c, .int .i64 code] w fun e w' => e = .returned (.int .i64 (firstL (absL L) code)) ∧ Below w.heap.size w w' := by
  have hB0 : Below w.heap.size w (w.alloc (.cells #[.int .i64 code] 3)) := (Below.refl _ _).alloc (Nat.le_refl _) _
  have HI := Lib.hid (indexFunc_any A c L w.heap.size code (w.alloc (.cells #[.int .i64 code] 3)) (hr.later hB0) hL (by simp) (by simp))
  clear hr
  go_enter Try.func51, Try.ntmps51
  go_wp2_with fail
  refine HI.out.mono ?_
  rintro e w1 ⟨rfl, hB1⟩
  go_wp2
  go_ret
  exact ⟨rfl, hB0.trans (hB1.mono hB0.size)⟩

/-- Bytes and a yes or no are answered. -/
def GivesF (w : World) (r : List UInt8 × Bool) (e : Ending) (w' : World) : Prop :=
  ∃ A c, e = .returned (.tuple #[.slice A r.1.length c, .bool r.2]) ∧ By w' w'.heap.size A r.1 ∧ Below w.heap.size w w'

set_option maxRecDepth 100000 in
set_option maxHeartbeats 1000000 in
theorem find_any (A : Option Addr) (c : Nat) (L : List OptV) (code : Int) (w : World) (hr : Op w w.heap.size A L) (hL : L.length ≤ 9223372036854775807) (hd : ∀ x ∈ L, x.data.length ≤ 1000) :
    Calls Try.prog 40 #[.slice A L.length c, .int .i64 code] w (GivesF w (findL (absL L) code)) := by
  have HF := Lib.hid (first_any A c L code w hr hL)
  have HR := Lib.hid hr
  have HDL := Lib.hid hd
  clear hr hd
  rcases first_cases (absL L) code with ⟨h1, h2⟩ | ⟨k, y, h1, h2, h3, h4⟩
  · rw [h1] at HF
    have HN := Lib.hid (find_none _ _ h2)
    clear h1 h2
    go_enter Try.func40, Try.ntmps40
    go_wp2_with fail
    refine HF.out.mono ?_
    rintro e w1 ⟨rfl, hB1⟩
    go_wp2
    go_ret2
    rw [HN.out]
    exact ⟨none, 0, rfl, By.nil, hB1⟩
  · rw [h1] at HF
    have HN := Lib.hid (find_at _ _ k y h2 h3 h4)
    have hlt : k < L.length := by have := (List.getElem?_eq_some_iff.1 h2).1; rwa [absL_length] at this
    obtain ⟨x, hx⟩ : ∃ x, L[k]? = some x := ⟨_, List.getElem?_eq_getElem hlt⟩
    have hyx : y = x.abs := by rw [absL_at hx] at h2; exact (Option.some.inj h2).symm
    subst hyx
    clear h1 h2 h3 h4
    have hxm := List.mem_of_getElem? hx
    have hdl := HDL.out x hxm
    obtain ⟨b, o, rfl, hb, hc1, hc2⟩ := HR.out.at_ k x hx
    have HD := Lib.hid (HR.out.data x hxm)
    clear hx hxm
    go_enter Try.func40, Try.ntmps40
    go_wp2_with fail
    refine HF.out.mono ?_
    rintro e w1 ⟨rfl, hB1⟩
    have hc3 := (hB1.cell (p := ⟨b, o + k * 2 + 1, none⟩) hb).trans hc2
    have HC := Lib.hid (clone_any x.ad x.cap x.data w1 (HD.out.later hB1) (by omega))
    go_wp2_with fail
    refine HC.out.mono ?_
    rintro e w2 ⟨A', c', rfl, hown, hB2⟩
    go_wp2
    go_ret2
    rw [HN.out]
    exact ⟨A', c', rfl, By.of_own hown, hB1.trans (hB2.mono hB1.size)⟩

set_option maxRecDepth 100000 in
set_option maxHeartbeats 1000000 in
theorem rfind_any (A : Option Addr) (c : Nat) (L : List OptV) (code : Int) (w : World) (hr : Op w w.heap.size A L) (hL : L.length ≤ 9223372036854775807) :
    Calls Try.prog 39 #[.slice A L.length c, .int .i64 code] w (GivesF w (findL (absL L) code)) := by
  go_enter Try.func39, Try.ntmps39
  go_wp2
  go_loop [6] (fun i => ∃ k : Nat, k ≤ L.length ∧ i = .int .i64 k ∧ (∀ y ∈ (absL L).take k, y.1 ≠ code)) (fun i => L.length - (intOf i).toNat)
  case atStart => exact ⟨0, Nat.zero_le _, rfl, fun y h => by simp at h⟩
  case round =>
    obtain ⟨k, hk, rfl, hno⟩ := hrel
    have HN := Lib.hid hno
    clear hno
    by_cases hlt : k < L.length
    · obtain ⟨x, hx⟩ : ∃ x, L[k]? = some x := ⟨_, List.getElem?_eq_getElem hlt⟩
      obtain ⟨b, o, rfl, hb, hc1, hc2⟩ := hr.at_ k x hx
      have HX := Lib.hid (absL_at hx)
      have HD := Lib.hid (hr.data x (List.mem_of_getElem? hx))
      clear hx
      cases hq : (x.code == code)
      · have HQ := Lib.hid (show x.code ≠ code by simpa using hq)
        go_wp2
        go_round
        case rel =>
          refine ⟨k + 1, by omega, by go_num, fun y hy => ?_⟩
          rw [take_snoc_of _ _ _ HX.out] at hy
          rcases List.mem_append.1 hy with hy | hy
          · exact HN.out y hy
          · simp at hy; subst hy; exact HQ.out
        case measure => simp [intOf]; omega
      · have HQ := Lib.hid (show x.code = code by simpa using hq)
        go_wp2
        go_ret2
        rw [find_at _ _ k _ HX.out HQ.out HN.out]
        exact ⟨x.ad, x.cap, rfl, HD.out, Below.refl _ _⟩
    · go_wp2
      go_ret2
      rw [find_none _ _ (fun y hy => HN.out y (by rw [List.take_of_length_le (by rw [absL_length]; omega)]; exact hy))]
      exact ⟨none, 0, rfl, By.nil, Below.refl _ _⟩
end Go.Proofs.Ytmlckjccgdmknaa
