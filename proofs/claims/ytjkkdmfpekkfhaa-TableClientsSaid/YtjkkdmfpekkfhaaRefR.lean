/- lessorref01's readers: has, next, Count, At, Index: walks. -/
import Derived.Test.YtjkkdmfpekkfhaaAddrM
import Derived.BigQuiet
import Derived.Deep.QuietTactic
namespace Go.Proofs.Ytjkkdmfpekkfhaa
open Go.RowKit

def hasB (l : List (Nat × Nat)) (a : Nat) : Bool := decide (a ∈ addrsOf l)

theorem not_mem_snoc {l : List (Nat × Nat)} {k : Nat} {x : Nat × Nat} {a : Nat} (hx : l[k]? = some x) (h : a ∉ addrsOf (l.take k)) (hn : ¬ (x.1 ≤ a ∧ a ≤ x.2)) : a ∉ addrsOf (l.take (k + 1)) := by
  rw [addrsOf_take l k x hx, List.mem_append, mem_seg]
  rintro (h1 | h1)
  · exact h h1
  · exact hn ⟨h1.1, by omega⟩

set_option maxRecDepth 100000 in
set_option maxHeartbeats 1000000 in
theorem has_any (A : Option Addr) (c : Nat) (l : List (Nat × Nat)) (a : Nat) (w : World) (hr : Rg w w.heap.size A l) (hl : l.length ≤ 1000) :
    Calls Try.prog 45 #[.slice A l.length c, .int .i64 (a : Int)] w fun e w' => e = .returned (.bool (hasB l a)) ∧ w = w' := by
  go_enter Try.func45, Try.ntmps45
  go_wp2
  go_loop [5] (fun i => ∃ k : Nat, k ≤ l.length ∧ i = .int .i64 k ∧ a ∉ addrsOf (l.take k)) (fun i => l.length - (intOf i).toNat)
  case atStart => exact ⟨0, Nat.zero_le _, rfl, by simp [addrsOf]⟩
  case round =>
    obtain ⟨k, hk, rfl, hno⟩ := hrel
    have HN := Lib.hid hno
    clear hno
    by_cases hlt : k < l.length
    · obtain ⟨x, hx⟩ : ∃ x, l[k]? = some x := ⟨_, List.getElem?_eq_getElem hlt⟩
      have hxx := hr.w32 x (List.mem_of_getElem? hx)
      obtain ⟨b, o, rfl, hb, hc1, hc2⟩ := hr.at_ k x hx
      have HX := Lib.hid hx
      clear hr hx
      by_cases h1 : x.1 ≤ a
      · by_cases h2 : a ≤ x.2
        · go_wp2
          go_ret
          refine ⟨?_, rfl⟩
          have : a ∈ addrsOf l := mem_addrs.2 ⟨x, List.mem_of_getElem? HX.out, h1, h2⟩
          simp [hasB, this]
        · go_wp2
          go_round
          case rel => exact ⟨k + 1, by omega, by go_num, not_mem_snoc HX.out HN.out (fun h => h2 h.2)⟩
          case measure => simp [intOf]; omega
      · have hd : decide (x.1 ≤ a) = false := by simpa using h1
        go_wp2
        go_round
        case rel => exact ⟨k + 1, by omega, by go_num, not_mem_snoc HX.out HN.out (fun h => h1 h.1)⟩
        case measure => simp [intOf]; omega
    · obtain rfl : k = l.length := by omega
      clear hr
      go_wp2
      go_ret
      refine ⟨?_, rfl⟩
      have := HN.out
      rw [List.take_length] at this
      simp [hasB, this]

/-- b is the least address from t on; -1: there is none. -/
def Least (l : List (Nat × Nat)) (t : Nat) (b : Int) : Prop :=
  (b = -1 ∧ ∀ a, a ∈ addrsOf l → a < t) ∨ ∃ n : Nat, b = n ∧ t ≤ n ∧ n ∈ addrsOf l ∧ ∀ a, a ∈ addrsOf l → t ≤ a → n ≤ a

theorem least_nil (t : Nat) : Least [] t (-1) := .inl ⟨rfl, by simp [addrsOf]⟩

/-- One range more. -/
theorem least_snoc {l : List (Nat × Nat)} {x : Nat × Nat} {t : Nat} {b : Int} (h : Least l t b) :
    (max x.1 t ≤ x.2 ∧ (b < 0 ∨ ((max x.1 t : Nat) : Int) < b) → Least (l ++ [x]) t ((max x.1 t : Nat) : Int)) ∧ (¬ (max x.1 t ≤ x.2 ∧ (b < 0 ∨ ((max x.1 t : Nat) : Int) < b)) → Least (l ++ [x]) t b) := by
  have mem : ∀ a, a ∈ addrsOf (l ++ [x]) ↔ a ∈ addrsOf l ∨ (x.1 ≤ a ∧ a ≤ x.2) := by
    intro a
    rw [addrsOf_snoc, List.mem_append, mem_seg]
    constructor
    · rintro (h | h)
      · exact .inl h
      · exact .inr ⟨h.1, by omega⟩
    · rintro (h | h)
      · exact .inl h
      · exact .inr ⟨h.1, by omega⟩
  constructor
  · rintro ⟨h1, h2⟩
    refine .inr ⟨max x.1 t, rfl, by omega, (mem _).2 (.inr ⟨by omega, h1⟩), fun a ha hta => ?_⟩
    rcases (mem a).1 ha with ha | ha
    · rcases h with ⟨_, h⟩ | ⟨n, rfl, _, _, h⟩
      · have := h a ha; omega
      · have := h a ha hta
        rcases h2 with h2 | h2
        · omega
        · omega
    · omega
  · intro hn
    rcases h with ⟨rfl, h⟩ | ⟨n, rfl, h1, h2, h3⟩
    · refine .inl ⟨rfl, fun a ha => ?_⟩
      rcases (mem a).1 ha with ha | ha
      · exact h a ha
      · have : ¬ max x.1 t ≤ x.2 := fun hm => hn ⟨hm, .inl (by omega)⟩
        omega
    · refine .inr ⟨n, rfl, h1, (mem n).2 (.inl h2), fun a ha hta => ?_⟩
      rcases (mem a).1 ha with ha | ha
      · exact h3 a ha hta
      · have : ¬ ((max x.1 t : Nat) : Int) < n := fun hm => hn ⟨by omega, .inr hm⟩
        omega

set_option maxRecDepth 100000 in
set_option maxHeartbeats 1000000 in
theorem next_any (A : Option Addr) (c : Nat) (l : List (Nat × Nat)) (t : Nat) (w : World) (hr : Rg w w.heap.size A l) (hl : l.length ≤ 1000) :
    Calls Try.prog 44 #[.slice A l.length c, .int .i64 (t : Int)] w fun e w' => ∃ b : Int, e = .returned (.int .i64 b) ∧ Least l t b ∧ w = w' := by
  go_enter Try.func44, Try.ntmps44
  go_wp2
  go_loop [5, 6] (fun bv i => ∃ (k : Nat) (b : Int), k ≤ l.length ∧ i = .int .i64 k ∧ bv = .int .i64 b ∧ Least (l.take k) t b) (fun _ i => l.length - (intOf i).toNat)
  case atStart => exact ⟨0, -1, Nat.zero_le _, rfl, rfl, least_nil t⟩
  case round =>
    obtain ⟨k, b, hk, rfl, rfl, hle⟩ := hrel
    have HN := Lib.hid hle
    clear hle
    by_cases hlt : k < l.length
    · obtain ⟨x, hx⟩ : ∃ x, l[k]? = some x := ⟨_, List.getElem?_eq_getElem hlt⟩
      have hxx := hr.w32 x (List.mem_of_getElem? hx)
      obtain ⟨b0, o, rfl, hb, hc1, hc2⟩ := hr.at_ k x hx
      have HX := Lib.hid hx
      clear hr hx
      have hs := least_snoc (x := x) HN.out
      rw [← take_snoc_of l k x HX.out] at hs
      have HS := Lib.hid hs
      clear hs
      go_wp2
      all_goals
        go_round
        case rel =>
          refine ⟨k + 1, _, by omega, by go_num, rfl, ?_⟩
          first
            | exact HS.out.2 (by omega)
            | (rw [show max (x.1 : Int) (t : Int) = ((max x.1 t : Nat) : Int) by omega]; exact HS.out.1 ⟨by omega, by omega⟩)
        case measure => simp [intOf]; omega
    · obtain rfl : k = l.length := by omega
      clear hr
      go_wp2
      go_ret
      have := HN.out
      rw [List.take_length] at this
      exact ⟨b, rfl, this, rfl⟩

end Go.Proofs.Ytjkkdmfpekkfhaa
