/- The document's box: out, Busy, Len, New. -/
import Derived.Test.YtekladmddfibaaaBoxM
namespace Go.Proofs.Ytekladmddfibaaa
open Go.RowKit Go.Sort

set_option maxRecDepth 100000 in
set_option maxHeartbeats 1000000 in
theorem rout_any {w : World} {r : Nat} {vL vW : Value} {B : BxV} (a : Nat) (h : DAtB w r vL vW B) (hlen : B.l.length ≤ 1073741824) :
    Calls Try.prog 34 #[.pointer (some ⟨r, 0, none⟩), .int .u32 (a : Int)] w fun e w' => e = .returned (.bool (B.out a)) ∧ w = w' := by
  obtain ⟨A, c, -, c0, hlc, HE⟩ := h.readL
  have HE := Lib.hid HE
  clear h
  go_enter Try.func34, Try.ntmps34
  go_wp2
  go_loop [5] (fun i => ∃ j : Nat, j ≤ B.l.length ∧ i = .int .i64 j ∧ Hid (∀ x ∈ B.l.take j, x.m.addr ≠ a)) (fun i => B.l.length - (intOf i).toNat)
  case atStart => exact ⟨0, Nat.zero_le _, rfl, Lib.hid (by simp)⟩
  case round =>
    obtain ⟨j, hj, rfl, HN⟩ := hrel
    by_cases hlt : j < B.l.length
    · obtain ⟨x, hx⟩ : ∃ x, B.l[j]? = some x := ⟨_, List.getElem?_eq_getElem hlt⟩
      obtain ⟨b, o, rfl, hb, ⟨-, -, -, -, -, x5, -⟩, -⟩ := HE.out.at12 j x hx
      have HX := Lib.hid hx
      clear hx
      by_cases he : x.m.addr = a
      · have HI : Hid (B.out a = true) := Lib.hid (out_mem.2 ⟨x, List.mem_of_getElem? HX.out, he⟩)
        have hq : ((x.m.addr : Int) == (a : Int)) = true := by simp [he]
        clear he
        go_wp2
        go_ret
        rw [HI.out]
        exact ⟨rfl, rfl⟩
      · have hq : ((x.m.addr : Int) == (a : Int)) = false := by simp; omega
        have HN2 : Hid (∀ y ∈ B.l.take (j + 1), y.m.addr ≠ a) := Lib.hid (by
          intro y hy
          rw [take_snoc_of B.l j x HX.out, List.mem_append, List.mem_singleton] at hy
          rcases hy with hy | rfl
          · exact HN.out y hy
          · exact he)
        clear he
        go_wp2
        go_round
        case rel => exact ⟨j + 1, by omega, by go_num, HN2⟩
        case measure => simp [intOf]; omega
    · have HI : Hid (B.out a = false) := Lib.hid (by
        cases e : B.out a
        · rfl
        · obtain ⟨x, hx, he⟩ := out_mem.1 e
          exact absurd he (HN.out x (by rwa [List.take_of_length_le (by omega)])))
      go_wp2
      go_ret
      rw [HI.out]
      exact ⟨rfl, rfl⟩

set_option maxRecDepth 100000 in
set_option maxHeartbeats 1000000 in
theorem rbusy_any {w : World} {r : Nat} {vL vW : Value} {B : BxV} (a : Nat) (h : DAtB w r vL vW B) (hok : B.Ok) :
    Calls Try.prog 16 #[.pointer (some ⟨r, 0, none⟩), .int .u32 (a : Int)] w fun e w' => e = .returned (.bool (B.busy a)) ∧ w = w' := by
  obtain ⟨A, c, -, c1, hlc, HE⟩ := h.readW
  have HE := Lib.hid HE
  have hlen := hok.lenW
  have HO := Lib.hid (rout_any a h hok.len)
  clear h hok
  go_enter Try.func16, Try.ntmps16
  go_wp2
  go_loop [5] (fun i => ∃ j : Nat, j ≤ B.w.length ∧ i = .int .i64 j ∧ Hid (∀ x ∈ B.w.take j, x.addr ≠ a)) (fun i => B.w.length - (intOf i).toNat)
  case atStart => exact ⟨0, Nat.zero_le _, rfl, Lib.hid (by simp)⟩
  case round =>
    obtain ⟨j, hj, rfl, HN⟩ := hrel
    by_cases hlt : j < B.w.length
    · obtain ⟨x, hx⟩ : ∃ x, B.w[j]? = some x := ⟨_, List.getElem?_eq_getElem hlt⟩
      obtain ⟨b, o, rfl, hb, -, -, -, -, -, x5, -⟩ := HE.out.at11 j x hx
      have HX := Lib.hid hx
      clear hx
      by_cases he : x.addr = a
      · have HI : Hid (B.busy a = true) := Lib.hid (by
          unfold BxV.busy
          rw [Bool.or_eq_true]
          exact .inl (List.any_eq_true.2 ⟨x, List.mem_of_getElem? HX.out, by simpa using he⟩))
        have hq : ((x.addr : Int) == (a : Int)) = true := by simp [he]
        clear he
        go_wp2
        go_ret
        rw [HI.out]
        exact ⟨rfl, rfl⟩
      · have hq : ((x.addr : Int) == (a : Int)) = false := by simp; omega
        have HN2 : Hid (∀ y ∈ B.w.take (j + 1), y.addr ≠ a) := Lib.hid (by
          intro y hy
          rw [take_snoc_of B.w j x HX.out, List.mem_append, List.mem_singleton] at hy
          rcases hy with hy | rfl
          · exact HN.out y hy
          · exact he)
        clear he
        go_wp2
        go_round
        case rel => exact ⟨j + 1, by omega, by go_num, HN2⟩
        case measure => simp [intOf]; omega
    · have HI : Hid (B.busy a = B.out a) := Lib.hid (by
        unfold BxV.busy
        rw [show (B.w.any fun m => m.addr == a) = false from List.any_eq_false.2 fun x hx => by
          have := HN.out x (by rwa [List.take_of_length_le (by omega)])
          simpa using this]
        rfl)
      go_wp2_with fail
      refine HO.out.mono ?_
      rintro e w' ⟨rfl, rfl⟩
      go_wp2
      go_ret
      rw [HI.out]
      exact ⟨rfl, rfl⟩

set_option maxRecDepth 100000 in
set_option maxHeartbeats 1000000 in
theorem rlen_any {w : World} {r : Nat} {vL vW : Value} {B : BxV} (h : DAtB w r vL vW B) (hok : B.Ok) :
    Calls Try.prog 13 #[.pointer (some ⟨r, 0, none⟩)] w fun e w' => e = .returned (.int .i64 ((B.len : Nat) : Int)) ∧ w = w' := by
  obtain ⟨A, c, -, c1, hlc, HE⟩ := h.readW
  obtain ⟨A0, k0, -, c0, hlc0, -⟩ := h.readL
  have HE := Lib.hid HE
  have hlen := hok.lenW
  have hlenL := hok.len
  have HO := Lib.hid (fun a => rout_any a h hok.len)
  clear h hok
  go_enter Try.func13, Try.ntmps13
  go_wp2
  go_loop [3, 4] (fun n i => ∃ j k : Nat, j ≤ B.w.length ∧ i = .int .i64 j ∧ n = .int .i64 ((B.l.length : Int) + (k : Int)) ∧ k ≤ j ∧ Hid (k = (B.w.take j).countP fun m => ! B.out m.addr)) (fun _ i => B.w.length - (intOf i).toNat)
  case atStart => exact ⟨0, 0, Nat.zero_le _, rfl, by simp, Nat.le_refl _, Lib.hid rfl⟩
  case round =>
    obtain ⟨j, k, hj, rfl, rfl, hk, HK⟩ := hrel
    by_cases hlt : j < B.w.length
    · obtain ⟨x, hx⟩ : ∃ x, B.w[j]? = some x := ⟨_, List.getElem?_eq_getElem hlt⟩
      obtain ⟨b, o, rfl, hb, -, -, -, -, -, x5, -⟩ := HE.out.at11 j x hx
      have HS : Hid (((B.w.take (j + 1)).countP fun m => ! B.out m.addr) = ((B.w.take j).countP fun m => ! B.out m.addr) + if (! B.out x.addr) = true then 1 else 0) := Lib.hid (by
        rw [take_snoc_of B.w j x hx, List.countP_append, List.countP_singleton])
      clear hx
      go_wp2_with fail
      refine (HO.out x.addr).mono ?_
      rintro e w' ⟨rfl, rfl⟩
      cases hq : B.out x.addr
      · rw [hq] at HS
        go_wp2
        go_round
        case rel => exact ⟨j + 1, k + 1, by omega, by go_num, by go_num, by omega, Lib.hid (by rw [HS.out, HK.out]; rfl)⟩
        case measure => simp [intOf]; omega
      · rw [hq] at HS
        go_wp2
        go_round
        case rel => exact ⟨j + 1, k, by omega, by go_num, rfl, by omega, Lib.hid (by rw [HS.out, HK.out]; rfl)⟩
        case measure => simp [intOf]; omega
    · have HI : Hid ((B.l.length : Int) + (k : Int) = ((B.len : Nat) : Int)) := Lib.hid (by
        unfold BxV.len
        rw [HK.out, List.take_of_length_le (by omega)]
        simp)
      go_wp2
      go_ret
      rw [HI.out]
      exact ⟨rfl, rfl⟩

set_option maxRecDepth 100000 in
theorem rnew_any (w : World) : Calls Try.prog 10 #[] w fun e w' => ∃ Q r, e = .returned (.pointer (some ⟨r, 0, none⟩)) ∧ DB w' Q r newB ∧ Below w.heap.size w w' ∧ ∀ b, Q b → w.heap.size ≤ b := by
  go_enter Try.func10, Try.ntmps10
  go_wp2
  go_ret
  have h : DAtB (w.alloc (.cells #[.slice none 0 0, .slice none 0 0, .int .i64 0] 39)) w.heap.size (.slice none 0 0) (.slice none 0 0) newB :=
    ⟨heap_alloc_new w _, World.ownsRow_nil _ _ _ _, World.ownsRow_nil _ _ _ _⟩
  refine ⟨_, _, rfl, ⟨_, _, h, new_ok, rfl⟩, (Below.refl _ _).alloc (Nat.le_refl _) _, ?_⟩
  rintro b (rfl | hb | hb)
  · exact Nat.le_refl _
  · cases hb
  · cases hb
end Go.Proofs.Ytekladmddfibaaa
