/- packet.found, Kind, Client, Asked, and the document's own. -/
import Derived.Test.YtmlckjccgdmknaaPktN
namespace Go.Proofs.Ytmlckjccgdmknaa
open Go.RowKit

/-- The data of the first option with a code. -/
def fd (a : PktA) (code : Int) : List UInt8 := (findL a.opts code).1
def foundN (a : PktA) (code : Int) (m : Nat) : Nat := if (fd a code).length = m then numL (fd a code) else 0
def kindA (a : PktA) : Nat := foundN a 53 1
def clientA (a : PktA) : List UInt8 := if (fd a 61).length < 1 ∨ 32 < (fd a 61).length then a.hw else fd a 61
def askA (a : PktA) : Nat := if (fd a 50).length = 4 then numL (fd a 50) else a.ci
def longA (a : PktA) : Nat := foundN a 51 4

theorem fd_len (p : PktV) (hd : ∀ x ∈ p.L, x.data.length ≤ 1000) (code : Int) : (fd p.abs code).length ≤ 1000 := by
  unfold fd
  show (findL (absL p.L) code).1.length ≤ 1000
  rcases first_cases (absL p.L) code with ⟨_, h2⟩ | ⟨k, y, _, h2, h3, h4⟩
  · rw [find_none _ _ h2]; simp
  · rw [find_at _ _ k y h2 h3 h4]
    have hm := List.mem_of_getElem? h2
    simp only [absL, List.mem_map] at hm
    obtain ⟨x, hx, rfl⟩ := hm
    exact hd x hx
theorem num4_lt (l : List UInt8) (h : l.length = 4) : numL l < 4294967296 := by have := numL_lt l; rw [h] at this; exact this

set_option maxRecDepth 100000 in
set_option maxHeartbeats 1000000 in
theorem found_any (p : PktV) (code : Int) (m : Nat) (hm : sizedB (m : Int) = true) (w : World) (hp : Pk w w.heap.size p) (hL : p.L.length ≤ 1000) (hd : ∀ x ∈ p.L, x.data.length ≤ 1000) :
    Calls Try.prog 38 #[p.v, .int .i64 code, .int .i64 (m : Int)] w fun e w' => e = .returned (.tuple #[.int .i64 ((foundN p.abs code m : Nat) : Int), .bool (decide ((fd p.abs code).length = m))]) ∧ Below w.heap.size w w' := by
  have hB0 : Below w.heap.size w (w.alloc (pbox p)) := (Below.refl _ _).alloc (Nat.le_refl _) _
  have HF := Lib.hid (find_any p.opA p.opC p.L code (w.alloc (pbox p)) (hp.boxed (pbox p)).opt (by omega) hd)
  have hfl := fd_len p hd code
  obtain ⟨l, hl⟩ : ∃ l, l = fd p.abs code := ⟨_, rfl⟩
  have hl' : (findL (absL p.L) code).1 = l := hl.symm
  unfold foundN
  rw [← hl] at hfl ⊢
  unfold GivesF at HF
  rw [hl'] at HF
  clear hl hl' hd hp
  by_cases hlen : l.length = m
  · rw [if_pos hlen, decide_eq_true hlen]
    subst hlen
    have hne : ((l.length : Int) != (l.length : Int)) = false := by simp
    have HN := Lib.hid (fun A c W (h : By W W.heap.size A l) => number_any A c l W h hfl)
    have HR := Lib.hid (show numR l = (((numL l : Nat) : Int), 0) by unfold numR; rw [hm]; rfl)
    rw [HR.out] at HN
    clear hm
    go_enter Try.func38, Try.ntmps38
    go_wp2_with fail
    refine HF.out.mono ?_
    rintro e w1 ⟨A, c, rfl, hby, hB1⟩
    go_wp2_with fail
    refine (HN.out A c w1 hby).mono ?_
    rintro e w' ⟨rfl, rfl⟩
    go_wp2
    go_ret2
    exact ⟨rfl, hB0.trans (hB1.mono hB0.size)⟩
  · have hne : ((l.length : Int) != (m : Int)) = true := by simp; omega
    rw [if_neg hlen, decide_eq_false hlen]
    clear hm hlen
    go_enter Try.func38, Try.ntmps38
    go_wp2_with fail
    refine HF.out.mono ?_
    rintro e w1 ⟨A, c, rfl, hby, hB1⟩
    go_wp2
    go_ret2
    exact ⟨rfl, hB0.trans (hB1.mono hB0.size)⟩

set_option maxRecDepth 100000 in
set_option maxHeartbeats 1000000 in
theorem kind_any (p : PktV) (w : World) (hp : Pk w w.heap.size p) (hL : p.L.length ≤ 1000) (hd : ∀ x ∈ p.L, x.data.length ≤ 1000) :
    Calls Try.prog 19 #[p.v] w fun e w' => e = .returned (.int .i64 ((kindA p.abs : Nat) : Int)) ∧ Below w.heap.size w w' := by
  have hB0 : Below w.heap.size w (w.alloc (pbox p)) := (Below.refl _ _).alloc (Nat.le_refl _) _
  have HF := Lib.hid (found_any p 53 1 (by decide) (w.alloc (pbox p)) (hp.boxed (pbox p)) hL hd)
  clear hp hd
  unfold kindA
  go_enter Try.func19, Try.ntmps19
  go_wp2_with fail
  refine HF.out.mono ?_
  rintro e w1 ⟨rfl, hB1⟩
  go_wp2
  go_ret
  exact ⟨rfl, hB0.trans (hB1.mono hB0.size)⟩

set_option maxRecDepth 100000 in
set_option maxHeartbeats 1000000 in
theorem client_any (p : PktV) (w : World) (hp : Pk w w.heap.size p) (hL : p.L.length ≤ 1000) (hd : ∀ x ∈ p.L, x.data.length ≤ 1000) :
    Calls Try.prog 21 #[p.v] w fun e w' => e = .returned (.string ⟨(clientA p.abs).toArray⟩) ∧ Below w.heap.size w w' := by
  have hB0 : Below w.heap.size w (w.alloc (pbox p)) := (Below.refl _ _).alloc (Nat.le_refl _) _
  have HX := Lib.hid (PBox.new w p)
  have HP := Lib.hid (hp.boxed (pbox p))
  have HF := Lib.hid (find_any p.opA p.opC p.L 61 (w.alloc (pbox p)) (hp.boxed (pbox p)).opt (by omega) hd)
  have hfl := fd_len p hd 61
  obtain ⟨l, hl⟩ : ∃ l, l = fd p.abs 61 := ⟨_, rfl⟩
  have hl' : (findL (absL p.L) 61).1 = l := hl.symm
  unfold clientA
  rw [← hl] at hfl ⊢
  unfold GivesF at HF
  rw [hl'] at HF
  clear hl hl' hd hp
  by_cases h1 : l.length < 1
  · rw [if_pos (.inl h1)]
    have hd1 : decide ((l.length : Int) < 1) = true := by simp; omega
    clear h1
    go_enter Try.func21, Try.ntmps21
    go_wp2_with fail
    refine HF.out.mono ?_
    rintro e w1 ⟨A, c, rfl, hby, hB1⟩
    have c8 := (HX.out.later hB1).c8
    have hs := str_run p.hwC (HP.out.later hB1).hw
    go_wp2
    go_ret
    exact ⟨rfl, hB0.trans (hB1.mono hB0.size)⟩
  · by_cases h2 : 32 < l.length
    · rw [if_pos (.inr h2)]
      have hd1 : decide ((l.length : Int) < 1) = false := by simp; omega
      go_enter Try.func21, Try.ntmps21
      go_wp2_with fail
      refine HF.out.mono ?_
      rintro e w1 ⟨A, c, rfl, hby, hB1⟩
      have c8 := (HX.out.later hB1).c8
      have hs := str_run p.hwC (HP.out.later hB1).hw
      go_wp2
      go_ret
      exact ⟨rfl, hB0.trans (hB1.mono hB0.size)⟩
    · rw [if_neg (by omega)]
      have hd1 : decide ((l.length : Int) < 1) = false := by simp; omega
      go_enter Try.func21, Try.ntmps21
      go_wp2_with fail
      refine HF.out.mono ?_
      rintro e w1 ⟨A, c, rfl, hby, hB1⟩
      have hs := str_run c hby
      go_wp2
      go_ret
      exact ⟨rfl, hB0.trans (hB1.mono hB0.size)⟩

theorem wrap32 (n : Nat) (h : n < 4294967296) : IntKind.u32.wrap (n : Int) = n := by
  simp [IntKind.wrap, IntKind.bits, IntKind.signed]; omega

set_option maxRecDepth 100000 in
set_option maxHeartbeats 1000000 in
theorem asked_any (p : PktV) (w : World) (hp : Pk w w.heap.size p) (hL : p.L.length ≤ 1000) (hd : ∀ x ∈ p.L, x.data.length ≤ 1000) :
    Calls Try.prog 17 #[p.v] w fun e w' => e = .returned (.tuple #[.int .u32 ((askA p.abs : Nat) : Int), .int .i64 ((longA p.abs : Nat) : Int)]) ∧ Below w.heap.size w w' := by
  have hB0 : Below w.heap.size w (w.alloc (pbox p)) := (Below.refl _ _).alloc (Nat.le_refl _) _
  have HX := Lib.hid (PBox.new w p)
  have HP := Lib.hid (hp.boxed (pbox p))
  have HF := Lib.hid (found_any p 50 4 (by decide) (w.alloc (pbox p)) (hp.boxed (pbox p)) hL hd)
  have HG := Lib.hid (fun W (h : Pk W W.heap.size p) => found_any p 51 4 (by decide) W h hL hd)
  clear hp hd
  unfold askA longA
  by_cases h4 : (fd p.abs 50).length = 4
  · rw [decide_eq_true h4] at HF
    rw [if_pos h4]
    rw [show foundN p.abs 50 4 = numL (fd p.abs 50) by unfold foundN; rw [if_pos h4]] at HF
    have hlt := num4_lt _ h4
    clear h4
    generalize numL (fd p.abs 50) = n at *
    have hwr := wrap32 n hlt
    go_enter Try.func17, Try.ntmps17
    go_wp2_with fail
    refine HF.out.mono ?_
    rintro e w1 ⟨rfl, hB1⟩
    obtain ⟨c0, c1, c2, c3, c4, c5, c6, c7, c8, c9⟩ := (HX.out.later hB1).all
    go_wp2_with fail
    refine (HG.out w1 (HP.out.later hB1)).mono ?_
    rintro e w2 ⟨rfl, hB2⟩
    have hB := hB0.trans (hB1.mono hB0.size)
    clear c0 c1 c2 c3 c4 c5 c6 c7 c8 c9
    go_wp2
    go_ret2
    exact ⟨rfl, hB.trans (hB2.mono hB.size)⟩
  · rw [decide_eq_false h4] at HF
    rw [if_neg h4]
    clear h4
    go_enter Try.func17, Try.ntmps17
    go_wp2_with fail
    refine HF.out.mono ?_
    rintro e w1 ⟨rfl, hB1⟩
    obtain ⟨c0, c1, c2, c3, c4, c5, c6, c7, c8, c9⟩ := (HX.out.later hB1).all
    go_wp2_with fail
    refine (HG.out w1 (HP.out.later hB1)).mono ?_
    rintro e w2 ⟨rfl, hB2⟩
    have hB := hB0.trans (hB1.mono hB0.size)
    clear c0 c1 c2 c3 c4 c5 c6 c7 c8 c9
    go_wp2
    go_ret2
    exact ⟨rfl, hB.trans (hB2.mono hB.size)⟩
end Go.Proofs.Ytmlckjccgdmknaa
