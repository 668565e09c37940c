/- addr.Parse: a walk. -/
import Derived.Test.YtfddngpjaoffgaaDoorAddrU
namespace Go.Proofs.YtfddngpjaoffgaaDoor
open Go.RowKit

/-- The parts' numbers, one behind the other. -/
def foldP : List ByteArray → Nat → Option Nat
  | [], a => some a
  | p :: ps, a =>
    match octet p with
    | some u => foldP ps (a * 256 % 4294967296 + u)
    | none => none

theorem foldP_cons_some {p : ByteArray} {ps : List ByteArray} {a u : Nat} (h : octet p = some u) : foldP (p :: ps) a = foldP ps (a * 256 % 4294967296 + u) := by
  simp only [foldP, h]
theorem foldP_cons_none {p : ByteArray} {ps : List ByteArray} {a : Nat} (h : octet p = none) : foldP (p :: ps) a = none := by
  simp only [foldP, h]

/-- What Parse answers. -/
def ParseRes (s : ByteArray) (c : Nat) (code : Int) : Prop :=
  (∃ a, foldP (cuts s) 0 = some a ∧ textS a = s ∧ a < 4294967296 ∧ c = a ∧ code = 0) ∨ ((∀ a, foldP (cuts s) 0 = some a → textS a ≠ s) ∧ c = 0 ∧ code = 2)

theorem shl_or (a u : Nat) (hu : u < 256) : a * 256 % 4294967296 ||| u = a * 256 % 4294967296 + u := by
  have h1 : a * 256 % 4294967296 = (a % 16777216) * 256 := by omega
  rw [h1, Nat.or_comm, show (256 : Nat) = 2 ^ 8 from rfl]
  rw [Nat.mul_comm, Nat.or_comm, ← Nat.two_pow_add_eq_or_of_lt (by simpa using hu)]

theorem toList_beq (x y : ByteArray) : (x.toList == y.toList) = true ↔ x = y := by
  rw [beq_iff_eq, Lib.toList_data, Lib.toList_data]
  constructor
  · intro h
    obtain ⟨⟨l⟩⟩ := x
    obtain ⟨⟨m⟩⟩ := y
    simp at h
    rw [h]
  · intro h
    rw [h]

set_option maxRecDepth 100000 in
set_option maxHeartbeats 1000000 in
theorem parse_any (s : ByteArray) (hs : s.size ≤ 140737488351232) (w : World) (hE : Env w) :
    Calls Tryd.prog 9 #[.string s] w fun e w' => ∃ c code, e = .returned (.tuple #[.int .u32 (c : Nat), .int .i64 code]) ∧ ParseRes s c code ∧ Below w.heap.size w w' := by
  have HE := Lib.hid hE
  have HSP := Lib.hid (split_any s hs w)
  have hlen5 : (cuts s).length ≤ 5 := by have := cuts_length s; omega
  have HSZ := Lib.hid (split_sizes point (min 5 (s.size + 1) - 1) s)
  clear hE
  go_enter Tryd.func9, Tryd.ntmps9
  go_wp2_with fail
  refine HSP.out.mono ?_
  rintro e w1 ⟨rfl, hcells, hlt1, hB1⟩
  have HC := Lib.hid hcells
  clear hcells
  go_wp2
  go_loopw [4, 12] (fun av i wr => ∃ k a : Nat, k ≤ (cuts s).length ∧ i = .int .i64 k ∧ av = .int .u32 a ∧ a < 4294967296 ∧ foldP ((cuts s).drop k) a = foldP (cuts s) 0 ∧ Below w1.heap.size w1 wr) (fun _ i _ => (cuts s).length - (intOf i).toNat)
  case atStart => exact ⟨0, 0, Nat.zero_le _, rfl, rfl, by omega, rfl, Below.refl _ _⟩
  case round =>
    obtain ⟨k, a, hk, rfl, rfl, ha, hf, hB⟩ := hrel
    have hBw : Below w.heap.size w wr := hB1.trans (hB.mono hB1.size)
    have hEr := HE.out.below hBw (Nat.le_refl _)
    have HF := Lib.hid hf
    clear hf
    by_cases hlt : k < (cuts s).length
    · obtain ⟨p, hp⟩ : ∃ p, (cuts s)[k]? = some p := ⟨_, List.getElem?_eq_getElem hlt⟩
      have hcell := cell_kept hB (HC.out k p hp) (Nat.le_refl _)
      have hps : p.size ≤ s.size := HSZ.out p (List.mem_of_getElem? hp)
      have hdrop : (cuts s).drop k = p :: (cuts s).drop (k + 1) := by
        obtain ⟨h1, h2⟩ := List.getElem?_eq_some_iff.1 hp
        rw [List.drop_eq_getElem_cons h1, h2]
      have HD := Lib.hid hdrop
      have HPU := Lib.hid (fun (W : World) (hb : Below w.heap.size w W) => pu_any p (by omega) W (HE.out.below hb (Nat.le_refl _)))
      clear hdrop hp hEr
      generalize (cuts s).length = n at *
      go_wp2_with fail
      refine (HPU.out wr hBw).mono ?_
      rintro e w2 ⟨hB2, ⟨u, hu, rfl⟩ | ⟨hu, n', t', x', rfl⟩⟩
      · have hu256 := octet_lt hu
        go_wp2
        go_roundw
        case rel =>
          refine ⟨k + 1, a * 256 % 4294967296 + u, by omega, by go_num, ?_, by omega, ?_, hB.trans (hB2.mono hB.size)⟩
          · have h := u32_or_nat (a * 256 % 4294967296) u (by omega) (by omega)
            rw [shl_or a u hu256] at h
            rw [← h]
            simp
          · rw [← HF.out, HD.out, foldP_cons_some hu]
        case measure => simp [intOf]; omega
      · go_wp2
        go_ret2
        refine ⟨0, 2, rfl, .inr ⟨fun b hb => ?_, rfl, rfl⟩, hBw.trans (hB2.mono hBw.size)⟩
        rw [← HF.out, HD.out, foldP_cons_none hu] at hb
        cases hb
    · obtain rfl : k = (cuts s).length := by omega
      rw [List.drop_length] at HF
      have HTX := Lib.hid (text_any a ha wr hEr.tab)
      clear hEr
      generalize (cuts s).length = n at *
      go_wp2_with fail
      refine HTX.out.mono ?_
      rintro e w2 ⟨rfl, hB2⟩
      by_cases heq : textS a = s
      · have hne : ((textS a).toList == s.toList) = true := (toList_beq _ _).2 heq
        go_wp2
        go_ret2
        exact ⟨a, 0, rfl, .inl ⟨a, HF.out.symm, heq, ha, rfl, rfl⟩, hBw.trans (hB2.mono hBw.size)⟩
      · have hne : ((textS a).toList == s.toList) = false := by rw [← Bool.not_eq_true]; exact fun h => heq ((toList_beq _ _).1 h)
        go_wp2
        go_ret2
        refine ⟨0, 2, rfl, .inr ⟨fun b hb => ?_, rfl, rfl⟩, hBw.trans (hB2.mono hBw.size)⟩
        rw [← HF.out] at hb
        cases hb
        exact heq
end Go.Proofs.YtfddngpjaoffgaaDoor
