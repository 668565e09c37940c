/- lessorref03.Kind, Client, Asked. -/
import Derived.Test.YtmlckjccgdmknaaPktK
namespace Go.Proofs.Ytmlckjccgdmknaa
open Go.RowKit

set_option maxRecDepth 100000 in
set_option maxHeartbeats 1000000 in
theorem rkind_any (p : PktV) (w : World) (hp : Pk w w.heap.size p) (hL : p.L.length ≤ 1000) (hd : ∀ x ∈ p.L, x.data.length ≤ 1000) :
    Calls Try.prog 20 #[p.v] w fun e w' => e = .returned (.int .i64 ((kindA p.abs : Nat) : Int)) ∧ Below w.heap.size w w' := by
  have hB0 : Below w.heap.size w (w.alloc (pbox p)) := (Below.refl _ _).alloc (Nat.le_refl _) _
  have HF := Lib.hid (rfind_any p.opA p.opC p.L 53 (w.alloc (pbox p)) (hp.boxed (pbox p)).opt (by omega))
  have hfl := fd_len p hd 53
  obtain ⟨l, hl⟩ : ∃ l, l = fd p.abs 53 := ⟨_, rfl⟩
  have hl' : (findL (absL p.L) 53).1 = l := hl.symm
  unfold kindA foundN
  rw [← hl] at hfl ⊢
  unfold GivesF at HF
  rw [hl'] at HF
  clear hl hl' hd hp
  by_cases hlen : l.length = 1
  · rw [if_pos hlen]
    obtain ⟨x, rfl⟩ : ∃ x, l = [x] := List.length_eq_one_iff.1 hlen
    rw [show numL [x] = x.toNat by simp [numL]]
    have hxx := x.toNat_lt
    clear hlen hfl
    go_enter Try.func20, Try.ntmps20
    go_wp2_with fail
    refine HF.out.mono ?_
    rintro e w1 ⟨A, c, rfl, hby, hB1⟩
    obtain ⟨b, o, rfl, hb, hcell⟩ := hby.at_ 0 x rfl
    have hcell' : w1.cell? ⟨b, o, none⟩ = some (.int .u8 (x.toNat : Int)) := hcell
    clear hby hcell
    rw [List.length_singleton]
    go_wp2
    go_ret
    exact ⟨rfl, hB0.trans (hB1.mono hB0.size)⟩
  · rw [if_neg hlen]
    have hne : ((l.length : Int) != 1) = true := by simp; omega
    clear hlen
    go_enter Try.func20, Try.ntmps20
    go_wp2_with fail
    refine HF.out.mono ?_
    rintro e w1 ⟨A, c, rfl, hby, hB1⟩
    go_wp2
    go_ret
    exact ⟨rfl, hB0.trans (hB1.mono hB0.size)⟩

set_option maxRecDepth 100000 in
set_option maxHeartbeats 1000000 in
theorem rclient_any (p : PktV) (w : World) (hp : Pk w w.heap.size p) (hL : p.L.length ≤ 1000) (hd : ∀ x ∈ p.L, x.data.length ≤ 1000) :
    Calls Try.prog 22 #[p.v] w fun e w' => e = .returned (.string ⟨(clientA p.abs).toArray⟩) ∧ Below w.heap.size w w' := by
  have hB0 : Below w.heap.size w (w.alloc (pbox p)) := (Below.refl _ _).alloc (Nat.le_refl _) _
  have HX := Lib.hid (PBox.new w p)
  have HP := Lib.hid (hp.boxed (pbox p))
  have HF := Lib.hid (rfind_any p.opA p.opC p.L 61 (w.alloc (pbox p)) (hp.boxed (pbox p)).opt (by omega))
  have hfl := fd_len p hd 61
  obtain ⟨l, hl⟩ : ∃ l, l = fd p.abs 61 := ⟨_, rfl⟩
  have hl' : (findL (absL p.L) 61).1 = l := hl.symm
  unfold clientA
  rw [← hl] at hfl ⊢
  unfold GivesF at HF
  rw [hl'] at HF
  clear hl hl' hd hp
  by_cases h1 : l.length < 1
  · rw [if_pos (.inl h1)]
    have hd1 : decide ((l.length : Int) < 1) = true := by simp; omega
    clear h1
    go_enter Try.func22, Try.ntmps22
    go_wp2_with fail
    refine HF.out.mono ?_
    rintro e w1 ⟨A, c, rfl, hby, hB1⟩
    have c8 := (HX.out.later hB1).c8
    have hs := str_run p.hwC (HP.out.later hB1).hw
    go_wp2
    go_ret
    exact ⟨rfl, hB0.trans (hB1.mono hB0.size)⟩
  · by_cases h2 : 32 < l.length
    · rw [if_pos (.inr h2)]
      have hd1 : decide ((l.length : Int) < 1) = false := by simp; omega
      go_enter Try.func22, Try.ntmps22
      go_wp2_with fail
      refine HF.out.mono ?_
      rintro e w1 ⟨A, c, rfl, hby, hB1⟩
      have c8 := (HX.out.later hB1).c8
      have hs := str_run p.hwC (HP.out.later hB1).hw
      go_wp2
      go_ret
      exact ⟨rfl, hB0.trans (hB1.mono hB0.size)⟩
    · rw [if_neg (by omega)]
      have hd1 : decide ((l.length : Int) < 1) = false := by simp; omega
      go_enter Try.func22, Try.ntmps22
      go_wp2_with fail
      refine HF.out.mono ?_
      rintro e w1 ⟨A, c, rfl, hby, hB1⟩
      have hs := str_run c hby
      go_wp2
      go_ret
      exact ⟨rfl, hB0.trans (hB1.mono hB0.size)⟩

set_option maxRecDepth 100000 in
set_option maxHeartbeats 1000000 in
theorem rasked_any (p : PktV) (w : World) (hp : Pk w w.heap.size p) (hL : p.L.length ≤ 1000) (hd : ∀ x ∈ p.L, x.data.length ≤ 1000) :
    Calls Try.prog 18 #[p.v] w fun e w' => e = .returned (.tuple #[.int .u32 ((askA p.abs : Nat) : Int), .int .i64 ((longA p.abs : Nat) : Int)]) ∧ Below w.heap.size w w' := by
  have hB0 : Below w.heap.size w (w.alloc (pbox p)) := (Below.refl _ _).alloc (Nat.le_refl _) _
  have HX := Lib.hid (PBox.new w p)
  have HP := Lib.hid (hp.boxed (pbox p))
  have HF := Lib.hid (rfind_any p.opA p.opC p.L 50 (w.alloc (pbox p)) (hp.boxed (pbox p)).opt (by omega))
  have HG := Lib.hid (fun W (h : Pk W W.heap.size p) => rfind_any p.opA p.opC p.L 51 W h.opt (by omega))
  have hfl := fd_len p hd 50
  have hgl := fd_len p hd 51
  obtain ⟨l, hl⟩ : ∃ l, l = fd p.abs 50 := ⟨_, rfl⟩
  obtain ⟨m, hm⟩ : ∃ m, m = fd p.abs 51 := ⟨_, rfl⟩
  have hl' : (findL (absL p.L) 50).1 = l := hl.symm
  have hm' : (findL (absL p.L) 51).1 = m := hm.symm
  unfold askA longA foundN
  rw [← hl] at hfl ⊢
  rw [← hm] at hgl ⊢
  unfold GivesF at HF HG
  rw [hl'] at HF
  rw [hm'] at HG
  clear hl hl' hm hm' hd hp
  by_cases h4 : l.length = 4
  · rw [if_pos h4]
    have hq : ((l.length : Int) == 4) = true := by simp [h4]
    have hlt := num4_lt _ h4
    have HO := Lib.hid (fun B A c W (h : By W B A l) => of_any B A c l W h (by omega))
    clear h4
    generalize numL l = n at *
    have hwr := wrap32 n hlt
    by_cases h5 : m.length = 4
    · rw [if_pos h5]
      have hq5 : ((m.length : Int) == 4) = true := by simp [h5]
      have HO5 := Lib.hid (fun B A c W (h : By W B A m) => of_any B A c m W h (by omega))
      clear h5
      go_enter Try.func18, Try.ntmps18
      go_wp2_with fail
      refine HF.out.mono ?_
      rintro e w1 ⟨A, c, rfl, hby, hB1⟩
      have c9 := (HX.out.later hB1).c9
      go_wp2_with fail
      refine (HO.out _ A c w1 hby).mono ?_
      rintro e w' ⟨rfl, rfl⟩
      go_wp2_with fail
      refine (HG.out w1 (HP.out.later hB1)).mono ?_
      rintro e w2 ⟨A2, c2, rfl, hby2, hB2⟩
      have hB := hB0.trans (hB1.mono hB0.size)
      go_wp2_with fail
      refine (HO5.out _ A2 c2 w2 hby2).mono ?_
      rintro e w' ⟨rfl, rfl⟩
      go_wp2
      go_ret2
      exact ⟨rfl, hB.trans (hB2.mono hB.size)⟩
    · rw [if_neg h5]
      have hq5 : ((m.length : Int) == 4) = false := by simp; omega
      clear h5
      go_enter Try.func18, Try.ntmps18
      go_wp2_with fail
      refine HF.out.mono ?_
      rintro e w1 ⟨A, c, rfl, hby, hB1⟩
      have c9 := (HX.out.later hB1).c9
      go_wp2_with fail
      refine (HO.out _ A c w1 hby).mono ?_
      rintro e w' ⟨rfl, rfl⟩
      go_wp2_with fail
      refine (HG.out w1 (HP.out.later hB1)).mono ?_
      rintro e w2 ⟨A2, c2, rfl, hby2, hB2⟩
      have hB := hB0.trans (hB1.mono hB0.size)
      go_wp2
      go_ret2
      exact ⟨rfl, hB.trans (hB2.mono hB.size)⟩
  · rw [if_neg h4]
    have hq : ((l.length : Int) == 4) = false := by simp; omega
    clear h4
    by_cases h5 : m.length = 4
    · rw [if_pos h5]
      have hq5 : ((m.length : Int) == 4) = true := by simp [h5]
      have HO5 := Lib.hid (fun B A c W (h : By W B A m) => of_any B A c m W h (by omega))
      clear h5
      go_enter Try.func18, Try.ntmps18
      go_wp2_with fail
      refine HF.out.mono ?_
      rintro e w1 ⟨A, c, rfl, hby, hB1⟩
      have c9 := (HX.out.later hB1).c9
      go_wp2_with fail
      refine (HG.out w1 (HP.out.later hB1)).mono ?_
      rintro e w2 ⟨A2, c2, rfl, hby2, hB2⟩
      have hB := hB0.trans (hB1.mono hB0.size)
      go_wp2_with fail
      refine (HO5.out _ A2 c2 w2 hby2).mono ?_
      rintro e w' ⟨rfl, rfl⟩
      go_wp2
      go_ret2
      exact ⟨rfl, hB.trans (hB2.mono hB.size)⟩
    · rw [if_neg h5]
      have hq5 : ((m.length : Int) == 4) = false := by simp; omega
      clear h5
      go_enter Try.func18, Try.ntmps18
      go_wp2_with fail
      refine HF.out.mono ?_
      rintro e w1 ⟨A, c, rfl, hby, hB1⟩
      have c9 := (HX.out.later hB1).c9
      go_wp2_with fail
      refine (HG.out w1 (HP.out.later hB1)).mono ?_
      rintro e w2 ⟨A2, c2, rfl, hby2, hB2⟩
      have hB := hB0.trans (hB1.mono hB0.size)
      go_wp2
      go_ret2
      exact ⟨rfl, hB.trans (hB2.mono hB.size)⟩
end Go.Proofs.Ytmlckjccgdmknaa
