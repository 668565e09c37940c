/- The document's disk: Crash. -/
import Derived.Test.YtdeahiccgjldbaaDskS
import Derived.BigRegion
import Derived.Deep.DeepCutAuto
import Derived.Deep.RegionLaw
namespace Go.Proofs.Ytdeahiccgjldbaa
open Go.RowKit

set_option maxRecDepth 100000 in
set_option maxHeartbeats 1000000 in
theorem rcrash_any {base : Nat} {w : World} {D : Nat} {s : DS} {v : Value} (h : DAt RT base w D s v) (ho : s.Ok) (n : Int) :
    Calls Try.prog 34 #[ptr D, .int .i64 n] w fun e w' => e = .returned (.tuple #[]) ∧ Did RT base w D v w' (crashD s n) := by
  obtain ⟨A, c, rfl, hc, _⟩ := h.form
  have h1 := h.c1
  have h2 := h.c2
  have H := Lib.hid h
  clear h
  have b1 := ho.last
  have b2 := ho.len
  have b3 := ho.r1
  have HO := Lib.hid ho
  clear ho
  have HC := Lib.hid hc
  clear hc
  obtain ⟨l, hl⟩ : ∃ l, l = s.bs.length := ⟨_, rfl⟩
  rw [← hl] at h1 b1 b2
  rw [← hl] at H
  obtain ⟨m, hm⟩ : ∃ m, m = s.last := ⟨_, rfl⟩
  rw [← hm] at h2 b1
  have HL := Lib.hid hl
  have HM := Lib.hid hm
  clear hl hm
  have hl3 : l ≤ 1048576 := by omega
  have HR := Lib.hid b2
  have HR1 := Lib.hid b3
  clear b2 b3
  have w1 : IntKind.i64.wrap ((l : Int) - (m : Int)) = (l : Int) - (m : Int) := IntWalk.i64_in _ (by omega)
  have hk : ∃ q : Int, (∃ k : Nat, Hid (k = s.last + kept s n) ∧ Hid (k ≤ l) ∧ IntKind.i64.wrap ((m : Int) + q) = (k : Int)) ∧ ((n < 0 ∧ ¬ ((l : Int) - (m : Int) < 0) ∧ q = 0) ∨ (¬ n < 0 ∧ (l : Int) - (m : Int) < n ∧ q = (l : Int) - (m : Int)) ∨ (¬ n < 0 ∧ ¬ ((l : Int) - (m : Int) < n) ∧ q = n)) := by
    have hL := HL.out
    have hM := HM.out
    unfold kept
    rw [← hL, ← hM]
    by_cases hn : n < 0
    · exact ⟨0, ⟨m, by rw [if_pos (by omega)]; rfl, b1, IntWalk.i64_in _ (by omega)⟩, .inl ⟨hn, by omega, rfl⟩⟩
    · by_cases h2 : (l : Int) - (m : Int) < n
      · refine ⟨(l : Int) - (m : Int), ⟨l, ?_, Nat.le_refl _, ?_⟩, .inr (.inl ⟨hn, h2, rfl⟩)⟩
        · rw [if_neg (by omega), if_neg (by omega)]
          show l = m + (l - m)
          omega
        · rw [IntWalk.i64_in _ (by omega)]; omega
      · obtain ⟨j, rfl⟩ := Int.eq_ofNat_of_zero_le (show 0 ≤ n by omega)
        refine ⟨(j : Int), ⟨m + j, ?_, by show m + j ≤ l; omega, ?_⟩, .inr (.inr ⟨hn, h2, rfl⟩)⟩
        · split
          · show m + j = m + 0
            omega
          · show m + j = m + _
            rw [if_pos (by omega)]
            omega
        · rw [IntWalk.i64_in _ (by omega)]; omega
  obtain ⟨q, ⟨k, HK, HKL, hq⟩, hcase⟩ := hk
  have hcut := fun W => run_headB A l c (k : Int) (by omega) (by have := HC.out; have := HL.out; have := HKL.out; omega) W
  rw [Int.toNat_natCast] at hcut
  have HQ := Lib.hid hq
  have HCut := Lib.hid hcut
  have B1 := Lib.hid b1
  clear b1 hq hcut
  go_enter Try.func34, Try.ntmps34
  go_upto_region 1 with fail
  go_cut [1] (fun s1 wx => s1 = .int .i64 q ∧ wx = w.drew)
  case first =>
    rcases hcase with ⟨t1, t2, rfl⟩ | ⟨t1, t2, rfl⟩ | ⟨t1, t2, rfl⟩
    all_goals
      go_wp2_with fail
      go_region
      go_wp2_with fail
      go_meet
      exact ⟨rfl, rfl⟩
  case rest =>
    obtain ⟨rfl, rfl⟩ := hcut
    have hd := H.out.drew
    have hk : Kp (Oth w D (.slice A l c)) w w.drew := (Kp.refl _ _).drew
    clear h1 h2 w1 hcase
    generalize w.drew = W1 at hd hk ⊢
    have c1 : W1.cell? ⟨D, 1, none⟩ = some (.slice A l c) := hd.c1
    have c2 : W1.cell? ⟨D, 2, none⟩ = some (.int .i64 (m : Int)) := by rw [HM.out]; exact hd.c2
    have hE := hd.alloc (.cells #[] 5)
    have ca1 : (W1.alloc (.cells #[] 5)).cell? ⟨D, 1, none⟩ = some (.slice A l c) := hE.c1
    have ca2 : (W1.alloc (.cells #[] 5)).cell? ⟨D, 2, none⟩ = some (.int .i64 (m : Int)) := by rw [HM.out]; exact hE.c2
    have hB1 : Below W1.heap.size W1 (W1.alloc (.cells #[] 5)).drew := ((Below.refl _ _).alloc (Nat.le_refl _) _).drew
    have hown : (W1.alloc (.cells #[] 5)).drew.ownsRow W1.heap.size 5 1 (.slice (some ⟨W1.heap.size, 0, none⟩) 0 0) 0 (bcells []) := World.ownsRow_made W1 #[] 0 (Nat.le_refl _) (Nat.zero_le _) rfl
    have hlen : (s.bs.take k).length = k := by rw [List.length_take]; have := HL.out; have := HKL.out; omega
    have hby : By W1 W1.heap.size A (s.bs.take k) := by
      obtain ⟨A', c', e, _, hb⟩ := hd.form
      injection e with e1
      subst e1
      exact hb.take k
    have HD := Lib.hid hd
    have HK1 := Lib.hid hk
    have HB1 := Lib.hid hB1
    have HOwn := Lib.hid hown
    have HBy := Lib.hid hby
    have HLen := Lib.hid hlen
    have hq := HQ.out
    have hcut := HCut.out
    clear hd hk hB1 hown hby hlen hE
    have HK2 : Hid (∀ w1, (W1.alloc (.cells #[] 5)).drew.grownBy w1 (Value.slice (some ⟨W1.heap.size, 0, none⟩) 0 0).ownBlock → Below W1.heap.size W1 w1 ∧ w1.cell? ⟨D, 1, none⟩ = some (.slice A l c) ∧ w1.frozen? ⟨D, 1, none⟩ = false) := Lib.hid fun w1 hg1 => by
      have hb := own_below HB1.out HB1.out.size HOwn.out hg1
      exact ⟨hb, (HD.out.below hb).c1, (HD.out.below hb).free 1⟩
    go_wp2_with fail
    go_region_law (first | (refine step_appO rfl (.tmp 18) (.tmp 29) rfl W1.heap.size _ _ _ rfl HOwn.out _ _ (s.bs.take k) k c HLen.out.symm rfl (HBy.out.below HB1.out) k (Nat.zero_add _) (by have := HKL.out; omega) HB1.out.size ?_; intro A1 q1 w1 hown1 hg1 _; obtain ⟨d1, d2, d3⟩ := HK2.out w1 hg1))
    all_goals
      have hp := HD.out.put d1 (s.bs.take k) (v' := .slice A1 k q1) (by rw [HLen.out]; exact hown1)
      clear hown1 hg1 d1 d2 d3 c1 c2 ca1 ca2
      generalize w1.setCell ⟨D, 1, none⟩ (.slice A1 k q1) = W3 at hp ⊢
      have k1 := hp.1.c1
      have k2 := hp.1.c2
      have k3 := hp.1.c3
      have f2 := hp.1.free 2
      have f3 := hp.1.free 3
      have HP := Lib.hid hp
      clear hp hq hcut
      go_wp2
      go_end0
      have hs : crashD s n = { { { s with bs := s.bs.take k } with last := k } with left := -1 } := by
        unfold crashD
        rw [← HK.out]
      have hl := HL.out
      subst hl
      rw [hs]
      obtain ⟨p1, p2, p3⟩ := HP.out
      exact ⟨rfl, Did.after HK1.out ⟨_, (p1.set2 k).set3 (-1), Oth.set _ _ _ (Oth.set _ _ _ p2), fun j hj => .inr (p3 j hj)⟩⟩

end Go.Proofs.Ytdeahiccgjldbaa
