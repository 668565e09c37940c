/- Joined texts: DskR, DskS, DskT. -/
import Derived.Test.YtalmjmhbpmhokaaGreatMrgDskM
import Derived.BigRegion
import Derived.Deep.DeepCutAuto
import Derived.Deep.RegionLaw

/- The document's disk: fails, New, Fail, Sync, Swap, Append. -/
section
namespace Go.Proofs.YtalmjmhbpmhokaaGreat
open Go.RowKit

theorem rnew_any (w : World) (n : Int) : Calls Tryz.prog 11 #[.int .i64 n] w (News RT w n) := by
  by_cases hn : 1 ≤ n ∧ n ≤ 1048576
  · obtain ⟨k, rfl⟩ := Int.eq_ofNat_of_zero_le (show 0 ≤ n by omega)
    have d1 : decide ((k : Int) < 1) = false := decide_eq_false (by omega)
    have d2 : decide (1048576 < (k : Int)) = false := decide_eq_false (by omega)
    have HN := Lib.hid hn
    clear hn
    go_enter Tryz.func11, Tryz.ntmps11
    go_wp2
    go_ret2
    have hn := HN.out
    exact .inl ⟨k, rfl, by omega, by omega, rfl, new_ds w k _ _ rfl, (Below.refl _ _).alloc (Nat.le_refl _) _, Array.size_push _⟩
  · have h : (decide (n < 1) = true) ∨ (decide (n < 1) = false ∧ decide (1048576 < n) = true) := by
      simp only [decide_eq_true_eq, decide_eq_false_iff_not]; omega
    have HN := Lib.hid hn
    clear hn
    rcases h with d1 | ⟨d1, d2⟩
    all_goals
      go_enter Tryz.func11, Tryz.ntmps11
      go_wp2
      go_ret2
      exact .inr ⟨HN.out, rfl, rfl⟩

set_option maxRecDepth 100000 in
theorem rfail_any {base : Nat} {w : World} {D : Nat} {s : DS} {v : Value} (h : DAt RT base w D s v) (n : Int) :
    Calls Tryz.prog 47 #[ptr D, .int .i64 n] w fun e w' => e = .returned (.tuple #[]) ∧ Did RT base w D v w' (failD s n) := by
  have h3 := h.c3
  have hf := h.free 3
  have H := Lib.hid h
  clear h
  go_enter Tryz.func47, Tryz.ntmps47
  go_wp2
  · go_end0
    have e : failD s n = { s with left := -1 } := by rw [failD, if_pos (by omega)]
    rw [e]
    exact ⟨rfl, _, H.out.set3 (-1), Oth.set _ _ _ (Kp.refl _ _), fun _ hk => .inl hk⟩
  · go_end0
    have e : failD s n = { s with left := n } := by rw [failD, if_neg (by omega)]
    rw [e]
    exact ⟨rfl, _, H.out.set3 n, Oth.set _ _ _ (Kp.refl _ _), fun _ hk => .inl hk⟩

/-- Is a change not made? It is counted. -/
def Fails (base : Nat) (w : World) (D : Nat) (s : DS) (v : Value) (e : Ending) (w' : World) : Prop :=
  (s.left = 0 ∧ e = .returned (.bool true) ∧ w' = w) ∨ (s.left ≠ 0 ∧ e = .returned (.bool false) ∧ DAt RT base w' D s.count v ∧ Kp (Oth w D v) w w' ∧ w'.heap.size = w.heap.size)

set_option maxRecDepth 100000 in
theorem fails_any {base : Nat} {w : World} {D : Nat} {s : DS} {v : Value} (h : DAt RT base w D s v) (ho : s.Ok) :
    Calls Tryz.prog 52 #[ptr D] w (Fails base w D s v) := by
  have h3 := h.c3
  have hf := h.free 3
  have b1 := ho.left
  have b2 := ho.top
  obtain ⟨n, hn⟩ : ∃ n, n = s.left := ⟨_, rfl⟩
  rw [← hn] at h3 b1 b2
  have H := Lib.hid h
  have HN := Lib.hid hn
  clear h hn ho
  rcases (show (n = 0) ∨ (n = -1) ∨ (0 < n) by omega) with e0 | e0 | e0
  · have d : (n == 0) = true := by simpa using e0
    have E := Lib.hid e0
    clear e0 b1 b2
    go_enter Tryz.func52, Tryz.ntmps52
    go_wp2
    go_ret
    exact .inl ⟨by rw [← HN.out]; exact E.out, rfl, rfl⟩
  · have d : (n == 0) = false := by simp [e0]
    have d2 : decide (0 < n) = false := decide_eq_false (by omega)
    have E := Lib.hid e0
    clear e0 b1 b2
    go_enter Tryz.func52, Tryz.ntmps52
    go_wp2
    go_ret
    have hl := HN.out.symm.trans E.out
    have hc : s.count = s := by unfold DS.count; rw [if_pos hl]
    exact .inr ⟨by omega, rfl, by rw [hc]; exact H.out, Kp.refl _ _, rfl⟩
  · have d : (n == 0) = false := by simp; omega
    have d2 : decide (0 < n) = true := decide_eq_true (by omega)
    have hw : IntKind.i64.wrap (n - 1) = n - 1 := IntWalk.i64_in _ (by omega)
    have E := Lib.hid e0
    clear e0 b1 b2
    go_enter Tryz.func52, Tryz.ntmps52
    go_wp2
    go_ret
    have hl := HN.out
    have he := E.out
    have hc : s.count = { s with left := n - 1 } := by unfold DS.count; rw [if_neg (by omega), ← hl]
    exact .inr ⟨by omega, rfl, by rw [hc]; exact H.out.set3 (n - 1), Oth.set _ _ _ (Kp.refl _ _), World.size_setCell _ _ _⟩

set_option maxRecDepth 100000 in
theorem rsync_any {base : Nat} {w : World} {D : Nat} {s : DS} {v : Value} (h : DAt RT base w D s v) (ho : s.Ok) :
    Calls Tryz.prog 86 #[ptr D] w (Ans RT base w D v (syncD s)) := by
  have HC := Lib.hid (fails_any h ho)
  obtain ⟨A, c, rfl, hc, _⟩ := h.form
  have H := Lib.hid h
  clear h hc
  go_enter Tryz.func86, Tryz.ntmps86
  go_wp2_with fail
  refine HC.out.mono ?_
  rintro e w' (⟨h0, rfl, rfl⟩ | ⟨h0, rfl, hd, hk, hz⟩)
  · have H0 := Lib.hid h0
    clear h0
    go_wp2
    go_ret
    have e1 : syncD s = (7, s) := by unfold syncD; rw [if_pos H0.out]
    rw [e1]
    exact ⟨rfl, Did.refl H.out⟩
  · have H0 := Lib.hid h0
    have c1 := hd.c1
    have c2 := hd.c2
    have cf := hd.free 2
    have HD := Lib.hid hd
    have HK := Lib.hid hk
    have HZ := Lib.hid hz
    clear h0 hd hk hz
    go_wp2
    go_ret
    have e1 : syncD s = (0, { s.count with last := s.bs.length }) := by unfold syncD; rw [if_neg H0.out]
    rw [e1]
    exact ⟨rfl, _, HD.out.set2 _, Oth.set _ _ _ HK.out, fun _ hk => .inl hk⟩

end Go.Proofs.YtalmjmhbpmhokaaGreat
end

/- The document's disk: Swap, Append. -/
section
namespace Go.Proofs.YtalmjmhbpmhokaaGreat
open Go.RowKit

/-- What a new row of bytes, written into the disk's field, makes of it. -/
theorem DAt.put {ty : TypeId} {base : Nat} {w w1 : World} {D : Nat} {s : DS} {v v' : Value} (h : DAt ty base w D s v) (hb : Below w.heap.size w w1) (l : List UInt8) (ho : w1.ownsRow w.heap.size 5 1 v' l.length (bcells l)) :
    DAt ty base (w1.setCell ⟨D, 1, none⟩ v') D { s with bs := l } v' ∧ Kp (Oth w D v) w (w1.setCell ⟨D, 1, none⟩ v') ∧ ∀ k, v'.ownBlock = some k → w.heap.size ≤ k :=
  ⟨(h.below hb).set1 l (own_lower ho h.size), Oth.set _ _ _ (Kp.of_below hb fun _ hk => hk.1), fun k hk => (ho.lt k hk).1⟩

set_option maxRecDepth 100000 in
set_option maxHeartbeats 1000000 in
theorem rswap_of {base : Nat} {w : World} {D : Nat} {s : DS} {v : Value} (h : DAt RT base w D s v) (ho : s.Ok) {A : Option Addr} {c : Nat} {b : List UInt8} (hA : ∀ w1, DAt RT base w1 D s.count v → Kp (Oth w D v) w w1 → By w1 w1.heap.size A b) (hm : b.length ≤ 1048576) :
    Calls Tryz.prog 78 #[ptr D, .slice A b.length c] w (Ans RT base w D v (swapD s b)) := by
  have HC := Lib.hid (fails_any h ho)
  have H := Lib.hid h
  have HA := Lib.hid hA
  have b2 := Lib.hid ho.r1
  have HM := Lib.hid hm
  clear h hA ho hm
  go_enter Tryz.func78, Tryz.ntmps78
  go_wp2_with fail
  refine HC.out.mono ?_
  rintro e w1 (⟨h0, rfl, rfl⟩ | ⟨h0, rfl, hd, hk, hz⟩)
  · have H0 := Lib.hid h0
    clear h0
    go_wp2
    go_ret
    have e1 : swapD s b = (7, s) := by unfold swapD; rw [if_pos H0.out]
    rw [e1]
    exact ⟨rfl, Did.refl H.out⟩
  · have H0 := Lib.hid h0
    have c0 : w1.cell? ⟨D, 0, none⟩ = some (.int .i64 (s.room : Int)) := hd.c0
    have HD := Lib.hid hd
    have HK := Lib.hid hk
    clear h0 hd hk hz
    by_cases hbig : s.room < b.length
    · have d : decide ((s.room : Int) < (b.length : Int)) = true := decide_eq_true (by omega)
      have HBig := Lib.hid hbig
      clear hbig
      go_wp2
      go_ret
      have e1 : swapD s b = (3, s.count) := by unfold swapD; rw [if_neg H0.out, if_pos HBig.out]
      rw [e1]
      exact ⟨rfl, _, HD.out, HK.out, fun _ hk => .inl hk⟩
    · have d : decide ((s.room : Int) < (b.length : Int)) = false := decide_eq_false (by omega)
      have HBig := Lib.hid hbig
      clear hbig
      have hB1 : Below w1.heap.size w1 (w1.alloc (.cells #[] 5)) := (Below.refl _ _).alloc (Nat.le_refl _) _
      have hown : (w1.alloc (.cells #[] 5)).ownsRow w1.heap.size 5 1 (.slice (some ⟨w1.heap.size, 0, none⟩) 0 0) 0 (bcells []) := World.ownsRow_made w1 #[] 0 (Nat.le_refl _) (Nat.zero_le _) rfl
      have hby := (HA.out w1 HD.out HK.out).below hB1
      have HB1 := Lib.hid hB1
      have HOwn := Lib.hid hown
      have HBy := Lib.hid hby
      clear hB1 hown hby
      go_wp2_with (at_builtin; refine wpList_appB rfl (.tmp 15) (.tmp 16) rfl w1.heap.size _ _ _ rfl HOwn.out _ _ b _ rfl HBy.out (by have := HM.out; omega) HB1.out.size ?_; intro v2 w2 hown2 hg2 _; obtain ⟨A2, c2, rfl, _⟩ := own_form hown2; have hB2 := own_below HB1.out HB1.out.size HOwn.out hg2; have k1 := (HD.out.below hB2).c1; have kf := (HD.out.below hB2).free 1; have k2 := (HD.out.below hB2).c2; have kf2 := (HD.out.below hB2).free 2)
      have HOwn2 := Lib.hid hown2
      have HB2 := Lib.hid hB2
      clear hown2 hg2 hB2 k1 kf k2 kf2
      go_ret
      have e1 : swapD s b = (0, { s.count with bs := b, last := b.length }) := by unfold swapD; rw [if_neg H0.out, if_neg HBig.out]
      rw [e1]
      have ho2 := HOwn2.out
      rw [Nat.zero_add] at ho2
      obtain ⟨p1, p2, p3⟩ := HD.out.put HB2.out b ho2
      exact ⟨rfl, Did.after HK.out ⟨_, p1.set2 _, Oth.set _ _ _ p2, fun k hk => .inr (p3 k hk)⟩⟩

theorem rswap_any {base : Nat} {w : World} {D : Nat} {s : DS} {v : Value} (h : DAt RT base w D s v) (ho : s.Ok) {A : Option Addr} {c : Nat} {b : List UInt8} (hA : ByO w D v A b) (hm : b.length ≤ 1048576) :
    Calls Tryz.prog 78 #[ptr D, .slice A b.length c] w (Ans RT base w D v (swapD s b)) :=
  rswap_of h ho (fun _ _ hk => (hA.kp hk).by_) hm

set_option maxRecDepth 100000 in
set_option maxHeartbeats 1000000 in
theorem rappend_any {base : Nat} {w : World} {D : Nat} {s : DS} {v : Value} (h : DAt RT base w D s v) (ho : s.Ok) {A : Option Addr} {c : Nat} {b : List UInt8} (hA : ByO w D v A b) (hm : b.length ≤ 1048576) :
    Calls Tryz.prog 19 #[ptr D, .slice A b.length c] w (Ans RT base w D v (appD s b)) := by
  have HC := Lib.hid (fails_any h ho)
  obtain ⟨A0, q0, rfl, _, _⟩ := h.form
  have H := Lib.hid h
  have HA := Lib.hid hA
  have b1 := Lib.hid ho.len
  have b2 := Lib.hid ho.r1
  have HM := Lib.hid hm
  clear h hA ho hm
  go_enter Tryz.func19, Tryz.ntmps19
  go_wp2_with fail
  refine HC.out.mono ?_
  rintro e w1 (⟨h0, rfl, rfl⟩ | ⟨h0, rfl, hd, hk, hz⟩)
  · have H0 := Lib.hid h0
    clear h0
    go_wp2
    go_ret
    have e1 : appD s b = (7, s) := by unfold appD; rw [if_pos H0.out]
    rw [e1]
    exact ⟨rfl, Did.refl H.out⟩
  · have H0 := Lib.hid h0
    have c0 : w1.cell? ⟨D, 0, none⟩ = some (.int .i64 (s.room : Int)) := hd.c0
    have c1 : w1.cell? ⟨D, 1, none⟩ = some (.slice A0 s.bs.length q0) := hd.c1
    have HD := Lib.hid hd
    have HK := Lib.hid hk
    clear h0 hd hk hz
    have hw : IntKind.i64.wrap ((s.bs.length : Int) + (b.length : Int)) = (s.bs.length : Int) + (b.length : Int) := IntWalk.i64_in _ (by have := b1.out; have := b2.out; have := HM.out; omega)
    by_cases hbig : s.room < s.bs.length + b.length
    · have d : decide ((s.room : Int) < (s.bs.length : Int) + (b.length : Int)) = true := decide_eq_true (by omega)
      have HBig := Lib.hid hbig
      clear hbig
      go_wp2_with fail
      go_region
      go_wp2
      go_ret
      have e1 : appD s b = (3, s.count) := by unfold appD; rw [if_neg H0.out, if_pos HBig.out]
      rw [e1]
      exact ⟨rfl, _, HD.out.drew, HK.out.drew, fun _ hk => .inl hk⟩
    · have d : decide ((s.room : Int) < (s.bs.length : Int) + (b.length : Int)) = false := decide_eq_false (by omega)
      have HBig := Lib.hid hbig
      clear hbig
      go_wp2_with fail
      go_region
      have hd := HD.out.drew
      have hk := HK.out.drew
      clear c0 c1 HD HK
      generalize w1.drew = W1 at hd hk ⊢
      have c1 : W1.cell? ⟨D, 1, none⟩ = some (.slice A0 s.bs.length q0) := hd.c1
      have ca : (W1.alloc (.cells #[] 5)).cell? ⟨D, 1, none⟩ = some (.slice A0 s.bs.length q0) := (hd.alloc _).c1
      have hB1 : Below W1.heap.size W1 (W1.alloc (.cells #[] 5)) := (Below.refl _ _).alloc (Nat.le_refl _) _
      have hown : (W1.alloc (.cells #[] 5)).ownsRow W1.heap.size 5 1 (.slice (some ⟨W1.heap.size, 0, none⟩) 0 0) 0 (bcells []) := World.ownsRow_made W1 #[] 0 (Nat.le_refl _) (Nat.zero_le _) rfl
      have hby := ((HA.out.kp hk).by_)
      have hby0 : By W1 W1.heap.size A0 s.bs := by
        obtain ⟨A', c', e, _, hb⟩ := hd.form
        injection e with e1
        subst e1
        exact hb
      have HD := Lib.hid hd
      have HK := Lib.hid hk
      have HB1 := Lib.hid hB1
      have HOwn := Lib.hid hown
      have HBy := Lib.hid hby
      have HBy0 := Lib.hid hby0
      clear hd hk hB1 hown hby hby0
      go_wp2_with (at_builtin; first
        | (refine wpList_appB rfl (.tmp 21) (.tmp 25) rfl W1.heap.size _ _ _ rfl HOwn.out _ _ s.bs _ rfl (HBy0.out.below HB1.out) (by have := b1.out; have := b2.out; omega) HB1.out.size ?_; intro v2 w2 hown2 hg2 _; rw [Nat.zero_add] at hown2; obtain ⟨A2, c2, rfl, _⟩ := own_form hown2; have hB2 := own_below HB1.out HB1.out.size HOwn.out hg2)
        | (refine wpList_appB rfl (.tmp 26) (.tmp 27) rfl W1.heap.size _ _ _ rfl hown2 _ _ b _ rfl (HBy.out.below hB2) (by have := b1.out; have := b2.out; have := HM.out; omega) hB2.size ?_; intro v3 w3 hown3 hg3 _; obtain ⟨A3, c3, rfl, _⟩ := own_form hown3; have hB3 := own_below hB2 hB2.size hown2 hg3; have k1 := (HD.out.below hB3).c1; have kf := (HD.out.below hB3).free 1))
      have HOwn3 := Lib.hid hown3
      have HB3 := Lib.hid hB3
      clear hown2 hg2 hB2 hown3 hg3 hB3 k1 kf c1 ca
      go_ret
      have e1 : appD s b = (0, { s.count with bs := s.bs ++ b }) := by unfold appD; rw [if_neg H0.out, if_neg HBig.out]
      rw [e1]
      have ho3 := HOwn3.out
      rw [← bcells_append, ← bcells_append, List.nil_append] at ho3
      obtain ⟨p1, p2, p3⟩ := HD.out.put HB3.out (s.bs ++ b) (by rw [List.length_append]; exact ho3)
      exact ⟨rfl, Did.after HK.out ⟨_, p1, p2, fun k hk => .inr (p3 k hk)⟩⟩

end Go.Proofs.YtalmjmhbpmhokaaGreat
end

/- The document's disk: Crash. -/
section
namespace Go.Proofs.YtalmjmhbpmhokaaGreat
open Go.RowKit

set_option maxRecDepth 100000 in
set_option maxHeartbeats 1000000 in
theorem rcrash_any {base : Nat} {w : World} {D : Nat} {s : DS} {v : Value} (h : DAt RT base w D s v) (ho : s.Ok) (n : Int) :
    Calls Tryz.prog 48 #[ptr D, .int .i64 n] w fun e w' => e = .returned (.tuple #[]) ∧ Did RT base w D v w' (crashD s n) := by
  obtain ⟨A, c, rfl, hc, _⟩ := h.form
  have h1 := h.c1
  have h2 := h.c2
  have H := Lib.hid h
  clear h
  have b1 := ho.last
  have b2 := ho.len
  have b3 := ho.r1
  have HO := Lib.hid ho
  clear ho
  have HC := Lib.hid hc
  clear hc
  obtain ⟨l, hl⟩ : ∃ l, l = s.bs.length := ⟨_, rfl⟩
  rw [← hl] at h1 b1 b2
  rw [← hl] at H
  obtain ⟨m, hm⟩ : ∃ m, m = s.last := ⟨_, rfl⟩
  rw [← hm] at h2 b1
  have HL := Lib.hid hl
  have HM := Lib.hid hm
  clear hl hm
  have hl3 : l ≤ 1048576 := by omega
  have HR := Lib.hid b2
  have HR1 := Lib.hid b3
  clear b2 b3
  have w1 : IntKind.i64.wrap ((l : Int) - (m : Int)) = (l : Int) - (m : Int) := IntWalk.i64_in _ (by omega)
  have hk : ∃ q : Int, (∃ k : Nat, Hid (k = s.last + kept s n) ∧ Hid (k ≤ l) ∧ IntKind.i64.wrap ((m : Int) + q) = (k : Int)) ∧ ((n < 0 ∧ ¬ ((l : Int) - (m : Int) < 0) ∧ q = 0) ∨ (¬ n < 0 ∧ (l : Int) - (m : Int) < n ∧ q = (l : Int) - (m : Int)) ∨ (¬ n < 0 ∧ ¬ ((l : Int) - (m : Int) < n) ∧ q = n)) := by
    have hL := HL.out
    have hM := HM.out
    unfold kept
    rw [← hL, ← hM]
    by_cases hn : n < 0
    · exact ⟨0, ⟨m, by rw [if_pos (by omega)]; rfl, b1, IntWalk.i64_in _ (by omega)⟩, .inl ⟨hn, by omega, rfl⟩⟩
    · by_cases h2 : (l : Int) - (m : Int) < n
      · refine ⟨(l : Int) - (m : Int), ⟨l, ?_, Nat.le_refl _, ?_⟩, .inr (.inl ⟨hn, h2, rfl⟩)⟩
        · rw [if_neg (by omega), if_neg (by omega)]
          show l = m + (l - m)
          omega
        · rw [IntWalk.i64_in _ (by omega)]; omega
      · obtain ⟨j, rfl⟩ := Int.eq_ofNat_of_zero_le (show 0 ≤ n by omega)
        refine ⟨(j : Int), ⟨m + j, ?_, by show m + j ≤ l; omega, ?_⟩, .inr (.inr ⟨hn, h2, rfl⟩)⟩
        · split
          · show m + j = m + 0
            omega
          · show m + j = m + _
            rw [if_pos (by omega)]
            omega
        · rw [IntWalk.i64_in _ (by omega)]; omega
  obtain ⟨q, ⟨k, HK, HKL, hq⟩, hcase⟩ := hk
  have hcut := fun W => run_headB A l c (k : Int) (by omega) (by have := HC.out; have := HL.out; have := HKL.out; omega) W
  rw [Int.toNat_natCast] at hcut
  have HQ := Lib.hid hq
  have HCut := Lib.hid hcut
  have B1 := Lib.hid b1
  clear b1 hq hcut
  go_enter Tryz.func48, Tryz.ntmps48
  go_upto_region 1 with fail
  go_cut [1] (fun s1 wx => s1 = .int .i64 q ∧ wx = w.drew)
  case first =>
    rcases hcase with ⟨t1, t2, rfl⟩ | ⟨t1, t2, rfl⟩ | ⟨t1, t2, rfl⟩
    all_goals
      go_wp2_with fail
      go_region
      go_wp2_with fail
      go_meet
      exact ⟨rfl, rfl⟩
  case rest =>
    obtain ⟨rfl, rfl⟩ := hcut
    have hd := H.out.drew
    have hk : Kp (Oth w D (.slice A l c)) w w.drew := (Kp.refl _ _).drew
    clear h1 h2 w1 hcase
    generalize w.drew = W1 at hd hk ⊢
    have c1 : W1.cell? ⟨D, 1, none⟩ = some (.slice A l c) := hd.c1
    have c2 : W1.cell? ⟨D, 2, none⟩ = some (.int .i64 (m : Int)) := by rw [HM.out]; exact hd.c2
    have hE := hd.alloc (.cells #[] 5)
    have ca1 : (W1.alloc (.cells #[] 5)).cell? ⟨D, 1, none⟩ = some (.slice A l c) := hE.c1
    have ca2 : (W1.alloc (.cells #[] 5)).cell? ⟨D, 2, none⟩ = some (.int .i64 (m : Int)) := by rw [HM.out]; exact hE.c2
    have hB1 : Below W1.heap.size W1 (W1.alloc (.cells #[] 5)).drew := ((Below.refl _ _).alloc (Nat.le_refl _) _).drew
    have hown : (W1.alloc (.cells #[] 5)).drew.ownsRow W1.heap.size 5 1 (.slice (some ⟨W1.heap.size, 0, none⟩) 0 0) 0 (bcells []) := World.ownsRow_made W1 #[] 0 (Nat.le_refl _) (Nat.zero_le _) rfl
    have hlen : (s.bs.take k).length = k := by rw [List.length_take]; have := HL.out; have := HKL.out; omega
    have hby : By W1 W1.heap.size A (s.bs.take k) := by
      obtain ⟨A', c', e, _, hb⟩ := hd.form
      injection e with e1
      subst e1
      exact hb.take k
    have HD := Lib.hid hd
    have HK1 := Lib.hid hk
    have HB1 := Lib.hid hB1
    have HOwn := Lib.hid hown
    have HBy := Lib.hid hby
    have HLen := Lib.hid hlen
    have hq := HQ.out
    have hcut := HCut.out
    clear hd hk hB1 hown hby hlen hE
    have HK2 : Hid (∀ w1, (W1.alloc (.cells #[] 5)).drew.grownBy w1 (Value.slice (some ⟨W1.heap.size, 0, none⟩) 0 0).ownBlock → Below W1.heap.size W1 w1 ∧ w1.cell? ⟨D, 1, none⟩ = some (.slice A l c) ∧ w1.frozen? ⟨D, 1, none⟩ = false) := Lib.hid fun w1 hg1 => by
      have hb := own_below HB1.out HB1.out.size HOwn.out hg1
      exact ⟨hb, (HD.out.below hb).c1, (HD.out.below hb).free 1⟩
    go_wp2_with fail
    go_region_law (first | (refine step_appO rfl (.tmp 18) (.tmp 29) rfl W1.heap.size _ _ _ rfl HOwn.out _ _ (s.bs.take k) k c HLen.out.symm rfl (HBy.out.below HB1.out) k (Nat.zero_add _) (by have := HKL.out; omega) HB1.out.size ?_; intro A1 q1 w1 hown1 hg1 _; obtain ⟨d1, d2, d3⟩ := HK2.out w1 hg1))
    all_goals
      have hp := HD.out.put d1 (s.bs.take k) (v' := .slice A1 k q1) (by rw [HLen.out]; exact hown1)
      clear hown1 hg1 d1 d2 d3 c1 c2 ca1 ca2
      generalize w1.setCell ⟨D, 1, none⟩ (.slice A1 k q1) = W3 at hp ⊢
      have k1 := hp.1.c1
      have k2 := hp.1.c2
      have k3 := hp.1.c3
      have f2 := hp.1.free 2
      have f3 := hp.1.free 3
      have HP := Lib.hid hp
      clear hp hq hcut
      go_wp2
      go_end0
      have hs : crashD s n = { { { s with bs := s.bs.take k } with last := k } with left := -1 } := by
        unfold crashD
        rw [← HK.out]
      have hl := HL.out
      subst hl
      rw [hs]
      obtain ⟨p1, p2, p3⟩ := HP.out
      exact ⟨rfl, Did.after HK1.out ⟨_, (p1.set2 k).set3 (-1), Oth.set _ _ _ (Oth.set _ _ _ p2), fun j hj => .inr (p3 j hj)⟩⟩

end Go.Proofs.YtalmjmhbpmhokaaGreat
end
