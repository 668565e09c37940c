/- The document's disk: Swap, Append. -/
import Derived.Test.YtdeahiccgjldbaaDskR
namespace Go.Proofs.Ytdeahiccgjldbaa
open Go.RowKit

/-- What a new row of bytes, written into the disk's field, makes of it. -/
theorem DAt.put {ty : TypeId} {base : Nat} {w w1 : World} {D : Nat} {s : DS} {v v' : Value} (h : DAt ty base w D s v) (hb : Below w.heap.size w w1) (l : List UInt8) (ho : w1.ownsRow w.heap.size 5 1 v' l.length (bcells l)) :
    DAt ty base (w1.setCell ⟨D, 1, none⟩ v') D { s with bs := l } v' ∧ Kp (Oth w D v) w (w1.setCell ⟨D, 1, none⟩ v') ∧ ∀ k, v'.ownBlock = some k → w.heap.size ≤ k :=
  ⟨(h.below hb).set1 l (own_lower ho h.size), Oth.set _ _ _ (Kp.of_below hb fun _ hk => hk.1), fun k hk => (ho.lt k hk).1⟩

set_option maxRecDepth 100000 in
set_option maxHeartbeats 1000000 in
theorem rswap_of {base : Nat} {w : World} {D : Nat} {s : DS} {v : Value} (h : DAt RT base w D s v) (ho : s.Ok) {A : Option Addr} {c : Nat} {b : List UInt8} (hA : ∀ w1, DAt RT base w1 D s.count v → Kp (Oth w D v) w w1 → By w1 w1.heap.size A b) (hm : b.length ≤ 1048576) :
    Calls Try.prog 28 #[ptr D, .slice A b.length c] w (Ans RT base w D v (swapD s b)) := by
  have HC := Lib.hid (fails_any h ho)
  have H := Lib.hid h
  have HA := Lib.hid hA
  have b2 := Lib.hid ho.r1
  have HM := Lib.hid hm
  clear h hA ho hm
  go_enter Try.func28, Try.ntmps28
  go_wp2_with fail
  refine HC.out.mono ?_
  rintro e w1 (⟨h0, rfl, rfl⟩ | ⟨h0, rfl, hd, hk, hz⟩)
  · have H0 := Lib.hid h0
    clear h0
    go_wp2
    go_ret
    have e1 : swapD s b = (7, s) := by unfold swapD; rw [if_pos H0.out]
    rw [e1]
    exact ⟨rfl, Did.refl H.out⟩
  · have H0 := Lib.hid h0
    have c0 : w1.cell? ⟨D, 0, none⟩ = some (.int .i64 (s.room : Int)) := hd.c0
    have HD := Lib.hid hd
    have HK := Lib.hid hk
    clear h0 hd hk hz
    by_cases hbig : s.room < b.length
    · have d : decide ((s.room : Int) < (b.length : Int)) = true := decide_eq_true (by omega)
      have HBig := Lib.hid hbig
      clear hbig
      go_wp2
      go_ret
      have e1 : swapD s b = (3, s.count) := by unfold swapD; rw [if_neg H0.out, if_pos HBig.out]
      rw [e1]
      exact ⟨rfl, _, HD.out, HK.out, fun _ hk => .inl hk⟩
    · have d : decide ((s.room : Int) < (b.length : Int)) = false := decide_eq_false (by omega)
      have HBig := Lib.hid hbig
      clear hbig
      have hB1 : Below w1.heap.size w1 (w1.alloc (.cells #[] 5)) := (Below.refl _ _).alloc (Nat.le_refl _) _
      have hown : (w1.alloc (.cells #[] 5)).ownsRow w1.heap.size 5 1 (.slice (some ⟨w1.heap.size, 0, none⟩) 0 0) 0 (bcells []) := World.ownsRow_made w1 #[] 0 (Nat.le_refl _) (Nat.zero_le _) rfl
      have hby := (HA.out w1 HD.out HK.out).below hB1
      have HB1 := Lib.hid hB1
      have HOwn := Lib.hid hown
      have HBy := Lib.hid hby
      clear hB1 hown hby
      go_wp2_with (at_builtin; refine wpList_appB rfl (.tmp 15) (.tmp 16) rfl w1.heap.size _ _ _ rfl HOwn.out _ _ b _ rfl HBy.out (by have := HM.out; omega) HB1.out.size ?_; intro v2 w2 hown2 hg2 _; obtain ⟨A2, c2, rfl, _⟩ := own_form hown2; have hB2 := own_below HB1.out HB1.out.size HOwn.out hg2; have k1 := (HD.out.below hB2).c1; have kf := (HD.out.below hB2).free 1; have k2 := (HD.out.below hB2).c2; have kf2 := (HD.out.below hB2).free 2)
      have HOwn2 := Lib.hid hown2
      have HB2 := Lib.hid hB2
      clear hown2 hg2 hB2 k1 kf k2 kf2
      go_ret
      have e1 : swapD s b = (0, { s.count with bs := b, last := b.length }) := by unfold swapD; rw [if_neg H0.out, if_neg HBig.out]
      rw [e1]
      have ho2 := HOwn2.out
      rw [Nat.zero_add] at ho2
      obtain ⟨p1, p2, p3⟩ := HD.out.put HB2.out b ho2
      exact ⟨rfl, Did.after HK.out ⟨_, p1.set2 _, Oth.set _ _ _ p2, fun k hk => .inr (p3 k hk)⟩⟩

theorem rswap_any {base : Nat} {w : World} {D : Nat} {s : DS} {v : Value} (h : DAt RT base w D s v) (ho : s.Ok) {A : Option Addr} {c : Nat} {b : List UInt8} (hA : ByO w D v A b) (hm : b.length ≤ 1048576) :
    Calls Try.prog 28 #[ptr D, .slice A b.length c] w (Ans RT base w D v (swapD s b)) :=
  rswap_of h ho (fun _ _ hk => (hA.kp hk).by_) hm

set_option maxRecDepth 100000 in
set_option maxHeartbeats 1000000 in
theorem rappend_any {base : Nat} {w : World} {D : Nat} {s : DS} {v : Value} (h : DAt RT base w D s v) (ho : s.Ok) {A : Option Addr} {c : Nat} {b : List UInt8} (hA : ByO w D v A b) (hm : b.length ≤ 1048576) :
    Calls Try.prog 45 #[ptr D, .slice A b.length c] w (Ans RT base w D v (appD s b)) := by
  have HC := Lib.hid (fails_any h ho)
  obtain ⟨A0, q0, rfl, _, _⟩ := h.form
  have H := Lib.hid h
  have HA := Lib.hid hA
  have b1 := Lib.hid ho.len
  have b2 := Lib.hid ho.r1
  have HM := Lib.hid hm
  clear h hA ho hm
  go_enter Try.func45, Try.ntmps45
  go_wp2_with fail
  refine HC.out.mono ?_
  rintro e w1 (⟨h0, rfl, rfl⟩ | ⟨h0, rfl, hd, hk, hz⟩)
  · have H0 := Lib.hid h0
    clear h0
    go_wp2
    go_ret
    have e1 : appD s b = (7, s) := by unfold appD; rw [if_pos H0.out]
    rw [e1]
    exact ⟨rfl, Did.refl H.out⟩
  · have H0 := Lib.hid h0
    have c0 : w1.cell? ⟨D, 0, none⟩ = some (.int .i64 (s.room : Int)) := hd.c0
    have c1 : w1.cell? ⟨D, 1, none⟩ = some (.slice A0 s.bs.length q0) := hd.c1
    have HD := Lib.hid hd
    have HK := Lib.hid hk
    clear h0 hd hk hz
    have hw : IntKind.i64.wrap ((s.bs.length : Int) + (b.length : Int)) = (s.bs.length : Int) + (b.length : Int) := IntWalk.i64_in _ (by have := b1.out; have := b2.out; have := HM.out; omega)
    by_cases hbig : s.room < s.bs.length + b.length
    · have d : decide ((s.room : Int) < (s.bs.length : Int) + (b.length : Int)) = true := decide_eq_true (by omega)
      have HBig := Lib.hid hbig
      clear hbig
      go_wp2_with fail
      go_region
      go_wp2
      go_ret
      have e1 : appD s b = (3, s.count) := by unfold appD; rw [if_neg H0.out, if_pos HBig.out]
      rw [e1]
      exact ⟨rfl, _, HD.out.drew, HK.out.drew, fun _ hk => .inl hk⟩
    · have d : decide ((s.room : Int) < (s.bs.length : Int) + (b.length : Int)) = false := decide_eq_false (by omega)
      have HBig := Lib.hid hbig
      clear hbig
      go_wp2_with fail
      go_region
      have hd := HD.out.drew
      have hk := HK.out.drew
      clear c0 c1 HD HK
      generalize w1.drew = W1 at hd hk ⊢
      have c1 : W1.cell? ⟨D, 1, none⟩ = some (.slice A0 s.bs.length q0) := hd.c1
      have ca : (W1.alloc (.cells #[] 5)).cell? ⟨D, 1, none⟩ = some (.slice A0 s.bs.length q0) := (hd.alloc _).c1
      have hB1 : Below W1.heap.size W1 (W1.alloc (.cells #[] 5)) := (Below.refl _ _).alloc (Nat.le_refl _) _
      have hown : (W1.alloc (.cells #[] 5)).ownsRow W1.heap.size 5 1 (.slice (some ⟨W1.heap.size, 0, none⟩) 0 0) 0 (bcells []) := World.ownsRow_made W1 #[] 0 (Nat.le_refl _) (Nat.zero_le _) rfl
      have hby := ((HA.out.kp hk).by_)
      have hby0 : By W1 W1.heap.size A0 s.bs := by
        obtain ⟨A', c', e, _, hb⟩ := hd.form
        injection e with e1
        subst e1
        exact hb
      have HD := Lib.hid hd
      have HK := Lib.hid hk
      have HB1 := Lib.hid hB1
      have HOwn := Lib.hid hown
      have HBy := Lib.hid hby
      have HBy0 := Lib.hid hby0
      clear hd hk hB1 hown hby hby0
      go_wp2_with (at_builtin; first
        | (refine wpList_appB rfl (.tmp 21) (.tmp 25) rfl W1.heap.size _ _ _ rfl HOwn.out _ _ s.bs _ rfl (HBy0.out.below HB1.out) (by have := b1.out; have := b2.out; omega) HB1.out.size ?_; intro v2 w2 hown2 hg2 _; rw [Nat.zero_add] at hown2; obtain ⟨A2, c2, rfl, _⟩ := own_form hown2; have hB2 := own_below HB1.out HB1.out.size HOwn.out hg2)
        | (refine wpList_appB rfl (.tmp 26) (.tmp 27) rfl W1.heap.size _ _ _ rfl hown2 _ _ b _ rfl (HBy.out.below hB2) (by have := b1.out; have := b2.out; have := HM.out; omega) hB2.size ?_; intro v3 w3 hown3 hg3 _; obtain ⟨A3, c3, rfl, _⟩ := own_form hown3; have hB3 := own_below hB2 hB2.size hown2 hg3; have k1 := (HD.out.below hB3).c1; have kf := (HD.out.below hB3).free 1))
      have HOwn3 := Lib.hid hown3
      have HB3 := Lib.hid hB3
      clear hown2 hg2 hB2 hown3 hg3 hB3 k1 kf c1 ca
      go_ret
      have e1 : appD s b = (0, { s.count with bs := s.bs ++ b }) := by unfold appD; rw [if_neg H0.out, if_neg HBig.out]
      rw [e1]
      have ho3 := HOwn3.out
      rw [← bcells_append, ← bcells_append, List.nil_append] at ho3
      obtain ⟨p1, p2, p3⟩ := HD.out.put HB3.out (s.bs ++ b) (by rw [List.length_append]; exact ho3)
      exact ⟨rfl, Did.after HK.out ⟨_, p1, p2, fun k hk => .inr (p3 k hk)⟩⟩

end Go.Proofs.Ytdeahiccgjldbaa
