/- The log of the code: Compact, Open. -/
import Derived.Test.YtdeahiccgjldbaaWalM
namespace Go.Proofs.Ytdeahiccgjldbaa
open Go.RowKit Go.Shelf

theorem compW_bad {s : DS} {l : List (List UInt8)} {k : Nat} {r : List UInt8} (hr : l[k]? = some r) (h : ¬ GoodF r) : compW s l = (1, s) := by
  unfold compW
  rw [if_neg fun hh => h (hh r (List.mem_of_getElem? hr))]
theorem compW_good {s : DS} {l : List (List UInt8)} (h : ∀ r ∈ l, GoodF r) : compW s l = swapD s (frs l) := if_pos h
theorem good_snoc {l : List (List UInt8)} {k : Nat} {r : List UInt8} (h : ∀ x ∈ l.take k, GoodF x) (hr : l[k]? = some r) (hg : GoodF r) : ∀ x ∈ l.take (k + 1), GoodF x := by
  intro x hx
  rw [take_snoc_of _ _ _ hr] at hx
  rcases List.mem_append.1 hx with hx | hx
  · exact h x hx
  · obtain rfl := List.mem_singleton.1 hx
    exact hg
theorem frs_le {l : List (List UInt8)} {n : Nat} (h : ∀ x ∈ l, GoodF x) (hn : l.length ≤ n) : (frs l).length ≤ n * 1003 := by
  rw [frs_length]
  exact Nat.le_trans (tot_good h) (Nat.mul_le_mul_right _ hn)

set_option maxRecDepth 100000 in
set_option maxHeartbeats 2000000 in
theorem compact_any {base : Nat} {w : World} {D L : Nat} {s : DS} {v : Value} (h : DAt DT base w D s v) (ho : s.Ok) (hl : LAt LT w L D) {A : Option Addr} {c : Nat} {K : List SlV} (hA : Ls w w.heap.size A K) (hn : K.length ≤ 1048576) :
    Calls Try.prog 24 #[ptr L, .slice A K.length c] w (Ans DT base w D v (compW s (datas K))) := by
  have H := Lib.hid h
  have HO := Lib.hid ho
  have HL := Lib.hid hl
  have HA := Lib.hid hA
  clear h ho hl hA
  go_enter Try.func24, Try.ntmps24
  go_wp2
  go_loopw [5, 12] (fun u i wr => ∃ k : Nat, k ≤ K.length ∧ i = .int .i64 k ∧ Row w wr u (frs ((datas K).take k)) ∧ Hid (∀ x ∈ (datas K).take k, GoodF x)) (fun _ i _ => K.length - (intOf i).toNat)
  case atStart => exact ⟨0, Nat.zero_le _, rfl, row_none w, fun x hx => by simp at hx⟩
  case round =>
    obtain ⟨k, hk, rfl, hrow, hall⟩ := hrel
    have HR := Lib.hid hrow
    obtain ⟨A0, c0, rfl, hc0, hby0⟩ := hrow.form
    clear hrow hby0 hc0
    by_cases hlt : k < K.length
    · obtain ⟨x, hx⟩ : ∃ x, K[k]? = some x := ⟨_, List.getElem?_eq_getElem hlt⟩
      have hls := HA.out.below HR.out.low
      obtain ⟨b, o, rfl, _, hc1⟩ := hls.at_ k x hx
      have hbx := (hls.data x (List.mem_of_getElem? hx)).more HR.out.low.size
      have HX := Lib.hid (datas_at hx)
      have HP := Lib.hid (put_own x.ad x.cap x.data wr hbx)
      have Hlt := Lib.hid hlt
      clear hls hbx hx
      by_cases hg : GoodF x.data
      · rw [putR_ok hg] at HP
        have HG := Lib.hid hg
        clear hg
        go_wp2_with fail
        refine HP.out.mono ?_
        rintro e w1 ⟨A1, c1, rfl, hrow1⟩
        have HR1 := Lib.hid (HR.out.later hrow1.low)
        obtain ⟨A1', c1', e', _, hby1⟩ := hrow1.form
        injection e' with e1 _ e3
        subst e1 e3
        have HB1 := Lib.hid hby1
        clear hrow1 hby1
        have hsz : (frs ((datas K).take k)).length + (fr x.data).length ≤ 140737488355328 := by
          have h1 := frs_le (n := 1048576) hall (by rw [List.length_take, datas_length]; omega)
          have h2 := HG.out.2
          rw [fr_length]
          omega
        go_wp2_with (at_builtin; refine wpList_row rfl (.tmp 23) (.tmp 24) rfl rfl HR1.out (fr x.data) rfl rfl HB1.out hsz ?_; intro v3 w3 hr3 hg3; have hr3 := Lib.hid hr3; clear hg3)
        go_roundw
        case rel =>
          refine ⟨k + 1, Hlt.out, by go_num, ?_, good_snoc hall.out HX.out HG.out⟩
          rw [frs_take_snoc HX.out]
          exact hr3.out
        case measure => have := Hlt.out; simp [intOf]; omega
      · rw [putR_no hg] at HP
        have HE := Lib.hid (compW_bad (s := s) HX.out hg)
        clear hg
        go_wp2_with fail
        refine HP.out.mono ?_
        rintro e w1 ⟨A1, c1, rfl, hrow1⟩
        have hB := HR.out.low.trans (hrow1.low.mono HR.out.low.size)
        have HD := Lib.hid (H.out.below hB)
        have HK : Hid (Kp (Oth w D v) w w1) := Lib.hid (Kp.of_below hB fun _ hk => hk.1)
        clear hrow1 hB
        go_wp2
        go_ret
        rw [HE.out]
        exact ⟨rfl, Did.after HK.out (Did.refl HD.out)⟩
    · obtain rfl : k = K.length := by omega
      have hfull : (datas K).take K.length = datas K := List.take_of_length_le (by rw [datas_length]; omega)
      rw [hfull] at hall HR ⊢
      have HE := Lib.hid (compW_good (s := s) hall.out)
      have c0' := (HL.out.below HR.out.low).cell
      have HK : Hid (Kp (Oth w D v) w wr) := Lib.hid (Kp.of_below HR.out.low fun _ hk => hk.1)
      have HS := Lib.hid (swap_any (c := c0) (H.out.below HR.out.low) HO.out (ByO.of_row H.out HR.out))
      clear hfull
      go_wp2_with fail
      refine HS.out.mono ?_
      rintro e w2 ⟨rfl, hd⟩
      go_wp2
      go_ret
      rw [HE.out]
      exact ⟨rfl, Did.after HK.out hd⟩

set_option maxRecDepth 100000 in
set_option maxHeartbeats 2000000 in
theorem open_any {base : Nat} {w : World} {D : Nat} {s : DS} {v : Value} (h : DAt DT base w D s v) (ho : s.Ok) :
    Calls Try.prog 12 #[ptr D] w (Opens DT LT base w D v (openW s)) := by
  have HR := Lib.hid (read_any h ho)
  have hb : s.bs.length ≤ 1048576 := by have := ho.len; have := ho.r1; omega
  have hto := scan_tot s.bs
  have HB := Lib.hid hb
  have H := Lib.hid h
  have HO := Lib.hid ho
  obtain ⟨n, hn⟩ : ∃ n, n = s.bs.length := ⟨_, rfl⟩
  obtain ⟨m, hm⟩ : ∃ m, m = tot (scanL s.bs) := ⟨_, rfl⟩
  rw [← hm, ← hn] at hto
  have HN := Lib.hid hn
  have HM := Lib.hid hm
  clear h ho hb hn hm
  go_enter Try.func12, Try.ntmps12
  go_wp2_with fail
  refine HR.out.mono ?_
  intro e w1 hg
  obtain ⟨A, c, rfl, hc, hrow⟩ := hg.row
  have hro := ByO.of_row H.out hrow
  have HRo := Lib.hid hro
  have HLow := Lib.hid hrow.low
  have HC := Lib.hid hc
  have HS := Lib.hid (scan_any A c s.bs HB.out hc w1 hro.by_)
  rw [← HN.out, ← HM.out] at HS
  clear hg hrow hro hc
  rw [← HN.out]
  go_wp2_with fail
  refine HS.out.mono ?_
  rintro e w2 ⟨A2, c2, K, rfl, _, _, _, hB2⟩
  have HB2 := Lib.hid (HLow.out.trans (hB2.mono HLow.out.size))
  have HRo2 : Hid (ByO w2 D v A s.bs) := Lib.hid (HRo.out.kp (Kp.of_below hB2 fun _ hk => hk.1))
  have HD2 := Lib.hid (H.out.below HB2.out)
  have HK2 : Hid (Kp (Oth w D v) w w2) := Lib.hid (Kp.of_below HB2.out fun _ hk => hk.1)
  clear hB2
  by_cases hlt : m < n
  · have hcut := fun W => run_headB A n c (m : Int) (by omega) (by have := HC.out; have := HN.out; omega) W
    rw [Int.toNat_natCast] at hcut
    have hlen : (s.bs.take m).length = m := by rw [List.length_take]; have := HN.out; omega
    have HSw := swap_any (c := c) HD2.out HO.out (HRo2.out.take m)
    rw [hlen] at HSw
    have HSw := Lib.hid HSw
    have e0 : openW s = swapD s (s.bs.take m) := by
      unfold openW
      rw [if_neg (by rw [← HM.out, ← HN.out]; omega), HM.out]
    have HE := Lib.hid e0
    have HLen := Lib.hid hlen
    clear hlen hto e0
    obtain ⟨q, hq⟩ : ∃ q, q = (swapD s (s.bs.take m)).1 := ⟨_, rfl⟩
    go_wp2_with fail
    refine HSw.out.mono ?_
    rintro e w3 ⟨rfl, hd⟩
    have HD3 := Lib.hid (Did.after HK2.out hd)
    rw [← hq]
    clear hd
    by_cases h0 : q = 0
    · subst h0
      have HQ := Lib.hid hq.symm
      clear hq
      go_wp2
      go_ret2
      rw [HE.out]
      obtain ⟨v', k1, k2, k3⟩ := HD3.out
      exact ⟨⟨v', k1.alloc _, Oth.alloc k2 _, k3⟩, .inl ⟨HQ.out, _, rfl, LAt.new _ _ _⟩⟩
    · have HQ := Lib.hid hq
      have d1 : (q == 0) = false := by simpa using h0
      have H0 := Lib.hid h0
      clear hq
      go_wp2
      go_ret2
      rw [HE.out]
      exact ⟨HD3.out, .inr ⟨by rw [← HQ.out]; exact H0.out, by rw [← HQ.out]; rfl⟩⟩
  · obtain rfl : m = n := by omega
    have e0 : openW s = (0, s) := by
      unfold openW
      rw [if_pos (by rw [← HM.out, ← HN.out])]
    have HE := Lib.hid e0
    clear e0 hto
    go_wp2
    go_ret2
    rw [HE.out]
    exact ⟨⟨v, HD2.out.alloc _, Oth.alloc HK2.out _, fun k hk => .inl hk⟩, .inl ⟨rfl, _, rfl, LAt.new _ _ _⟩⟩

set_option maxRecDepth 100000 in
theorem open_nil (w : World) : Calls Try.prog 12 #[.pointer none] w fun e w' => e = .returned (.tuple #[.pointer none, .int .i64 1]) ∧ w' = w := by
  go_enter Try.func12, Try.ntmps12
  go_wp2
  go_ret2
  exact ⟨rfl, rfl⟩

end Go.Proofs.Ytdeahiccgjldbaa
