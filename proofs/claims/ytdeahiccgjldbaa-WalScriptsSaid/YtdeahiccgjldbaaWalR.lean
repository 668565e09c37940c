/- The document's log: Records, Append, Compact, Open. -/
import Derived.Test.YtdeahiccgjldbaaWalC
namespace Go.Proofs.Ytdeahiccgjldbaa
open Go.RowKit Go.Shelf

set_option maxRecDepth 100000 in
set_option maxHeartbeats 1000000 in
theorem rrecords_any {base : Nat} {w : World} {D L : Nat} {s : DS} {v : Value} (h : DAt RT base w D s v) (ho : s.Ok) (hl : LAt MT w L D) :
    Calls Try.prog 18 #[ptr L] w (GivesL w (scanL s.bs)) := by
  obtain ⟨A, c, rfl, hc, hby⟩ := h.form
  have hb : s.bs.length ≤ 1048576 := by have := ho.len; have := ho.r1; omega
  have HS := Lib.hid (rscan_own A c s.bs hb hc w hby)
  have c0 := hl.cell
  have c1 := h.c1
  clear h ho hl hb hby hc
  go_enter Try.func18, Try.ntmps18
  go_wp2_with fail
  refine HS.out.mono ?_
  rintro e w2 ⟨A2, c2, K, rfl, hK, hrow⟩
  have HK := Lib.hid hK
  have HR2 := Lib.hid hrow
  clear hK hrow
  go_wp2
  go_ret
  exact ⟨A2, c2, K, rfl, HK.out, HR2.out⟩

set_option maxRecDepth 100000 in
set_option maxHeartbeats 1000000 in
theorem rlappend_any {base : Nat} {w : World} {D L : Nat} {s : DS} {v : Value} (h : DAt RT base w D s v) (ho : s.Ok) (hl : LAt MT w L D) {A : Option Addr} {c : Nat} {b : List UInt8} (hA : By w w.heap.size A b) :
    Calls Try.prog 29 #[ptr L, .slice A b.length c] w (Ans RT base w D v (appW s b)) := by
  have HP := Lib.hid (rput_own A c b w hA)
  have H := Lib.hid h
  have HO := Lib.hid ho
  have HL := Lib.hid hl
  clear h ho hl hA
  by_cases hg : GoodF b
  · rw [putR_ok hg] at HP
    have e1 : appW s b = appD s (fr b) := by unfold appW; rw [if_pos hg]
    rw [e1]
    clear e1
    have HG := Lib.hid hg
    clear hg
    go_enter Try.func29, Try.ntmps29
    go_wp2_with fail
    refine HP.out.mono ?_
    rintro e w1 ⟨A1, c1, rfl, hrow⟩
    have hd1 := H.out.below hrow.low
    have c0 := (HL.out.below hrow.low).cell
    have HK : Hid (Kp (Oth w D v) w w1) := Lib.hid (Kp.of_below hrow.low fun _ hk => hk.1)
    have HA := Lib.hid (rappend_any (c := c1) hd1 HO.out (ByO.of_row H.out hrow) (by rw [fr_length]; have := HG.out.2; omega))
    clear hrow hd1
    go_wp2_with fail
    refine HA.out.mono ?_
    rintro e w2 ⟨rfl, hd⟩
    go_wp2
    go_ret
    exact ⟨rfl, Did.after HK.out hd⟩
  · rw [putR_no hg] at HP
    have e1 : appW s b = (1, s) := by unfold appW; rw [if_neg hg]
    rw [e1]
    clear e1 hg
    go_enter Try.func29, Try.ntmps29
    go_wp2_with fail
    refine HP.out.mono ?_
    rintro e w1 ⟨A1, c1, rfl, hrow⟩
    have HK : Hid (Kp (Oth w D v) w w1) := Lib.hid (Kp.of_below hrow.low fun _ hk => hk.1)
    have HD := Lib.hid (H.out.below hrow.low)
    clear hrow
    go_wp2
    go_ret
    exact ⟨rfl, Did.after HK.out (Did.refl HD.out)⟩

set_option maxRecDepth 100000 in
set_option maxHeartbeats 2000000 in
theorem rcompact_any {base : Nat} {w : World} {D L : Nat} {s : DS} {v : Value} (h : DAt RT base w D s v) (ho : s.Ok) (hl : LAt MT w L D) {A : Option Addr} {c : Nat} {K : List SlV} (hA : Ls w w.heap.size A K) (hn : K.length ≤ 1000) :
    Calls Try.prog 31 #[ptr L, .slice A K.length c] w (Ans RT base w D v (compW s (datas K))) := by
  have H := Lib.hid h
  have HO := Lib.hid ho
  have HL := Lib.hid hl
  have HA := Lib.hid hA
  clear h ho hl hA
  go_enter Try.func31, Try.ntmps31
  go_wp2
  go_loopw [5, 6] (fun u i wr => ∃ k : Nat, k ≤ K.length ∧ i = .int .i64 k ∧ Row w wr u (frs ((datas K).take k)) ∧ Hid (∀ x ∈ (datas K).take k, GoodF x)) (fun _ i _ => K.length - (intOf i).toNat)
  case atStart => exact ⟨0, Nat.zero_le _, rfl, row_none w, fun x hx => by simp at hx⟩
  case round =>
    obtain ⟨k, hk, rfl, hrow, hall⟩ := hrel
    have HR := Lib.hid hrow
    obtain ⟨A0, c0, rfl, hc0, hby0⟩ := hrow.form
    clear hrow hby0 hc0
    by_cases hlt : k < K.length
    · obtain ⟨x, hx⟩ : ∃ x, K[k]? = some x := ⟨_, List.getElem?_eq_getElem hlt⟩
      have hls := HA.out.below HR.out.low
      obtain ⟨b, o, rfl, _, hc1⟩ := hls.at_ k x hx
      have hbx := (hls.data x (List.mem_of_getElem? hx)).more HR.out.low.size
      have HX := Lib.hid (datas_at hx)
      have HP := Lib.hid (rput_own x.ad x.cap x.data wr hbx)
      have Hlt := Lib.hid hlt
      clear hls hbx hx
      by_cases hg : GoodF x.data
      · rw [putR_ok hg] at HP
        have HG := Lib.hid hg
        clear hg
        go_wp2_with fail
        refine HP.out.mono ?_
        rintro e w1 ⟨A1, c1, rfl, hrow1⟩
        have HR1 := Lib.hid (HR.out.later hrow1.low)
        obtain ⟨A1', c1', e', _, hby1⟩ := hrow1.form
        injection e' with e1 _ e3
        subst e1 e3
        have HB1 := Lib.hid hby1
        clear hrow1 hby1
        have hsz : (frs ((datas K).take k)).length + (fr x.data).length ≤ 140737488355328 := by
          have h1 := frs_le (n := 1000) hall (by rw [List.length_take, datas_length]; omega)
          have h2 := HG.out.2
          rw [fr_length]
          omega
        go_wp2_with (at_builtin; refine wpList_row rfl (.tmp 25) (.tmp 26) rfl rfl HR1.out (fr x.data) rfl rfl HB1.out hsz ?_; intro v3 w3 hr3 hg3; have hr3 := Lib.hid hr3; clear hg3)
        go_roundw
        case rel =>
          refine ⟨k + 1, Hlt.out, by go_num, ?_, good_snoc hall.out HX.out HG.out⟩
          rw [frs_take_snoc HX.out]
          exact hr3.out
        case measure => have := Hlt.out; simp [intOf]; omega
      · rw [putR_no hg] at HP
        have HE := Lib.hid (compW_bad (s := s) HX.out hg)
        clear hg
        go_wp2_with fail
        refine HP.out.mono ?_
        rintro e w1 ⟨A1, c1, rfl, hrow1⟩
        have hB := HR.out.low.trans (hrow1.low.mono HR.out.low.size)
        have HD := Lib.hid (H.out.below hB)
        have HK : Hid (Kp (Oth w D v) w w1) := Lib.hid (Kp.of_below hB fun _ hk => hk.1)
        clear hrow1 hB
        go_wp2
        go_ret
        rw [HE.out]
        exact ⟨rfl, Did.after HK.out (Did.refl HD.out)⟩
    · obtain rfl : k = K.length := by omega
      have hfull : (datas K).take K.length = datas K := List.take_of_length_le (by rw [datas_length]; omega)
      rw [hfull] at hall HR ⊢
      have HE := Lib.hid (compW_good (s := s) hall.out)
      have c0' := (HL.out.below HR.out.low).cell
      have HK : Hid (Kp (Oth w D v) w wr) := Lib.hid (Kp.of_below HR.out.low fun _ hk => hk.1)
      have HS := Lib.hid (rswap_any (c := c0) (H.out.below HR.out.low) HO.out (ByO.of_row H.out HR.out) (by have := frs_le (n := 1000) hall.out (by rw [datas_length]; exact hn); omega))
      clear hfull
      go_wp2_with fail
      refine HS.out.mono ?_
      rintro e w2 ⟨rfl, hd⟩
      go_wp2
      go_ret
      rw [HE.out]
      exact ⟨rfl, Did.after HK.out hd⟩

set_option maxRecDepth 100000 in
set_option maxHeartbeats 2000000 in
theorem ropen_any {base : Nat} {w : World} {D : Nat} {s : DS} {v : Value} (h : DAt RT base w D s v) (ho : s.Ok) :
    Calls Try.prog 13 #[ptr D] w (Opens RT MT base w D v (openW s)) := by
  obtain ⟨A, c, rfl, hc, hby⟩ := h.form
  have hb : s.bs.length ≤ 1048576 := by have := ho.len; have := ho.r1; omega
  have hto := scan_tot s.bs
  have HS := Lib.hid (rscan_any A c s.bs hb hc w hby)
  have c1 := h.c1
  have HB := Lib.hid hb
  have H := Lib.hid h
  have HO := Lib.hid ho
  obtain ⟨n, hn⟩ : ∃ n, n = s.bs.length := ⟨_, rfl⟩
  obtain ⟨m, hm⟩ : ∃ m, m = tot (scanL s.bs) := ⟨_, rfl⟩
  rw [← hm, ← hn] at hto HS
  rw [← hn] at c1 hc H
  have HN := Lib.hid hn
  have HM := Lib.hid hm
  have HC := Lib.hid hc
  clear h ho hb hn hm hby hc
  go_enter Try.func13, Try.ntmps13
  go_wp2_with fail
  refine HS.out.mono ?_
  rintro e w2 ⟨A2, c2, K, rfl, _, _, _, hB2⟩
  have HD2 := Lib.hid (H.out.below hB2)
  have HK2 : Hid (Kp (Oth w D (.slice A n c)) w w2) := Lib.hid (Kp.of_below hB2 fun _ hk => hk.1)
  have d1 : w2.cell? ⟨D, 1, none⟩ = some (.slice A n c) := HD2.out.c1
  clear hB2 c1
  by_cases hlt : m < n
  · have hcut := fun W => run_headB A n c (m : Int) (by omega) (by have := HC.out; omega) W
    rw [Int.toNat_natCast] at hcut
    have hlen : (s.bs.take m).length = m := by rw [List.length_take]; have := HN.out; omega
    have HSw := rswap_of (b := s.bs.take m) (A := A) (c := c) HD2.out HO.out (fun w1 k1 _ => by
      obtain ⟨A', c', e', _, hb'⟩ := k1.form
      injection e' with e1
      subst e1
      exact hb'.take m) (by rw [hlen]; have := HN.out; have := HB.out; omega)
    rw [hlen] at HSw
    have HSw := Lib.hid HSw
    have e0 : openW s = swapD s (s.bs.take m) := by
      unfold openW
      rw [if_neg (by rw [← HM.out, ← HN.out]; omega), HM.out]
    have HE := Lib.hid e0
    have HLen := Lib.hid hlen
    have d0 : ((m : Int) != (n : Int)) = true := by simp; omega
    clear hlen hto e0
    obtain ⟨q, hq⟩ : ∃ q, q = (swapD s (s.bs.take m)).1 := ⟨_, rfl⟩
    go_wp2_with fail
    refine HSw.out.mono ?_
    rintro e w3 ⟨rfl, hd⟩
    have HD3 := Lib.hid (Did.after HK2.out hd)
    rw [← hq]
    clear hd
    by_cases h0 : q = 0
    · subst h0
      have HQ := Lib.hid hq.symm
      clear hq
      go_wp2
      go_ret2
      rw [HE.out, ← HN.out]
      obtain ⟨v', k1, k2, k3⟩ := HD3.out
      exact ⟨⟨v', k1.alloc _, Oth.alloc k2 _, k3⟩, .inl ⟨HQ.out, _, rfl, LAt.new _ _ _⟩⟩
    · have HQ := Lib.hid hq
      have d1 : (q == 0) = false := by simpa using h0
      have H0 := Lib.hid h0
      clear hq
      go_wp2
      go_ret2
      rw [HE.out, ← HN.out]
      exact ⟨HD3.out, .inr ⟨by rw [← HQ.out]; exact H0.out, by rw [← HQ.out]; rfl⟩⟩
  · obtain rfl : m = n := by omega
    have e0 : openW s = (0, s) := by
      unfold openW
      rw [if_pos (by rw [← HM.out, ← HN.out])]
    have HE := Lib.hid e0
    have d0 : ((m : Int) != (m : Int)) = false := by simp
    clear e0 hto
    go_wp2
    go_ret2
    rw [HE.out, ← HN.out]
    exact ⟨⟨_, HD2.out.alloc _, Oth.alloc HK2.out _, fun k hk => .inl hk⟩, .inl ⟨rfl, _, rfl, LAt.new _ _ _⟩⟩

end Go.Proofs.Ytdeahiccgjldbaa
