/- The laws of layer 6, walked. -/
import Derived.Test.YtamdhljoamggeaaBalB
namespace Go.Proofs.Ytamdhljoamggeaa
open Go.RowKit Go.Sort
attribute [local go_sem ↓] run_eqM run_guardM

def cntF (f : Nat → Bool) (n : Nat) : Nat := ((List.range n).filter f).length
theorem cntF_succ (f : Nat → Bool) (n : Nat) : cntF f (n + 1) = cntF f n + if f n then 1 else 0 := by
  unfold cntF
  rw [List.range_succ, List.filter_append, List.length_append]
  cases h : f n <;> simp [h]
theorem cnt_mask (f : Nat → Bool) : cntL (maskL f) 256 = cntF f 256 := by
  unfold cntL cntF
  congr 1
  apply List.filter_congr
  intro k hk
  exact has_mask f k (List.mem_range.1 hk)
theorem cntF_lt (n : Int) (m : Nat) : ((cntF (ltF n) m : Nat) : Int) = min (max n 0) m := by
  induction m with
  | zero => simp [cntF]; omega
  | succ m ih =>
    rw [cntF_succ]
    unfold ltF at *
    by_cases h : (m : Int) < n
    · rw [if_pos (decide_eq_true h)]; omega
    · rw [if_neg (by simpa using h)]; omega
theorem cntF_not (f : Nat → Bool) (m : Nat) : cntF f m + cntF (fun k => !f k) m = m := by
  induction m with
  | zero => simp [cntF]
  | succ m ih =>
    rw [cntF_succ, cntF_succ]
    cases h : f m <;> simp <;> omega
theorem cntF_mono {f g : Nat → Bool} (h : ∀ k, f k = true → g k = true) (m : Nat) : cntF f m ≤ cntF g m := by
  induction m with
  | zero => simp [cntF]
  | succ m ih =>
    rw [cntF_succ, cntF_succ]
    have := h m
    cases hf : f m
    · simp; omega
    · rw [this hf]; simp; omega
theorem cnt_bound (B : List Nat) : ((cntL B 256 : Nat) : Int) ≤ 256 := by have := cnt_le B 256; omega
theorem hasI_mask (f : Nat → Bool) (k : Nat) (hk : k < 256) : hasI (maskL f) (k : Int) = f k := by
  unfold hasI
  rw [Int.toNat_natCast, has_mask f k hk, decide_eq_true (Int.natCast_nonneg k), decide_eq_true (show (k : Int) < 256 by omega)]
  rfl
theorem hasI_out (B : List Nat) (k : Int) (hk : k < 0 ∨ 256 ≤ k) : hasI B k = false := by
  unfold hasI
  rw [Bool.and_eq_false_iff, Bool.and_eq_false_iff]
  simp
  omega

set_option maxRecDepth 100000 in
theorem law_buckets (s : ByteArray) (w : World) :
    Calls Try.prog 3 #[.string s] w fun e w' => e = .returned (.bool true) ∧ Below w.heap.size w w' := by
  by_cases hbig : 2000 < s.size
  · have hd : decide ((2000 : Int) < (s.size : Int)) = true := by simp; omega
    go_enter Try.func3, Try.ntmps3
    go_wp2_with fail
    refine (awake_any _).mono ?_
    rintro e w1 ⟨rfl, hb1⟩
    go_wp2
    go_ret
    exact ⟨rfl, hb1⟩
  · have hd : decide ((2000 : Int) < (s.size : Int)) = false := by simp; omega
    have HA := Lib.hid (bucket_any s (by omega))
    have HB := Lib.hid (rbucket_any s (by omega))
    generalize bkN (listOf s) = x at *
    go_enter Try.func3, Try.ntmps3
    go_wp2_with fail
    refine (awake_any _).mono ?_
    rintro e w1 ⟨rfl, hb1⟩
    go_wp2_with fail
    refine (HA.out _).mono ?_
    rintro e w' ⟨rfl, rfl⟩
    go_wp2_with fail
    refine (HB.out _).mono ?_
    rintro e w' ⟨rfl, rfl⟩
    go_wp2
    go_ret
    exact ⟨by simp, hb1⟩

set_option maxRecDepth 100000 in
set_option maxHeartbeats 1000000 in
theorem law_first (n b : Int) (w : World) :
    Calls Try.prog 7 #[.int .i64 n, .int .i64 b] w fun e w' => e = .returned (.bool true) ∧ Below w.heap.size w w' := by
  have HF : Hid (∀ W, Calls Try.prog 12 #[.int .i64 n] W (OfFirst (ltF n) W)) := Lib.hid (first_any n)
  have HM := Lib.hid (maskL_is (ltF n))
  have HC := Lib.hid (count_any (maskL (ltF n)) HM.out)
  have HH := Lib.hid (has_any (maskL (ltF n)) HM.out b)
  have HN := Lib.hid ((congrArg (fun x : Nat => (x : Int)) (cnt_mask (ltF n))).trans (cntF_lt n 256))
  have hv : hasI (maskL (ltF n)) b = (decide (0 ≤ b) && decide (b < min n 256)) := by
    by_cases h : 0 ≤ b ∧ b < 256
    · obtain ⟨k, rfl⟩ := Int.eq_ofNat_of_zero_le h.1
      rw [hasI_mask _ _ (by omega)]
      unfold ltF
      rw [Bool.eq_iff_iff]
      simp
      omega
    · rw [hasI_out _ _ (by omega)]
      symm
      rw [Bool.and_eq_false_iff]
      simp
      omega
  have HV := Lib.hid hv
  clear hv
  unfold OfFirst at HF
  generalize hasI (maskL (ltF n)) b = v at *
  generalize hq : (maskL (ltF n)) = F at *
  have HL : Hid ((cellsM F).length = 32) := Lib.hid (by rw [cellsM_len, HM.out.len])
  unfold maskV at *
  clear hq
  generalize ((cntL F 256 : Nat) : Int) = c at *
  have hcase : (n < 0 ∧ c = 0) ∨ (0 ≤ n ∧ n ≤ 256 ∧ c = n) ∨ (256 < n ∧ c = 256) := by have := HN.out; omega
  have bcase : (b < 0 ∧ v = false) ∨ (0 ≤ b ∧ b < min n 256 ∧ v = true) ∨ (0 ≤ b ∧ min n 256 ≤ b ∧ v = false) := by
    rw [HV.out]
    by_cases h0 : 0 ≤ b
    · by_cases h1 : b < min n 256
      · exact .inr (.inl ⟨h0, h1, by rw [decide_eq_true h0, decide_eq_true h1]; rfl⟩)
      · exact .inr (.inr ⟨h0, by omega, by rw [decide_eq_true h0, decide_eq_false h1]; rfl⟩)
    · exact .inl ⟨by omega, by rw [decide_eq_false h0]; rfl⟩
  clear HN HV
  rcases hcase with ⟨g1, rfl⟩ | ⟨g1, g2, rfl⟩ | ⟨g1, rfl⟩
  all_goals rcases bcase with ⟨g3, rfl⟩ | ⟨g3, g4, rfl⟩ | ⟨g3, g4, rfl⟩
  all_goals try (exfalso; omega)
  all_goals
    first | (have e0 : decide (0 ≤ b) = false := by (simp; omega)) | (have e0 : decide (0 ≤ b) = true := by (simp; omega))
    first
      | (have e1 : decide (b < 256) = true := by (simp; omega); have e2 : decide (b < c) = true := by (simp; omega))
      | skip
    go_enter Try.func7, Try.ntmps7
    go_wp2_with fail
    refine (awake_any _).mono ?_
    rintro e w1 ⟨rfl, hb1⟩
    go_wp2_with fail
    refine (HF.out _).mono ?_
    rintro e w2 ⟨rfl, hb2⟩
    have HB2 := Lib.hid ((hb1.trans (hb2.mono hb1.size)).alloc (Nat.le_trans hb1.size hb2.size) (.cells (cellsM F).toArray 26))
    have hL := Lies.new w2 (cellsM F) 26
    clear hb1 hb2
    go_wp2_with (first | (refine wp_storeN arrM rfl _ _ rfl _ _ _ rfl rfl rfl HL.out (cellsM_one _) rfl ?_) | (refine wp_loadW arrM rfl _ rfl _ rfl hL HL.out ?_))
    refine (HC.out _).mono ?_
    rintro e w3 ⟨rfl, hb3⟩
    have HB3 := Lib.hid (HB2.out.trans (hb3.mono HB2.out.size))
    have hL3 := hL.later hb3 hL.lt
    clear hb3 hL
    go_wp2_with (refine wp_loadW arrM rfl _ rfl _ rfl hL3 HL.out ?_)
    refine (HH.out _).mono ?_
    rintro e w4 ⟨rfl, hb4⟩
    have HB4 := Lib.hid (HB3.out.trans (hb4.mono HB3.out.size))
    clear hb4 hL3
    go_wp2
    go_ret
    exact ⟨by (simp <;> omega), HB4.out⟩

theorem Lies.regrown {w : World} {b : Nat} {vs : List Value} {t : TypeId} (h : Lies w b vs t) : ∀ w', (∃ p : Regrown, w' = grow (redrawn w p.d) p.os) → Lies w' b vs t := by
  rintro w' ⟨p, rfl⟩
  exact h.later (below_regrown w p.d p.os) h.lt
theorem Lies.alloc {w : World} {b : Nat} {vs : List Value} {t : TypeId} (h : Lies w b vs t) (o : Obj) : Lies (w.alloc o) b vs t := h.later ((Below.refl _ _).alloc (Nat.le_refl _) _) h.lt

set_option maxRecDepth 100000 in
set_option maxHeartbeats 4000000 in
theorem law_masks (B : List Nat) (hB : IsM B) (n : Int) (w : World) :
    Calls Try.prog 4 #[maskV B, .int .i64 n] w fun e w' => e = .returned (.bool true) ∧ Below w.heap.size w w' := by
  have HF : Hid (∀ W, Calls Try.prog 12 #[.int .i64 n] W (OfFirst (ltF n) W)) := Lib.hid (first_any n)
  have HRF := Lib.hid (rfirst_any n)
  have HN := Lib.hid (not_any B hB)
  have HRN := Lib.hid (rnot_any B hB)
  have HH := Lib.hid (has_any B hB n)
  have HRH := Lib.hid (rhas_any B hB n)
  have HC := Lib.hid (count_any B hB)
  have HRC := Lib.hid (rcount_any B hB)
  have HLF : Hid ((cellsM (maskL (ltF n))).length = 32) := Lib.hid (by rw [cellsM_len, maskL_len])
  have HLN : Hid ((cellsM (maskL fun k => !hasL B k)).length = 32) := Lib.hid (by rw [cellsM_len, maskL_len])
  have HL : Hid ((cellsM B).length = 32) := Lib.hid (by rw [cellsM_len, hB.len])
  unfold OfFirst maskV at *
  generalize hasI B n = v at *
  generalize ((cntL B 256 : Nat) : Int) = c at *
  generalize maskL (ltF n) = F at *
  generalize (maskL fun k => !hasL B k) = N at *
  have HB0 : Hid (Below w.heap.size w (w.alloc (.cells (cellsM B).toArray 25))) := Lib.hid ((Below.refl _ _).alloc (Nat.le_refl _) _)
  have HL0 := Lib.hid (Lies.new w (cellsM B) 25)
  go_enter Try.func4, Try.ntmps4
  go_wp2_with fail
  refine (awake_any _).mono ?_
  rintro e w1 ⟨rfl, hb1⟩
  have HB1 := Lib.hid (HB0.out.trans (hb1.mono HB0.out.size))
  have hL := HL0.out.later hb1 HL0.out.lt
  clear hb1
  go_wp2_with (first | (refine wp_loadW arrA rfl _ rfl _ rfl hL HL.out ?_) | (refine wp_storeN arrM rfl _ _ rfl _ _ _ rfl rfl rfl HL.out (cellsM_one _) rfl ?_))
  have HX2 := Lib.hid (Lies.new w1 (cellsM B) 26)
  have HL2 := Lib.hid (hL.alloc (.cells (cellsM B).toArray 26))
  have HB2 := Lib.hid (HB1.out.alloc HB1.out.size (.cells (cellsM B).toArray 26))
  clear hL
  refine (HF.out _).mono ?_
  rintro e w3 ⟨rfl, hb3⟩
  have HX3 := Lib.hid (HX2.out.later hb3 HX2.out.lt)
  have HL3 := Lib.hid (HL2.out.later hb3 HL2.out.lt)
  have HB3 := Lib.hid (HB2.out.trans (hb3.mono HB2.out.size))
  clear hb3
  have hX := HX3.out.alloc (.cells (cellsM F).toArray 26)
  go_wp2_with (first | (refine wp_storeN arrM rfl _ _ rfl _ _ _ rfl rfl rfl HLF.out (cellsM_one _) rfl ?_) | (refine wp_loadW arrM rfl _ rfl _ rfl hX HL.out ?_))
  have HX4 := Lib.hid hX
  have HL4 := Lib.hid (HL3.out.alloc (.cells (cellsM F).toArray 26))
  have HA4 := Lib.hid (Lies.new w3 (cellsM F) 26)
  have HB4 := Lib.hid (HB3.out.alloc HB3.out.size (.cells (cellsM F).toArray 26))
  clear hX
  refine (HN.out _).mono ?_
  rintro e w5 ⟨rfl, hb5⟩
  have HX5 := Lib.hid ((HX4.out.later hb5 HX4.out.lt).alloc (.cells (cellsM N).toArray 26))
  have HL5 := Lib.hid ((HL4.out.later hb5 HL4.out.lt).alloc (.cells (cellsM N).toArray 26))
  have HA5 := Lib.hid ((HA4.out.later hb5 HA4.out.lt).alloc (.cells (cellsM N).toArray 26))
  have HN5 := Lib.hid (Lies.new w5 (cellsM N) 26)
  have HB5' := Lib.hid (HB4.out.trans (hb5.mono HB4.out.size))
  have HB5 := Lib.hid (HB5'.out.alloc HB5'.out.size (.cells (cellsM N).toArray 26))
  clear hb5
  go_wp2_with (refine wp_storeN arrM rfl _ _ rfl _ _ _ rfl rfl rfl HLN.out (cellsM_one _) rfl ?_)
  obtain ⟨w6, hw6⟩ : ∃ w6, w6 = w5.alloc (.cells (cellsM N).toArray 26) := ⟨_, rfl⟩
  rw [← hw6] at HX5 HL5 HA5 HN5 HB5 ⊢
  clear hw6
  have hX := HX5.out.regrown
  have hL := HL5.out.regrown
  have hA := HA5.out.regrown
  have hN := HN5.out.regrown
  have HX := Lib.hid hX
  have HLL := Lib.hid hL
  have HA := Lib.hid hA
  have HNN := Lib.hid hN
  clear hX hL hA hN
  have s1 : (v == v) = true := by simp
  have s2 : (c == c) = true := by simp
  have s3 := HLF.out
  have s4 := HLN.out
  have C1 := Lib.hid (fun d os => Calls.regrown_of (HH.out (grow (redrawn w6 d) os)))
  have C2 := Lib.hid (fun d os => Calls.regrown_of (HRH.out (grow (redrawn w6 d) os)))
  have C3 := Lib.hid (fun d os => Calls.regrown_of (HC.out (grow (redrawn w6 d) os)))
  have C4 := Lib.hid (fun d os => Calls.regrown_of (HRC.out (grow (redrawn w6 d) os)))
  have C5 := Lib.hid (fun d os => Calls.regrown_of (HRF.out (grow (redrawn w6 d) os)))
  have C6 := Lib.hid (fun d os => Calls.regrown_of (HRN.out (grow (redrawn w6 d) os)))
  refine wp_region_quiet_below (by kernel_rfl) (by kernel_rfl) ?_
  repeat (first
    | (go_big_quiet_want; (first | refine quiet_load arrM _ rfl _ rfl HX.out HL.out ?_ | refine quiet_load arrA _ rfl _ rfl HLL.out HL.out ?_ | refine quiet_load arrM _ rfl _ rfl HA.out HLF.out ?_ | refine quiet_load arrM _ rfl _ rfl HNN.out HLN.out ?_); go_simp; go_big_quiet_on)
    | go_big_quiet_step ((first | with_reducible exact C1.out _ _ | with_reducible exact C2.out _ _ | with_reducible exact C3.out _ _ | with_reducible exact C4.out _ _ | with_reducible exact C5.out _ _ | with_reducible exact C6.out _ _)))
  refine wpQuiet_nil ?_
  intro _ hw'
  obtain ⟨⟨dq, osq⟩, hw''⟩ := hw'
  subst hw''
  go_wp2
  go_ret
  exact ⟨rfl, HB5.out.trans ((below_regrown w6 dq osq).mono HB5.out.size)⟩

set_option maxRecDepth 100000 in
set_option maxHeartbeats 4000000 in
theorem law_one (B : List Nat) (hB : IsM B) (s : ByteArray) (w : World) :
    Calls Try.prog 5 #[maskV B, .string s] w fun e w' => e = .returned (.bool true) ∧ Below w.heap.size w w' := by
  have HB0 : Hid (Below w.heap.size w (w.alloc (.cells (cellsM B).toArray 25))) := Lib.hid ((Below.refl _ _).alloc (Nat.le_refl _) _)
  have HL0 := Lib.hid (Lies.new w (cellsM B) 25)
  by_cases hbig : 2000 < s.size
  · have hd : decide ((2000 : Int) < (s.size : Int)) = true := by simp; omega
    unfold maskV
    generalize (cellsM B).toArray = C at *
    go_enter Try.func5, Try.ntmps5
    go_wp2_with fail
    refine (awake_any _).mono ?_
    rintro e w1 ⟨rfl, hb1⟩
    go_wp2
    go_ret
    exact ⟨rfl, HB0.out.trans (hb1.mono HB0.out.size)⟩
  have hd : decide ((2000 : Int) < (s.size : Int)) = false := by simp; omega
  have HK := Lib.hid (bucket_any s (by omega))
  have hk := bkN_lt (listOf s)
  have hN : maskL (fun k => !hasL (maskL fun k => !hasL B k) k) = B := by
    rw [show maskL (fun k => !hasL (maskL fun k => !hasL B k) k) = maskL (hasL B) from maskL_congr fun k hk => by rw [has_mask _ _ hk, Bool.not_not]]
    exact mask_has hB
  have HN := Lib.hid (not_any B hB)
  have HM := maskL_is fun k => !hasL B k
  have HNN := Lib.hid (not_any (maskL fun k => !hasL B k) HM)
  unfold OfFirst at HNN
  rw [hN] at HNN
  have HH := Lib.hid (has_any B hB (bkN (listOf s) : Nat))
  have HHN := Lib.hid (has_any (maskL fun k => !hasL B k) HM (bkN (listOf s) : Nat))
  rw [hasI_mask _ _ hk] at HHN
  have hv : hasI B ((bkN (listOf s) : Nat) : Int) = hasL B (bkN (listOf s)) := by
    unfold hasI
    rw [decide_eq_true (Int.natCast_nonneg _), decide_eq_true (show ((bkN (listOf s) : Nat) : Int) < 256 by omega)]
    rfl
  rw [hv] at HH
  have HC := Lib.hid (count_any B hB)
  have HCN := Lib.hid (count_any (maskL fun k => !hasL B k) HM)
  have hcc : cntL B 256 + cntL (maskL fun k => !hasL B k) 256 = 256 := by
    rw [cnt_mask]
    exact cntF_not (hasL B) 256
  have HLN : Hid ((cellsM (maskL fun k => !hasL B k)).length = 32) := Lib.hid (by rw [cellsM_len, maskL_len])
  have HL : Hid ((cellsM B).length = 32) := Lib.hid (by rw [cellsM_len, hB.len])
  clear hN hv hB HM
  unfold OfFirst at HN
  unfold maskV at *
  obtain ⟨u, hu⟩ : ∃ u, u = hasL B (bkN (listOf s)) := ⟨_, rfl⟩
  rw [← hu] at HH HHN
  clear hu
  generalize bkN (listOf s) = k at *
  generalize (maskL fun k => !hasL B k) = N at *
  have hc1 : cntL B 256 ≤ 256 := by omega
  generalize hx1 : cntL B 256 = c1 at *
  generalize hx2 : cntL N 256 = c2 at *
  clear hx1 hx2
  have hd1 : decide ((0 : Int) ≤ (k : Int)) = true := by simp
  have hd2 : decide ((k : Int) < 256) = true := by simp; omega
  have hd3 : ((c1 : Int) + (c2 : Int) == 256) = true := by simp; omega
  have hc2 : c2 ≤ 256 := by omega
  have HCC := Lib.hid hcc
  clear hcc
  go_enter Try.func5, Try.ntmps5
  go_wp2_with fail
  refine (awake_any _).mono ?_
  rintro e w1 ⟨rfl, hb1⟩
  have HB1 := Lib.hid (HB0.out.trans (hb1.mono HB0.out.size))
  have hL := HL0.out.later hb1 HL0.out.lt
  clear hb1
  go_wp2_with (first | (refine wp_loadW arrA rfl _ rfl _ rfl hL HL.out ?_) | (refine wp_storeN arrM rfl _ _ rfl _ _ _ rfl rfl rfl HL.out (cellsM_one _) rfl ?_))
  have HX2 := Lib.hid (Lies.new w1 (cellsM B) 26)
  have HB2 := Lib.hid (HB1.out.alloc HB1.out.size (.cells (cellsM B).toArray 26))
  clear hL
  refine (HK.out _).mono ?_
  rintro e w' ⟨rfl, rfl⟩
  have hX := HX2.out
  go_wp2_with (refine wp_loadW arrM rfl _ rfl _ rfl hX HL.out ?_)
  clear hX
  refine (HN.out _).mono ?_
  rintro e w5 ⟨rfl, hb5⟩
  have HX5 := Lib.hid ((HX2.out.later hb5 HX2.out.lt).alloc (.cells (cellsM N).toArray 26))
  have HN5 := Lib.hid (Lies.new w5 (cellsM N) 26)
  have HB5' := Lib.hid (HB2.out.trans (hb5.mono HB2.out.size))
  have HB5 := Lib.hid (HB5'.out.alloc HB5'.out.size (.cells (cellsM N).toArray 26))
  clear hb5
  go_wp2_with (refine wp_storeN arrM rfl _ _ rfl _ _ _ rfl rfl rfl HLN.out (cellsM_one _) rfl ?_)
  obtain ⟨w6, hw6⟩ : ∃ w6, w6 = w5.alloc (.cells (cellsM N).toArray 26) := ⟨_, rfl⟩
  rw [← hw6] at HX5 HN5 HB5 ⊢
  clear hw6
  have HX := Lib.hid HX5.out.regrown
  have HNQ := Lib.hid HN5.out.regrown
  have s3 := HL.out
  have C1 := Lib.hid (fun d os => Calls.regrown_of (HH.out (grow (redrawn w6 d) os)))
  have C2 := Lib.hid (fun d os => Calls.regrown_of (HHN.out (grow (redrawn w6 d) os)))
  have C3 := Lib.hid (fun d os => Calls.regrown_of (HC.out (grow (redrawn w6 d) os)))
  have C4 := Lib.hid (fun d os => Calls.regrown_of (HCN.out (grow (redrawn w6 d) os)))
  have C5 := Lib.hid (fun d os => Calls.regrown_of (HNN.out (grow (redrawn w6 d) os)))
  have hnot : ∀ x : Bool, (x != !x) = true := by intro x; cases x <;> rfl
  have hu' := hnot u
  clear hnot
  all_goals
    refine wp_region_quiet_below (by kernel_rfl) (by kernel_rfl) ?_
    repeat (first
      | (go_big_quiet_want; (first | refine quiet_load arrM _ rfl _ rfl HX.out HL.out ?_ | refine quiet_load arrM _ rfl _ rfl HNQ.out HLN.out ?_); go_simp; go_big_quiet_on)
      | go_big_quiet_step ((first | with_reducible exact C1.out _ _ | with_reducible exact C2.out _ _ | with_reducible exact C3.out _ _ | with_reducible exact C4.out _ _ | with_reducible exact C5.out _ _)))
    refine wpQuiet_nil ?_
    intro _ hw'
    obtain ⟨⟨dq, osq⟩, hw''⟩ := hw'
    subst hw''
    go_wp2
    go_ret
    exact ⟨rfl, HB5.out.trans ((below_regrown w6 dq osq).mono HB5.out.size)⟩

set_option maxRecDepth 100000 in
set_option maxHeartbeats 4000000 in
theorem law_covers (s : ByteArray) (n m : Int) (w : World) :
    Calls Try.prog 8 #[.string s, .int .i64 n, .int .i64 m] w fun e w' => e = .returned (.bool true) ∧ Below w.heap.size w w' := by
  by_cases hbig : 2000 < s.size
  · have hd : decide ((2000 : Int) < (s.size : Int)) = true := by simp; omega
    go_enter Try.func8, Try.ntmps8
    go_wp2_with fail
    refine (awake_any _).mono ?_
    rintro e w1 ⟨rfl, hb1⟩
    go_wp2
    go_ret
    exact ⟨rfl, hb1⟩
  have hd : decide ((2000 : Int) < (s.size : Int)) = false := by simp; omega
  by_cases hnm : m < n
  · have hd' : decide (m < n) = true := decide_eq_true hnm
    go_enter Try.func8, Try.ntmps8
    go_wp2_with fail
    refine (awake_any _).mono ?_
    rintro e w1 ⟨rfl, hb1⟩
    go_wp2
    go_ret
    exact ⟨rfl, hb1⟩
  have hd' : decide (m < n) = false := decide_eq_false hnm
  have HK := Lib.hid (bucket_any s (by omega))
  have hk := bkN_lt (listOf s)
  have HF : Hid (∀ W, Calls Try.prog 12 #[.int .i64 n] W (OfFirst (ltF n) W)) := Lib.hid (first_any n)
  have HG : Hid (∀ W, Calls Try.prog 12 #[.int .i64 m] W (OfFirst (ltF m) W)) := Lib.hid (first_any m)
  have HHF := Lib.hid (has_any (maskL (ltF n)) (maskL_is _) (bkN (listOf s) : Nat))
  have HHG := Lib.hid (has_any (maskL (ltF m)) (maskL_is _) (bkN (listOf s) : Nat))
  rw [hasI_mask _ _ hk] at HHF HHG
  have HCF := Lib.hid (count_any (maskL (ltF n)) (maskL_is _))
  have HCG := Lib.hid (count_any (maskL (ltF m)) (maskL_is _))
  have hmono : ∀ k, ltF n k = true → ltF m k = true := by
    intro k h
    unfold ltF at *
    have := of_decide_eq_true h
    exact decide_eq_true (by omega)
  have hcc : cntL (maskL (ltF n)) 256 ≤ cntL (maskL (ltF m)) 256 := by
    rw [cnt_mask, cnt_mask]
    exact cntF_mono hmono 256
  have HLF : Hid ((cellsM (maskL (ltF n))).length = 32) := Lib.hid (by rw [cellsM_len, maskL_len])
  have HLG : Hid ((cellsM (maskL (ltF m))).length = 32) := Lib.hid (by rw [cellsM_len, maskL_len])
  unfold OfFirst at HF HG
  unfold maskV at *
  have hu := hmono (bkN (listOf s))
  have hv : ltF n (bkN (listOf s)) = decide (((bkN (listOf s) : Nat) : Int) < n) := rfl
  generalize ltF n (bkN (listOf s)) = v at *
  generalize ltF m (bkN (listOf s)) = u at *
  generalize bkN (listOf s) = k at *
  generalize maskL (ltF n) = F at *
  generalize maskL (ltF m) = G at *
  clear hmono
  generalize cntL F 256 = c1 at *
  generalize cntL G 256 = c2 at *
  have hdc : decide (c1 ≤ c2) = true := decide_eq_true hcc
  have hdc' : decide ((c1 : Int) ≤ (c2 : Int)) = true := by simp; omega
  clear hcc
  have hcase : (v = true ∧ u = true) ∨ v = false := by
    cases v
    · exact .inr rfl
    · exact .inl ⟨rfl, hu rfl⟩
  clear hu
  have hdk : decide ((k : Int) < n) = v := hv.symm
  clear hv
  rcases hcase with ⟨rfl, rfl⟩ | rfl
  all_goals
    go_enter Try.func8, Try.ntmps8
    go_wp2_with fail
    refine (awake_any _).mono ?_
    rintro e w1 ⟨rfl, hb1⟩
    have HB1 := Lib.hid hb1
    clear hb1
    go_wp2_with fail
    refine (HK.out _).mono ?_
    rintro e w' ⟨rfl, rfl⟩
    go_wp2_with fail
    refine (HF.out _).mono ?_
    rintro e w2 ⟨rfl, hb2⟩
    have HB2' := Lib.hid (HB1.out.trans (hb2.mono HB1.out.size))
    have HB2 := Lib.hid (HB2'.out.alloc HB2'.out.size (.cells (cellsM F).toArray 26))
    have HF2 := Lib.hid (Lies.new w2 (cellsM F) 26)
    clear hb2
    go_wp2_with (refine wp_storeN arrM rfl _ _ rfl _ _ _ rfl rfl rfl HLF.out (cellsM_one _) rfl ?_)
    refine (HG.out _).mono ?_
    rintro e w5 ⟨rfl, hb5⟩
    have HF5 := Lib.hid ((HF2.out.later hb5 HF2.out.lt).alloc (.cells (cellsM G).toArray 26))
    have HG5 := Lib.hid (Lies.new w5 (cellsM G) 26)
    have HB5' := Lib.hid (HB2.out.trans (hb5.mono HB2.out.size))
    have HB5 := Lib.hid (HB5'.out.alloc HB5'.out.size (.cells (cellsM G).toArray 26))
    clear hb5
    go_wp2_with (refine wp_storeN arrM rfl _ _ rfl _ _ _ rfl rfl rfl HLG.out (cellsM_one _) rfl ?_)
    obtain ⟨w6, hw6⟩ : ∃ w6, w6 = w5.alloc (.cells (cellsM G).toArray 26) := ⟨_, rfl⟩
    rw [← hw6] at HF5 HG5 HB5 ⊢
    clear hw6
    have HX := Lib.hid HF5.out.regrown
    have HY := Lib.hid HG5.out.regrown
    have C1 := Lib.hid (fun d os => Calls.regrown_of (HHF.out (grow (redrawn w6 d) os)))
    have C2 := Lib.hid (fun d os => Calls.regrown_of (HHG.out (grow (redrawn w6 d) os)))
    have C3 := Lib.hid (fun d os => Calls.regrown_of (HCF.out (grow (redrawn w6 d) os)))
    have C4 := Lib.hid (fun d os => Calls.regrown_of (HCG.out (grow (redrawn w6 d) os)))
    refine wp_region_quiet_below (by kernel_rfl) (by kernel_rfl) ?_
    repeat (first
      | (go_big_quiet_want; (first | refine quiet_load arrM _ rfl _ rfl HX.out HLF.out ?_ | refine quiet_load arrM _ rfl _ rfl HY.out HLG.out ?_); go_simp; go_big_quiet_on)
      | go_big_quiet_step ((first | with_reducible exact C1.out _ _ | with_reducible exact C2.out _ _ | with_reducible exact C3.out _ _ | with_reducible exact C4.out _ _)))
    refine wpQuiet_nil ?_
    intro _ hw'
    obtain ⟨⟨dq, osq⟩, hw''⟩ := hw'
    subst hw''
    go_wp2
    go_ret
    exact ⟨rfl, HB5.out.trans ((below_regrown w6 dq osq).mono HB5.out.size)⟩
end Go.Proofs.Ytamdhljoamggeaa
