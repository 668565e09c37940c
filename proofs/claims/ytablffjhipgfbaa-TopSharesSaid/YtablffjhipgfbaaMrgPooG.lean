/- Joined texts: PooG, PooH, PooX. -/
import Derived.Test.YtablffjhipgfbaaMrgPooL
import Derived.Deep.RegionWith
import Derived.Test.YtablffjhipgfbaaMrgSrtE

/- pool: the program's Gives. -/
section
namespace Go.Proofs.Ytablffjhipgfbaa
open Ieee Go.RowKit Go.Sort Flo

theorem within_any (n : Int) (W : World) : Calls Try.prog 33 #[.int .i64 n] W fun e w' => e = .returned (.int .i64 (bnd n)) ∧ W = w' := by
  go_enter Try.func33, Try.ntmps33
  go_wp2
  all_goals
    go_ret
    refine ⟨?_, rfl⟩
    show Ending.returned (.int .i64 _) = _
    congr 2
    all_goals first | rfl | (unfold bnd; omega)

set_option maxRecDepth 100000 in
set_option maxHeartbeats 1000000 in
theorem punev_any (p s : Nat) (f b : Int) (w : World) : Calls Try.prog 30 #[f2v p s, .int .i64 f, .int .i64 b] w fun e w' => e = .returned (.bool (gtF (unW f b p) s)) ∧ Below w.heap.size w w' := by
  have HY := Lib.hid (quiet_same (uneven_any f b p))
  have hgt : (FloatKind.f64.format.order (unW f b p) s == some .gt) = gtF (unW f b p) s := t_gt _ _
  generalize gtF (unW f b p) s = big at *
  generalize unW f b p = Y at *
  obtain ⟨w0, hw0⟩ : ∃ w0, w0 = w.alloc (f2box 38 p s) := ⟨_, rfl⟩
  have HL : Hid (F2 38 w0 w.heap.size p s) := Lib.hid (by rw [hw0]; exact F2.new w _ p s)
  have HB : Hid (Below w.heap.size w w0) := Lib.hid (by rw [hw0]; exact (Below.refl _ _).alloc (Nat.le_refl _) _)
  have HW0 := Lib.hid hw0
  clear hw0
  have c0 := HL.out.c0
  have c1 := HL.out.c1
  go_enter Try.func30, Try.ntmps30
  go_upto_region 1 with fail
  rw [← HW0.out]
  go_quiet (exact HY.out _ _)
  go_wp2
  go_ret
  exact ⟨rfl, drewN_low HB.out _⟩

set_option maxRecDepth 100000 in
set_option maxHeartbeats 1000000 in
theorem pspare_any (p s : Nat) (f b : Int) (hf : 0 ≤ f ∧ f ≤ 1073741824) (hb : 0 ≤ b ∧ b ≤ 1073741824) (w : World) : Calls Try.prog 32 #[f2v p s, .int .i64 f, .int .i64 b] w fun e w' => e = .returned (.int .i64 (max (b - partV (f + b) p) 0)) ∧ Below w.heap.size w w' := by
  have HP := Lib.hid (fun V => part_any (f + b) p V)
  have hr := part_range (f + b) p
  generalize partV (f + b) p = pt at *
  obtain ⟨w0, hw0⟩ : ∃ w0, w0 = w.alloc (f2box 38 p s) := ⟨_, rfl⟩
  have HL : Hid (F2 38 w0 w.heap.size p s) := Lib.hid (by rw [hw0]; exact F2.new w _ p s)
  have HB : Hid (Below w.heap.size w w0) := Lib.hid (by rw [hw0]; exact (Below.refl _ _).alloc (Nat.le_refl _) _)
  have HW0 := Lib.hid hw0
  clear hw0
  have c0 := HL.out.c0
  have c1 := HL.out.c1
  go_enter Try.func32, Try.ntmps32
  go_wp2_with fail
  rw [← HW0.out]
  refine (HP.out _).mono ?_
  rintro e w' ⟨rfl, rfl⟩
  go_wp2
  all_goals
    go_ret
    refine ⟨?_, HB.out⟩
    show Ending.returned (.int .i64 _) = _
    congr 2
    all_goals omega

set_option maxRecDepth 100000 in
set_option maxHeartbeats 2000000 in
theorem gives_any (p s : Nat) (id f b : Int) (w : World) : Calls Try.prog 19 #[f2v p s, .int .i64 id, .int .i64 f, .int .i64 b] w fun e w' => e = .returned (.int .i64 (givV p s id f b)) ∧ Below w.heap.size w w' := by
  have HU := Lib.hid (fun V => punev_any p s f b V)
  have HG : Hid (givV p s id f b = if gtF (unW f b p) s = true then (if id = 0 then shareV f b p else if id = 1 then min (max (bnd b - partV (bnd f + bnd b) p) 0) (bnd b) else 0) else 0) := Lib.hid rfl
  have HF := Lib.hid (fun n V => within_any n V)
  have HS := Lib.hid (fun V => share_any f b p V)
  have HP := Lib.hid (fun V => pspare_any p s (bnd f) (bnd b) (bnd_range f) (bnd_range b) V)
  have hr := part_range (bnd f + bnd b) p
  obtain ⟨f0, f1⟩ := bnd_range f
  obtain ⟨b0, b1⟩ := bnd_range b
  obtain ⟨k, hk⟩ : ∃ k, k = max (bnd b - partV (bnd f + bnd b) p) 0 := ⟨_, rfl⟩
  have hkb : min k (bnd b) = k := by omega
  rw [← hk] at HG HP
  rw [hkb] at HG
  clear hk hkb hr
  generalize givV p s id f b = r at *
  generalize gtF (unW f b p) s = big at *
  generalize shareV f b p = sh at *
  obtain ⟨w0, hw0⟩ : ∃ w0, w0 = w.alloc (f2box 38 p s) := ⟨_, rfl⟩
  have HL : Hid (F2 38 w0 w.heap.size p s) := Lib.hid (by rw [hw0]; exact F2.new w _ p s)
  have HB : Hid (Below w.heap.size w w0) := Lib.hid (by rw [hw0]; exact (Below.refl _ _).alloc (Nat.le_refl _) _)
  have HW0 := Lib.hid hw0
  clear hw0
  have c0 := HL.out.c0
  have c1 := HL.out.c1
  go_enter Try.func19, Try.ntmps19
  go_upto_region 1 with fail
  rw [← HW0.out]
  go_wp2_with fail
  refine (HU.out _).mono ?_
  rintro e w1 ⟨rfl, hb1⟩
  have HL1 := Lib.hid (HL.out.later hb1)
  have HB1 := Lib.hid (HB.out.trans (hb1.mono HB.out.size))
  clear hb1 c0 c1 HL
  have c0 := HL1.out.c0
  have c1 := HL1.out.c1
  cases big
  · go_wp2
    go_ret
    rw [HG.out]
    exact ⟨rfl, HB1.out⟩
  by_cases h0 : id = 0
  · have t0 : (id == 0) = true := by rw [h0]; rfl
    have HR : Hid (r = sh) := Lib.hid (by rw [HG.out]; simp [h0])
    clear h0
    go_wp2_with fail
    refine (HS.out _).mono ?_
    rintro e w' ⟨rfl, rfl⟩
    go_wp2
    go_ret
    rw [HR.out]
    exact ⟨rfl, HB1.out⟩
  have t0 : (id == 0) = false := by simpa using h0
  by_cases h1 : id = 1
  · have t1 : (id == 1) = true := by rw [h1]; rfl
    have HR : Hid (r = k) := Lib.hid (by rw [HG.out]; simp [h1])
    clear h0 h1
    go_upto_region 7 with fail
    go_region_with (first
      | (go_at_call 33; refine (HF.out _ _).mono ?_; rintro e w' ⟨rfl, rfl⟩)
      | (go_at_call 32; refine (HP.out _).mono ?_; rintro e w2 ⟨rfl, hb2⟩))
    all_goals
      go_wp2
      go_ret
      rw [HR.out]
      exact ⟨rfl, HB1.out.drew.trans (hb2.mono HB1.out.size)⟩
  have t1 : (id == 1) = false := by simpa using h1
  have HR : Hid (r = 0) := Lib.hid (by rw [HG.out]; simp [h0, h1])
  clear h0 h1
  go_wp2
  go_ret
  rw [HR.out]
  exact ⟨rfl, HB1.out⟩
end Go.Proofs.Ytablffjhipgfbaa
end

/- pool: the program's Chosen: the addresses of its own, rising, cut off at the front. -/
section
namespace Go.Proofs.Ytablffjhipgfbaa
open Go.RowKit Go.Sort

theorem ch1_any (x : LV) (w : World) : Calls Try.prog 17 #[x.v] w fun e w' => e = .returned (.bool (x.bind == 0)) ∧ Below w.heap.size w w' := by
  go_enter Try.func17, Try.ntmps17
  go_wp2
  go_ret
  exact ⟨rfl, (Below.refl _ _).alloc (Nat.le_refl _) _⟩
theorem ch2_any (x : LV) (w : World) : Calls Try.prog 18 #[x.v] w fun e w' => e = .returned (.bool (x.bind == 1)) ∧ Below w.heap.size w w' := by
  go_enter Try.func18, Try.ntmps18
  go_wp2
  go_ret
  exact ⟨rfl, (Below.refl _ _).alloc (Nat.le_refl _) _⟩

theorem own_snoc (q : LV → Bool) (L : List LV) (j : Nat) (x : LV) (hx : L[j]? = some x) : ((L.take (j + 1)).filter q).map LV.addr = ((L.take j).filter q).map LV.addr ++ (if q x = true then [x.addr] else []) := by
  rw [take_snoc_of L j x hx, List.filter_append, List.map_append, List.filter_cons, List.filter_nil]
  split <;> rfl

set_option maxRecDepth 100000 in
set_option maxHeartbeats 2000000 in
theorem pthose_any {fc : FuncId} (q : LV → Bool) (eg : ∀ args w, (callFunc fc args).run Try.prog w = .ok (.enter fc args) w) (ht : ∀ (x : LV) (V : World), Calls Try.prog fc #[x.v] V fun e w' => e = .returned (.bool (q x)) ∧ Below V.heap.size V w')
    (A : Option Addr) (c : Nat) (L : List LV) (w : World) (hE : El ElemL w w.heap.size A L) (hL : L.length ≤ 100000) :
    Calls Try.prog 16 #[.slice A L.length c, .func (.func fc) #[] #[]] w fun e w' => ∃ A' c', e = .returned (.slice A' ((L.filter q).map LV.addr).length c') ∧ RowE ElemA w w' (.slice A' ((L.filter q).map LV.addr).length c') ((L.filter q).map LV.addr) := by
  have HT := Lib.hid ht
  have HE := Lib.hid hE
  clear ht hE
  go_enter Try.func16, Try.ntmps16
  go_wp2
  go_loopw [5, 10] (fun own i wr => ∃ (j : Nat) (A' : Option Addr) (c' : Nat) (l : List Nat), own = .slice A' l.length c' ∧ i = .int .i64 j ∧ j ≤ L.length ∧ l.length ≤ j ∧ Hid (l = ((L.take j).filter q).map LV.addr) ∧ Hid (RowE ElemA w wr (.slice A' l.length c') l)) (fun _ i _ => L.length - (intOf i).toNat)
  case atStart => exact ⟨0, none, 0, [], rfl, rfl, Nat.zero_le _, Nat.le_refl _, Lib.hid rfl, Lib.hid (RowE.nil w)⟩
  case round =>
    obtain ⟨j, A', c', l, rfl, rfl, hj, hl, HD, HV⟩ := hrel
    by_cases hlt : j < L.length
    · obtain ⟨x, hx⟩ : ∃ x, L[j]? = some x := ⟨_, List.getElem?_eq_getElem hlt⟩
      have HS := Lib.hid (own_snoc q L j x hx)
      have HEr := Lib.hid (HE.out.below HV.out.low)
      obtain ⟨b, o, rfl, hb, x0, x1, x2, x3, x4, x5, x6, x7⟩ := HEr.out.at8 j x hx
      have HC := Lib.hid (fun V => HT.out x V)
      obtain ⟨w1, hw1⟩ : ∃ w1, w1 = wr.alloc (lbox x) := ⟨_, rfl⟩
      have HX1 : Hid (LBox w1 wr.heap.size x) := Lib.hid (by rw [hw1]; exact LBox.new wr x)
      have HV1 : Hid (RowE ElemA w w1 (.slice A' l.length c') l) := Lib.hid (by rw [hw1]; exact HV.out.alloc _)
      have HG1 : Hid (wr.heap.size < w1.heap.size) := Lib.hid (by rw [hw1]; simp)
      have HW1 := Lib.hid hw1
      clear hw1
      go_upto_region 5 with fail
      rw [show ∀ V : World, V.alloc (.cells #[.int .u32 (x.addr : Int), .int .i64 x.bind, .string x.cb, .int .i64 x.unt, .int .i64 x.acked, .int .i64 x.told, .int .i64 x.at_, .int .i64 x.ver] 35) = V.alloc (lbox x) from fun _ => rfl, ← HW1.out]
      clear x0 x1 x2 x3 x4 x5 x6 x7
      obtain ⟨y0, y1, y2, y3, y4, y5, y6, y7⟩ := HX1.out.all
      go_wp2_with fail
      refine (HC.out _).mono ?_
      rintro e w2 ⟨rfl, hb2⟩
      have HX2 := Lib.hid (HX1.out.later hb2)
      have HV2 := Lib.hid (HV1.out.later hb2)
      have z0 := HX2.out.c0
      clear y0 y1 y2 y3 y4 y5 y6 y7 hb2
      cases hq : q x
      · have HN : Hid (l = ((L.take (j + 1)).filter q).map LV.addr) := Lib.hid (by rw [HS.out, hq, HD.out]; simp)
        go_wp2
        go_roundw
        case rel => exact ⟨j + 1, A', c', l, rfl, by go_num, by omega, by omega, HN, HV2⟩
        case measure => simp [intOf]; omega
      · have HN : Hid (l ++ [x.addr] = ((L.take (j + 1)).filter q).map LV.addr) := Lib.hid (by rw [HS.out, hq, HD.out]; simp)
        have hz : l.length + ([x.addr] : List Nat).length ≤ 100000000000 := by simp; omega
        have HLX : Hid (El ElemA (w2.alloc (.cells #[.int .u32 (x.addr : Int)] 30)) (w2.heap.size + 1) (some ⟨w2.heap.size, 0, none⟩) [x.addr]) := Lib.hid (El.lit w2 [x.addr] _ _ rfl)
        have HAL : Hid (RowE ElemA w (w2.alloc (.cells #[.int .u32 (x.addr : Int)] 30)) (.slice A' l.length c') l) := Lib.hid (HV2.out.alloc _)
        go_wp2_with (at_builtin; refine wpList_rowE (E := ElemA) rfl (.tmp 17) (.tmp 20) rfl rfl HAL.out [x.addr] rfl rfl HLX.out hz ?_; intro A4 k4 w4 l4 HL4 hR4 hk4 _ _)
        have hl4 : l4.length ≤ j + 1 := by
          rw [HL4.out, List.length_append]
          show l.length + 1 ≤ j + 1
          omega
        have HR4 := Lib.hid hR4
        have HN4 : Hid (l4 = ((L.take (j + 1)).filter q).map LV.addr) := Lib.hid (by rw [HL4.out]; exact HN.out)
        clear hR4
        go_wp2
        go_roundw
        case rel => exact ⟨j + 1, A4, k4, l4, rfl, by go_num, by omega, hl4, HN4, HR4⟩
        case measure => simp [intOf]; omega
    · go_wp2
      go_ret
      have e : j = L.length := by omega
      have h := HD.out
      rw [e, List.take_length] at h
      rw [← h]
      exact ⟨_, _, rfl, HV.out⟩

/-- What is given, as the program cuts it off its own. -/
theorem ch_code (p s : Nat) (id b : Int) (L : List LV) (hb : (id = 1 ∧ b = 1) ∨ (id ≠ 1 ∧ b = 0)) (n : Nat) (hn : n = (givV p s id ((ownOf 0 L).length : Nat) ((ownOf 1 L).length : Nat)).toNat) : n ≤ (srtA (ownOf b L)).length ∧ chV p s id L = (srtA (ownOf b L)).drop ((srtA (ownOf b L)).length - n) := by
  have e : ∀ k, (ownOf k L).length = L.countP fun y => y.bind == k := fun k => by rw [ownOf, List.length_map, List.countP_eq_length_filter]
  rw [e, e] at hn
  have hf := ch_fits p s id L
  rw [← hn] at hf
  have hc : chV p s id L = topA n (if id = 0 ∨ id = 1 then ownA id L else []) := by rw [hn]; rfl
  rcases hb with ⟨h1, rfl⟩ | ⟨h1, rfl⟩
  · rw [if_pos (.inr h1), h1] at hf hc
    exact ⟨hf, by rw [h1]; exact hc⟩
  · by_cases h0 : id = 0
    · rw [if_pos (.inl h0), h0] at hf hc
      exact ⟨hf, by rw [h0]; exact hc⟩
    · rw [if_neg (by omega)] at hf hc
      have hz : n = 0 := Nat.le_zero.1 hf
      subst hz
      refine ⟨Nat.zero_le _, ?_⟩
      rw [hc, Nat.sub_zero, List.drop_length, topA_nil]

/-- What a row of the call's own answers, cut off at its front. -/
theorem gives_tail {w w0 w6 : World} {A' : Option Addr} {c' q : Nat} {d : List Nat} (hB0 : Below w.heap.size w w0) (HV : RowE ElemA w0 w6 (.slice A' d.length c') d) (hq : q ≤ d.length) : GivesA w (d.drop q) (.returned (.slice (if c' = q then A' else (A' : Option Addr).map (·.add (q * ElemA.m))) (d.length - q) (c' - q))) w6 := by
  obtain ⟨A2, k2, e2, hdc, HE1⟩ := HV.form
  injection e2 with e2 _ e3
  subst e2 e3
  refine ⟨_, c' - q, by rw [List.length_drop], by rw [List.length_drop]; omega, HE1.cut hq hdc, fun ad h => ?_, hB0.trans (HV.low.mono hB0.size)⟩
  have hlo : ∀ k, (Value.slice A' d.length c').ownBlock = some k → w0.heap.size ≤ k := fun k hk => (HV.lt k hk).1
  have hs := hB0.size
  cases A' with
  | none => split at h <;> cases h
  | some a =>
    have h1 := hlo a.block rfl
    split at h
    · injection h with h; subst h; omega
    · injection h with h; subst h
      have : (a.add (q * ElemA.m)).block = a.block := by unfold Addr.add; split <;> rfl
      show w.heap.size ≤ (a.add (q * ElemA.m)).block
      rw [this]
      omega

set_option maxRecDepth 100000 in
set_option maxHeartbeats 2000000 in
theorem chosen_any (p s : Nat) (id : Int) (A : Option Addr) (c : Nat) (L : List LV) (w : World) (hE : El ElemL w w.heap.size A L) (hL : L.length ≤ 300) :
    Calls Try.prog 7 #[f2v p s, .int .i64 id, .slice A L.length c] w (GivesA w (chV p s id L)) := by
  have HG := Lib.hid (fun f b V => gives_any p s id f b V)
  have hgr := (giv_range p s id ((ownOf 0 L).length : Nat) ((ownOf 1 L).length : Nat)).1
  obtain ⟨n, hn⟩ : ∃ n : Nat, givV p s id ((ownOf 0 L).length : Nat) ((ownOf 1 L).length : Nat) = (n : Int) := ⟨_, (Int.toNat_of_nonneg hgr).symm⟩
  have HCH := Lib.hid (fun b hb => ch_code p s id b L hb n (by rw [hn]; rfl))
  have HN := Lib.hid hn
  have HLN : Hid ((ownOf 0 L).length ≤ 300 ∧ (ownOf 1 L).length ≤ 300) := Lib.hid (by
    unfold ownOf
    rw [List.length_map, List.length_map]
    exact ⟨Nat.le_trans (List.length_filter_le _ _) hL, Nat.le_trans (List.length_filter_le _ _) hL⟩)
  have HT1 := Lib.hid (fun V hV => pthose_any (fun y => y.bind == 0) (enters_of (f := 17) Try.func17 (by kernel_rfl) rfl) ch1_any A c L V hV (by omega))
  have HT2 := Lib.hid (fun V hV => pthose_any (fun y => y.bind == 1) (enters_of (f := 18) Try.func18 (by kernel_rfl) rfl) ch2_any A c L V hV (by omega))
  obtain ⟨w0, hw0⟩ : ∃ w0, w0 = w.alloc (f2box 38 p s) := ⟨_, rfl⟩
  have HP : Hid (F2 38 w0 w.heap.size p s) := Lib.hid (by rw [hw0]; exact F2.new w _ p s)
  have hB0 : Below w.heap.size w w0 := by rw [hw0]; exact (Below.refl _ _).alloc (Nat.le_refl _) _
  have HB0 := Lib.hid hB0
  have HE := Lib.hid (hE.later hB0)
  have HW0 := Lib.hid hw0
  clear hgr hn hw0 hB0 hE
  go_enter Try.func7, Try.ntmps7
  go_wp2_with fail
  rw [← HW0.out]
  refine (HT1.out _ HE.out).mono ?_
  rintro e w1 ⟨AF, cF, rfl, h1⟩
  rw [show ((L.filter fun y => y.bind == 0).map LV.addr) = ownOf 0 L from rfl] at h1 ⊢
  have HE1 := Lib.hid (HE.out.later h1.low)
  have HP1 := Lib.hid (HP.out.later h1.low)
  have HR1 := Lib.hid h1
  clear h1
  go_wp2_with fail
  refine (HT2.out _ HE1.out).mono ?_
  rintro e w2 ⟨AB, cB, rfl, h2⟩
  rw [show ((L.filter fun y => y.bind == 1).map LV.addr) = ownOf 1 L from rfl] at h2 ⊢
  have HP2 := Lib.hid (HP1.out.later h2.low)
  have HR2 := Lib.hid (HR1.out.later h2.low)
  have HR3 := Lib.hid (h2.base HR1.out.low)
  clear h2
  have c0 := HP2.out.c0
  have c1 := HP2.out.c1
  go_wp2_with fail
  refine (HG.out _ _ _).mono ?_
  rintro e w3 ⟨rfl, hb3⟩
  rw [HN.out]
  have HF := Lib.hid (HR2.out.later hb3)
  have HB := Lib.hid (HR3.out.later hb3)
  clear hb3 c0 c1
  by_cases h1 : id = 1
  · have t1 : (id == 1) = true := by rw [h1]; rfl
    have HEX := Lib.hid (HCH.out 1 (.inl ⟨h1, rfl⟩))
    clear h1
    have HSO := Lib.hid (sortA_any (l := ownOf 1 L) HB.out (by have := HLN.out; omega))
    go_wp2_with fail
    refine HSO.out.mono ?_
    rintro e w4 ⟨rfl, h4⟩
    have H4 := Lib.hid h4
    obtain ⟨d, hd⟩ : ∃ d, d = srtA (ownOf 1 L) := ⟨_, rfl⟩
    have hdl : (ownOf 1 L).length = d.length := by rw [hd, (srtA_perm _).length_eq]
    rw [← hd] at H4 HEX
    rw [hdl]
    obtain ⟨hnl, hch⟩ := HEX.out
    obtain ⟨q, hq⟩ : ∃ q, q = d.length - n := ⟨_, rfl⟩
    have eq : (d.length : Int) - (n : Int) = (q : Int) := by omega
    rw [← hq] at hch
    have hh2 : ∀ W, (Instr.slice 41 (.slice AB d.length cB) (some (.int .i64 (q : Int))) none none).run Try.prog W = .ok (.slice (if cB = q then AB else (AB : Option Addr).map (·.add (q * ElemA.m))) (d.length - q) (cB - q)) W := fun W => by
      have := run_tailE ElemA AB d.length cB (q : Int) (by omega) (by omega) W
      rw [Int.toNat_natCast] at this
      exact this
    have HF := Lib.hid (gives_tail HB0.out H4.out (q := q) (by omega))
    rw [← hch] at HF
    generalize (if cB = q then AB else (AB : Option Addr).map (·.add (q * ElemA.m))) = A9 at *
    have hqd : q ≤ d.length := by omega
    have hd3 : d.length ≤ 300 := by have := HLN.out; omega
    have HQ := Lib.hid hq
    clear hch HEX hd hq hnl
    go_wp2
    go_ret
    exact HF.out
  · have t1 : (id == 1) = false := by simpa using h1
    have HEX := Lib.hid (HCH.out 0 (.inr ⟨h1, rfl⟩))
    clear h1
    have HSO := Lib.hid (sortA_any (l := ownOf 0 L) HF.out (by have := HLN.out; omega))
    go_wp2_with fail
    refine HSO.out.mono ?_
    rintro e w4 ⟨rfl, h4⟩
    have H4 := Lib.hid h4
    obtain ⟨d, hd⟩ : ∃ d, d = srtA (ownOf 0 L) := ⟨_, rfl⟩
    have hdl : (ownOf 0 L).length = d.length := by rw [hd, (srtA_perm _).length_eq]
    rw [← hd] at H4 HEX
    rw [hdl]
    obtain ⟨hnl, hch⟩ := HEX.out
    obtain ⟨q, hq⟩ : ∃ q, q = d.length - n := ⟨_, rfl⟩
    have eq : (d.length : Int) - (n : Int) = (q : Int) := by omega
    rw [← hq] at hch
    have hh2 : ∀ W, (Instr.slice 41 (.slice AF d.length cF) (some (.int .i64 (q : Int))) none none).run Try.prog W = .ok (.slice (if cF = q then AF else (AF : Option Addr).map (·.add (q * ElemA.m))) (d.length - q) (cF - q)) W := fun W => by
      have := run_tailE ElemA AF d.length cF (q : Int) (by omega) (by omega) W
      rw [Int.toNat_natCast] at this
      exact this
    have HF := Lib.hid (gives_tail HB0.out H4.out (q := q) (by omega))
    rw [← hch] at HF
    generalize (if cF = q then AF else (AF : Option Addr).map (·.add (q * ElemA.m))) = A9 at *
    have hqd : q ≤ d.length := by omega
    have hd3 : d.length ≤ 300 := by have := HLN.out; omega
    have HQ := Lib.hid hq
    clear hch HEX hd hq hnl
    go_wp2
    go_ret
    exact HF.out
end Go.Proofs.Ytablffjhipgfbaa
end

/- The program's pool is what is asked of one (written ahead of the landing: chosen_any is still to be shown of the landed code, in PooH). -/
section
namespace Go.Proofs.Ytablffjhipgfbaa
theorem plan_any : PoolK where
  giv := fun p s id f b W => gives_any p s id f b W
  cho := fun p s id A c L W hE hL => chosen_any p s id A c L W hE hL
end Go.Proofs.Ytablffjhipgfbaa
end
