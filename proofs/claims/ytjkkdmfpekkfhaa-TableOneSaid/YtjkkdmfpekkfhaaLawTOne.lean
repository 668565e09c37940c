/- The law TableOne, over any table of the program's. -/
import Derived.Test.YtjkkdmfpekkfhaaLawTCli
namespace Go.Proofs.Ytjkkdmfpekkfhaa
open Go.RowKit Go.Sort

/-- All of the first kinds, together. -/
def sumB (L : List LV) : Nat → Nat
  | 0 => 0
  | k + 1 => sumB L k + cntL L (k : Int)
theorem sumB_all {L : List LV} (h : TabL L) : sumB L 6 = L.length := by
  have := cnt_sum h
  show ((((((0 + cntL L 0) + cntL L 1) + cntL L 2) + cntL L 3) + cntL L 4) + cntL L 5) = _
  omega
theorem cnt_le (L : List LV) (q : Int) : cntL L q ≤ L.length := List.countP_le_length
theorem sumB_le (L : List LV) : ∀ k, sumB L k ≤ k * L.length
  | 0 => Nat.zero_le _
  | k + 1 => by
    have h1 := sumB_le L k
    have h2 := cnt_le L (k : Int)
    show sumB L k + cntL L (k : Int) ≤ _
    rw [Nat.succ_mul]
    omega

set_option maxRecDepth 100000 in
set_option maxHeartbeats 8000000 in
theorem law_tone {T : World → (Nat → Prop) → Nat → List LV → Prop} (K : TabK T) (A A2 : Option Addr) (c c2 : Nat) (l : List (Nat × Nat)) (ls : List LV) (w : World) (hR : Rg w w.heap.size A l) (hE : El ElemL w w.heap.size A2 ls) (hl : l.length ≤ 9223372036854775807) (hls : ls.length ≤ 9223372036854775807) (ha : ∀ x ∈ ls, x.addr < 4294967296) :
    Calls Try.prog 6 #[.slice A l.length c, .slice A2 ls.length c2] w fun e w' => e = .returned (.bool true) ∧ Below w.heap.size w w' := by
  have HK := Lib.hid K
  have HR := Lib.hid hR
  have HE := Lib.hid hE
  have HA := Lib.hid ha
  have HAW := Lib.hid (tawake_any K w)
  clear K hR hE ha
  go_enter Try.func6, Try.ntmps6
  go_wp2_with fail
  refine HAW.out.mono ?_
  rintro e w1 ⟨rfl, hB1⟩
  have HB1 := Lib.hid hB1
  have HR1 := Lib.hid ((HR.out.below hB1).more hB1.size)
  have HE1 := Lib.hid (HE.out.later hB1)
  have HLO := Lib.hid (long_any A A2 c c2 l ls w1 w1.heap.size HE1.out hl hls)
  clear hB1
  go_wp2_with fail
  refine HLO.out.mono ?_
  rintro e w1' ⟨rfl, rfl⟩
  cases hlong : longB l ls
  rotate_left
  · clear hlong
    go_wp2
    go_ret
    exact ⟨rfl, HB1.out⟩
  obtain ⟨h50, h200⟩ := long_not hlong
  have HRP := Lib.hid (rpool_any A c l w1 HR1.out (by omega))
  clear hlong
  go_wp2_with fail
  refine HRP.out.mono ?_
  rintro e w2 ⟨ol, code, p, cap, rfl, hres, hRp, hB2⟩
  have HRES := Lib.hid hres
  have HRp := Lib.hid hRp
  have HB2 := Lib.hid (HB1.out.trans (hB2.mono HB1.out.size))
  have HE2 := Lib.hid (HE1.out.later hB2)
  have HM := Lib.hid (made_any HK.out A none c 0 l [] w2 ((HR1.out.below hB2).more hB2.size) (by omega) El.nil (by simp) (fun x hx => by cases hx))
  clear hres hRp hB2
  go_wp2_with fail
  refine HM.out.mono ?_
  rintro e w3 (⟨om, code2, hc, hres2, rfl, hB3⟩ | ⟨om, P, g, gr, v, L, hres2, rfl, HL, hT⟩)
  · obtain ⟨rfl, rfl⟩ := res_agree hres2 HRES.out
    have hd : (code2 != 0) = true := by simpa using hc
    have HB3 := Lib.hid (HB2.out.trans (hB3.mono HB2.out.size))
    clear hc hres2 hB3
    go_wp2
    go_ret
    exact ⟨rfl, HB3.out⟩
  obtain ⟨rfl, rfl⟩ := res_agree hres2 HRES.out
  obtain ⟨hcan, h256⟩ := ref_can HRES.out rfl
  have HCAN := Lib.hid hcan
  obtain ⟨ks, hks⟩ : ∃ ks, ks = addrsOf om := ⟨_, rfl⟩
  have HKS := Lib.hid hks
  have hkl : ks.length ≤ 256 := by rw [hks]; exact h256
  have HLk : Hid (L = newL ks) := Lib.hid (by rw [HL.out, hks]; rfl)
  have hLn : L.length = ks.length := by rw [HLk.out]; simp [newL]
  have HLN := Lib.hid hLn
  have hlow := hT.low
  have HT := Lib.hid hT
  have HB3 := Lib.hid (HB2.out.trans (hlow.mono HB2.out.size))
  have HE3 := Lib.hid (HE2.out.below hlow)
  have hol : om.length ≤ 256 := Nat.le_trans (canon_len om hcan) h256
  have HCNT := rcount_any p cap om w3 ((HRp.out.below hlow).more hlow.size) HCAN.out.val (by omega) h256
  rw [← hks] at HCNT
  have HCNT := Lib.hid HCNT
  clear hres2 hcan h256 hks hLn hT hlow
  go_wp2_with fail
  refine HCNT.out.mono ?_
  rintro e w4 ⟨rfl, n4, rfl⟩
  obtain ⟨w4, hw4⟩ : ∃ w4, w4 = w3.drewN n4 := ⟨_, rfl⟩
  rw [← hw4]
  have hB4 : Below w3.heap.size w3 w4 := by rw [hw4]; exact drewN_below w3 n4
  have HT4 := Lib.hid (HT.out.later HK.out hB4)
  have HB4 := Lib.hid (HB3.out.trans (hB4.mono HB3.out.size))
  have HC0 := HK.out.cnt 0 HT4.out.t
  rw [show (cntL L 0 : Nat) = ks.length from by rw [HLk.out]; exact cnt_new ks] at HC0
  have HC0 := Lib.hid HC0
  have hne : ((ks.length : Int) != (ks.length : Int)) = false := by simp
  clear hw4 hB4 HCNT
  go_wp2_with fail
  refine HC0.out.mono ?_
  rintro e w5 ⟨rfl, hB5⟩
  have HT5 := Lib.hid (HT4.out.later HK.out hB5)
  have HB5 := Lib.hid (HB4.out.trans (hB5.mono HB4.out.size))
  have HALL := Lib.hid (HK.out.all' HT5.out.t)
  clear hB5 HC0
  go_wp2_with fail
  refine HALL.out.mono ?_
  rintro e w6 ⟨A6, k6, l6, rfl, HL6, hE6, hk6, hB6⟩
  have HT6 := Lib.hid (HT5.out.later HK.out hB6)
  have HB6 := Lib.hid (HB5.out.trans (hB6.mono HB5.out.size))
  have hne2 : ((l6.length : Int) != (ks.length : Int)) = false := by rw [HL6.out, HLN.out]; simp
  clear hE6 hk6 hB6 HALL
  go_wp2
  clear hne hne2
  go_loopw [13] (fun i wr => ∃ (j : Nat) (P' : Nat → Prop) (L' : List LV), j ≤ ls.length ∧ i = .int .i64 j ∧ Hid (L'.length = ks.length) ∧ Hid (Two2 T w2 wr P' g gr v L' L)) (fun i _ => ls.length - (intOf i).toNat)
  case atStart => exact ⟨0, P, L, Nat.zero_le _, rfl, HLN, HT6⟩
  case round =>
    obtain ⟨j, P', L', hj, rfl, HLn, HW⟩ := hrel
    by_cases hlt : j < ls.length
    · obtain ⟨x, hx⟩ : ∃ x, ls[j]? = some x := ⟨_, List.getElem?_eq_getElem hlt⟩
      obtain ⟨b, o, rfl, hb, x0, x1, x2, x3, x4, x5, x6, x7⟩ := (HE2.out.below HW.out.low).at8 j x hx
      have HS := Lib.hid (HK.out.set x HW.out.t (HA.out x (List.mem_of_getElem? hx)))
      have HSL := Lib.hid (setL_length L' x)
      clear hx
      go_wp2_with fail
      refine HS.out.mono ?_
      rintro e w7 ⟨P2, rfl, hT7, hO7, hP7⟩
      have HT7 := Lib.hid (HW.out.first hT7 hO7 hP7)
      clear x0 x1 x2 x3 x4 x5 x6 x7 hT7 hO7 hP7
      go_wp2
      go_roundw
      case rel => exact ⟨j + 1, P2, (setL L' x).1, by omega, by go_num, Lib.hid (by rw [HSL.out, HLn.out]), HT7⟩
      case measure => simp [intOf]; omega
    · obtain rfl : j = ls.length := by omega
      have HALL := Lib.hid (HK.out.all' HW.out.t)
      have HTAB := Lib.hid (HK.out.tab HW.out.t)
      have HBW := Lib.hid (HB2.out.trans (HW.out.low.mono HB2.out.size))
      go_wp2_with fail
      refine HALL.out.mono ?_
      rintro e w8 ⟨A8, k8, l8, rfl, HL8, hE8, hk8, hB8⟩
      have HE8 := Lib.hid hE8
      have HT8 := Lib.hid (HK.out.later HW.out.t hB8)
      have HB8 := Lib.hid (HBW.out.trans (hB8.mono HBW.out.size))
      have hl8 : l8.length ≤ 256 := by rw [HL8.out, HLn.out]; exact hkl
      clear hE8 hB8
      go_wp2
      go_loopw [15, 16, 17, 18, 19] (fun sum bi _ _ _ wr => ∃ k s : Nat, k ≤ 6 ∧ bi = .int .i64 k ∧ sum = .int .i64 s ∧ s ≤ 2000 ∧ Hid (s = sumB L' k) ∧ Hid (Below w8.heap.size w8 wr)) (fun _ bi _ _ _ _ => 6 - (intOf bi).toNat)
      case atStart => exact ⟨0, 0, Nat.zero_le _, rfl, rfl, Nat.zero_le _, Lib.hid rfl, Lib.hid (Below.refl _ _)⟩
      case round =>
        obtain ⟨k, s, hk, rfl, rfl, hs, HSU, HBr⟩ := hrel
        by_cases hk5 : (k : Int) ≤ 5
        · have hd : decide ((k : Int) ≤ 5) = true := decide_eq_true hk5
          have HC := HK.out.cnt (k : Int) (HK.out.later HT8.out HBr.out)
          obtain ⟨cn, hcn⟩ : ∃ cn, cn = cntL L' (k : Int) := ⟨_, rfl⟩
          have hcl : cn ≤ 256 := by rw [hcn]; exact Nat.le_trans (cnt_le L' _) (by rw [HLn.out]; exact hkl)
          rw [← hcn] at HC
          have HC := Lib.hid HC
          have HCN := Lib.hid hcn
          have hsl : s + cn ≤ 2000 := by
            have h1 := sumB_le L' (k + 1)
            have h2 : sumB L' (k + 1) = s + cn := by show sumB L' k + cntL L' (k : Int) = _; rw [← HSU.out, ← hcn]
            rw [h2, HLn.out] at h1
            have h3 : (k + 1) * ks.length ≤ 6 * 256 := Nat.mul_le_mul (by omega) hkl
            omega
          clear hcn
          go_wp2_with fail
          refine HC.out.mono ?_
          rintro e w9 ⟨rfl, hB9⟩
          have HB9 := Lib.hid (HBr.out.trans (hB9.mono HBr.out.size))
          have HF := HK.out.fst (k : Int) (HK.out.later HT8.out HB9.out)
          clear hB9 HC
          cases hf : fstL L' (k : Int) with
          | none =>
            rw [hf] at HF
            have HF := Lib.hid (show Calls Try.prog 13 #[.pointer (some ⟨g, 0, none⟩), .int .i64 (k : Int)] w9 fun e w' => e = .returned (.tuple #[.int .u32 0, .bool false]) ∧ Below w9.heap.size w9 w' from HF)
            have hc0 : decide (0 < cn) = false := by
              have := fst_cnt L' (k : Int)
              rw [hf, ← HCN.out] at this
              exact this.symm
            clear hf
            go_wp2_with fail
            refine HF.out.mono ?_
            rintro e w10 ⟨rfl, hB10⟩
            have HB10 := Lib.hid (HB9.out.trans (hB10.mono HB9.out.size))
            have HC2 := HK.out.cnt (k : Int) (HK.out.later HT8.out HB10.out)
            rw [← HCN.out] at HC2
            have HC2 := Lib.hid HC2
            clear hB10 HF
            go_wp2
            go_loopw [19] (fun i wx => i = .int .i64 0 ∧ wx = w10) (fun _ _ => 0)
            case atStart => exact ⟨rfl, rfl⟩
            case round =>
              obtain ⟨rfl, rfl⟩ := hrel
              by_cases hz : 0 < l8.length
              · have hz' : decide (0 < l8.length) = true := decide_eq_true hz
                clear hz
                go_wp2_with fail
                refine HC2.out.mono ?_
                rintro e w11 ⟨rfl, hB11⟩
                have HB11 := Lib.hid (HB10.out.trans (hB11.mono HB10.out.size))
                clear hB11
                go_wp2
                refine ⟨?rel, ?measure⟩
                case rel => exact ⟨k + 1, s + cn, by omega, by go_num, by go_num, hsl, Lib.hid (by show s + cn = sumB L' k + cntL L' (k : Int); rw [← HSU.out, ← HCN.out]), HB11⟩
                case measure => simp [intOf]; omega
              · have hz' : decide (0 < l8.length) = false := decide_eq_false hz
                clear hz
                go_wp2_with fail
                refine HC2.out.mono ?_
                rintro e w11 ⟨rfl, hB11⟩
                have HB11 := Lib.hid (HB10.out.trans (hB11.mono HB10.out.size))
                clear hB11
                go_wp2
                refine ⟨?rel, ?measure⟩
                case rel => exact ⟨k + 1, s + cn, by omega, by go_num, by go_num, hsl, Lib.hid (by show s + cn = sumB L' k + cntL L' (k : Int); rw [← HSU.out, ← HCN.out]), HB11⟩
                case measure => simp [intOf]; omega
          | some fa =>
            rw [hf] at HF
            have HF := Lib.hid (show Calls Try.prog 13 #[.pointer (some ⟨g, 0, none⟩), .int .i64 (k : Int)] w9 fun e w' => e = .returned (.tuple #[.int .u32 (fa : Int), .bool true]) ∧ Below w9.heap.size w9 w' from HF)
            have hc0 : decide (0 < cn) = true := by
              have := fst_cnt L' (k : Int)
              rw [hf, ← HCN.out] at this
              exact this.symm
            have HLEAST := Lib.hid (fst_least HTAB.out hf)
            clear hf
            go_wp2_with fail
            refine HF.out.mono ?_
            rintro e w10 ⟨rfl, hB10⟩
            have HB10 := Lib.hid (HB9.out.trans (hB10.mono HB9.out.size))
            have HC2 := HK.out.cnt (k : Int) (HK.out.later HT8.out HB10.out)
            rw [← HCN.out] at HC2
            have HC2 := Lib.hid HC2
            have HE10 := Lib.hid (HE8.out.below HB10.out)
            clear hB10 HF
            go_wp2
            go_loopw [19] (fun i wx => ∃ q : Nat, q ≤ l8.length ∧ i = .int .i64 q ∧ wx = w10) (fun i _ => l8.length - (intOf i).toNat)
            case atStart => exact ⟨0, Nat.zero_le _, rfl, rfl⟩
            case round =>
              obtain ⟨q, hq, rfl, rfl⟩ := hrel
              by_cases hql : q < l8.length
              · have hz' : decide (q < l8.length) = true := decide_eq_true hql
                obtain ⟨y, hy⟩ : ∃ y, l8[q]? = some y := ⟨_, List.getElem?_eq_getElem hql⟩
                obtain ⟨b, o, rfl, hb, y0, y1, -⟩ := HE10.out.at8 q y hy
                have hmem : y ∈ L' := by rw [← HL8.out]; exact List.mem_of_getElem? hy
                by_cases hyb : y.bind = (k : Int)
                · have hb1 : (y.bind == (k : Int)) = true := by simpa using hyb
                  have hb2 : decide (y.addr < fa) = false := by
                    have := HLEAST.out y hmem hyb
                    exact decide_eq_false (by omega)
                  clear hy hmem hyb
                  go_wp2
                  go_roundw
                  case rel => exact ⟨q + 1, by omega, by go_num, by first | rfl | trivial⟩
                  case measure => simp [intOf]; omega
                · have hb1 : (y.bind == (k : Int)) = false := by simpa using hyb
                  clear hy hmem hyb
                  go_wp2
                  go_roundw
                  case rel => exact ⟨q + 1, by omega, by go_num, by first | rfl | trivial⟩
                  case measure => simp [intOf]; omega
              · have hz' : decide (q < l8.length) = false := decide_eq_false hql
                go_wp2_with fail
                refine HC2.out.mono ?_
                rintro e w11 ⟨rfl, hB11⟩
                have HB11 := Lib.hid (HB10.out.trans (hB11.mono HB10.out.size))
                clear hB11
                go_wp2
                refine ⟨?rel, ?measure⟩
                case rel => exact ⟨k + 1, s + cn, by omega, by go_num, by go_num, hsl, Lib.hid (by show s + cn = sumB L' k + cntL L' (k : Int); rw [← HSU.out, ← HCN.out]), HB11⟩
                case measure => simp [intOf]; omega
        · obtain rfl : k = 6 := by omega
          have hd : decide (((6 : Nat) : Int) ≤ 5) = false := by decide
          have hfin : ((s : Int) == (ks.length : Int)) = true := by rw [HSU.out, sumB_all HTAB.out, HLn.out]; simp
          go_wp2
          go_ret
          exact ⟨by simp, HB8.out.trans (HBr.out.mono HB8.out.size)⟩
end Go.Proofs.Ytjkkdmfpekkfhaa
