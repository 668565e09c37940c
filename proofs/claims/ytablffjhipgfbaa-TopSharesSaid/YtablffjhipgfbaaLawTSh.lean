/- The law TopShares, walked, over any table (TabK) and any pool (PoolK). -/
import Derived.Test.YtablffjhipgfbaaMrgTopP
namespace Go.Proofs.Ytablffjhipgfbaa
open Go.RowKit Go.Sort
attribute [local go_sem] run_store_flt

theorem Arr6.congr {w : World} {g : Nat} {f f' : Nat → Int} (h : Arr6 w g f) (he : ∀ k, k < 6 → f k = f' k) : Arr6 w g f' := by
  obtain ⟨cs, h1, h2⟩ := h.ex
  exact ⟨cs, h1, fun k hk => by rw [h2 k hk, he k hk]⟩
theorem drew_ofT {w w' : World} (h : Below w.drew.heap.size w.drew w') : Below w.heap.size w w' := ⟨h.os, h.tape, h.output, h.size, h.block⟩

set_option maxRecDepth 100000 in
set_option maxHeartbeats 16000000 in
theorem law_tshares {T : World → (Nat → Prop) → Nat → List LV → Prop} (K : TabK T) (KP : PoolK) (p s : Nat) (A : Option Addr) (c : Nat) (ls : List LV) (w : World) (hE : El ElemL w w.heap.size A ls) (ha : ∀ x ∈ ls, x.addr < 4294967296) : Calls Try.prog 3 #[f2v p s, .slice A ls.length c] w fun e w' => e = .returned (.bool true) ∧ Below w.heap.size w w' := by
  have HK := Lib.hid K
  have HKP := Lib.hid KP
  have H32 := Lib.hid ha
  obtain ⟨w0, hw0⟩ : ∃ w0, w0 = w.alloc (f2box 23 p s) := ⟨_, rfl⟩
  have HX : Hid (F2 23 w0 w.heap.size p s) := Lib.hid (by rw [hw0]; exact F2.new w _ p s)
  have hb0 : Below w.heap.size w w0 := by rw [hw0]; exact (Below.refl _ _).alloc (Nat.le_refl _) _
  have HB := Lib.hid hb0
  have HE := Lib.hid ((hE.below hb0).more hb0.size)
  have HW0 := Lib.hid hw0
  have HNEW : Hid (Calls Try.prog 4 #[.slice (some ⟨w0.heap.size, 0, none⟩) 1 1] (w0.alloc (.cells #[.int .u32 1, .int .u32 20] 32)) fun e w' => ∃ P g M, e = .returned (.tuple #[.pointer (some ⟨g, 0, none⟩), .int .i64 0]) ∧ T w' P g M ∧ (∀ k, P k → w0.heap.size ≤ k) ∧ Below w0.heap.size w0 w') := Lib.hid ((HK.out.new (some ⟨w0.heap.size, 0, none⟩) 1 [(1, 20)] _ (one_rg w0) (by decide)).mono (by
    rintro e w' ⟨ol, code, hres, hb, h⟩
    have hlo : w0.heap.size ≤ (w0.alloc (.cells #[.int .u32 1, .int .u32 20] 32)).heap.size := by simp
    have hb2 : Below w0.heap.size w0 w' := ((Below.refl _ _).alloc (Nat.le_refl _) _).trans (hb.mono hlo)
    rcases h with ⟨h1, _⟩ | ⟨_, P, g, M, he, _, hT, hP⟩
    · exact absurd (new_code rfl hres) h1
    · exact ⟨P, g, M, he, hT, fun k hk => Nat.le_trans hlo (hP k hk), hb2⟩))
  clear hw0 hb0 hE K KP ha
  go_enter Try.func3, Try.ntmps3
  go_upto_region 1 with fail
  rw [← HW0.out]
  go_wp2_with fail
  refine HNEW.out.mono ?_
  rintro e w1 ⟨P, g, M, rfl, hT1, hP1, hb1⟩
  have HT1 := Lib.hid hT1
  have HP1 := Lib.hid hP1
  have HB1 := Lib.hid hb1
  have HX1 := Lib.hid (HX.out.later hb1)
  have HE1 := Lib.hid ((HE.out.below hb1).more hb1.size)
  clear hT1 hP1 hb1
  go_wp2
  go_loopw [7] (fun i wr => ∃ (j : Nat) (P : Nat → Prop) (M : List LV), j ≤ ls.length ∧ i = .int .i64 j ∧ Hid (T wr P g M) ∧ Hid (∀ k, P k → w0.heap.size ≤ k) ∧ Hid (Below w0.heap.size w0 wr)) (fun i _ => ls.length - (intOf i).toNat)
  case atStart => exact ⟨0, P, M, Nat.zero_le _, rfl, HT1, HP1, HB1⟩
  case round =>
    obtain ⟨j, P, M, hj, rfl, HT, HPl, HBr⟩ := hrel
    by_cases hlt : j < ls.length
    · by_cases h100 : j < 100
      · obtain ⟨x, hx⟩ : ∃ x, ls[j]? = some x := ⟨_, List.getElem?_eq_getElem hlt⟩
        obtain ⟨bb, o, rfl, hbb, x0, x1, x2, x3, x4, x5, x6, x7⟩ := (HE.out.below HBr.out).at8 j x hx
        have hx32 := H32.out x (List.mem_of_getElem? hx)
        have HS := Lib.hid (HK.out.set x HT.out hx32)
        have hcs := x.cb_size
        clear hx
        by_cases hl : 100 < x.client.length
        · have hd : decide ((100 : Int) < (x.cb.size : Int)) = true := by simp; omega
          clear hl hcs
          go_wp2
          go_ret
          exact ⟨rfl, HB.out.trans (HBr.out.mono HB.out.size)⟩
        · have hd : decide ((100 : Int) < (x.cb.size : Int)) = false := by simp; omega
          clear hl hcs
          go_wp2_with fail
          refine HS.out.mono ?_
          rintro e w2 ⟨P', rfl, hT2, hO2, hP2⟩
          have HP2 : Hid (∀ k, P' k → w0.heap.size ≤ k) := Lib.hid (fun k hk => (hP2 k hk).elim (HPl.out k) (fun h => Nat.le_trans HBr.out.size h))
          have HB2 := Lib.hid (hO2.below HPl.out HBr.out)
          have HT2 := Lib.hid hT2
          clear hT2 hO2 hP2
          go_wp2
          go_roundw
          case rel => exact ⟨j + 1, P', _, by omega, by go_num, HT2, HP2, HB2⟩
          case measure => simp [intOf]; omega
      · have HXr := Lib.hid (HX.out.later HBr.out)
        have x0 := HXr.out.c0
        have x1 := HXr.out.c1
        obtain ⟨w3, hw3⟩ : ∃ w3, w3 = (wr.alloc (f2box 38 p s)).alloc (.cells #[.int .i64 0, .int .i64 0, .int .i64 0, .int .i64 0, .int .i64 0, .int .i64 0] 39) := ⟨_, rfl⟩
        have hb3 : Below wr.heap.size wr w3 := by rw [hw3]; exact ((Below.refl _ _).alloc (Nat.le_refl _) _).alloc (by simp) _
        have HF3 : Hid (F2 38 w3 wr.heap.size p s) := Lib.hid (by rw [hw3]; exact (F2.new wr _ p s).alloc _)
        have HA3 : Hid (Arr6 w3 (wr.heap.size + 1) fun _ => 0) := Lib.hid (by
          rw [hw3]
          have h := Arr6.new (wr.alloc (f2box 38 p s))
          rw [show (wr.alloc (f2box 38 p s)).heap.size = wr.heap.size + 1 by simp] at h
          exact h)
        have HT3 := Lib.hid (HK.out.later HT.out hb3)
        have HNp : Hid (¬ P wr.heap.size) := Lib.hid (fun h => by have := HK.out.lt HT.out _ h; omega)
        have HNh : Hid (¬ P (wr.heap.size + 1)) := Lib.hid (fun h => by have := HK.out.lt HT.out _ h; omega)
        have HB3 := Lib.hid (HBr.out.trans (hb3.mono HBr.out.size))
        have HGB := Lib.hid HBr.out.size
        have HW3 := Lib.hid hw3
        have HM256 := Lib.hid (HK.out.few HT.out)
        clear hw3 hb3
        go_upto_region 12 with fail
        rw [← HW3.out]
        clear HT HBr HXr x0 x1 HW3
        generalize wr.heap.size = gp at *
        clear HT1 HP1 HB1 HX1 HE1
        go_wp2
        go_loopw [10] (fun i wr => ∃ j : Nat, 2 ≤ j ∧ j ≤ 6 ∧ i = .int .i64 j ∧ Hid (T wr P g M) ∧ Hid (F2 38 wr gp p s) ∧ Hid (Arr6 wr (gp + 1) fun k => if 2 ≤ k ∧ k < j then (cntL M (k : Int) : Int) else 0) ∧ Hid (Below w0.heap.size w0 wr)) (fun i _ => 6 - (intOf i).toNat)
        case atStart => exact ⟨2, by omega, by omega, rfl, HT3, HF3, Lib.hid (HA3.out.congr fun k _ => by rw [if_neg (by omega)]), HB3⟩
        case round =>
          obtain ⟨j2, hj2, hj6, rfl, HT4, HF4, HA4, HB4⟩ := hrel
          by_cases hl6 : j2 < 6
          · have HCN := Lib.hid (HK.out.cnt (j2 : Int) HT4.out)
            go_wp2_with fail
            refine HCN.out.mono ?_
            rintro e w5 ⟨rfl, hb5⟩
            have HA5 := Lib.hid (HA4.out.later hb5)
            have HF5 := Lib.hid (HF4.out.later hb5)
            have HT5 := Lib.hid (HK.out.later HT4.out hb5)
            have HB5 := Lib.hid (HB4.out.trans (hb5.mono HB4.out.size))
            have c5 := HA5.out.cell j2 hl6
            have f5 := HA5.out.free j2
            clear hb5
            go_wp2
            go_roundw
            case rel => exact ⟨j2 + 1, by omega, by omega, by go_num, Lib.hid (HK.out.keep HT5.out (KpT.set w5 (a := ⟨gp + 1, j2, none⟩) HNh.out _)), Lib.hid ((Below.heap_setCell w5 ⟨gp + 1, j2, none⟩ _ gp (Nat.ne_of_lt (Nat.lt_succ_self gp))).trans HF5.out), Lib.hid ((HA5.out.store j2 _).congr fun k _ => by
              show (if k = j2 then (cntL M (j2 : Int) : Int) else if 2 ≤ k ∧ k < j2 then (cntL M (k : Int) : Int) else 0) = _
              by_cases e : k = j2
              · subst e
                rw [if_pos rfl, if_pos (by omega)]
              · rw [if_neg e]
                by_cases e2 : 2 ≤ k ∧ k < j2
                · rw [if_pos e2, if_pos (by omega)]
                · rw [if_neg e2, if_neg (by omega)]), Lib.hid (HB5.out.setCell (p := ⟨gp + 1, j2, none⟩) (by show w0.heap.size ≤ gp + 1; have := HGB.out; omega) _)⟩
            case measure => simp [intOf]; omega
          · have HA6 : Hid (Arr6 wr (gp + 1) fun k => if 2 ≤ k ∧ k < 6 then (cntL M (k : Int) : Int) else 0) := Lib.hid (by rw [show j2 = 6 by omega] at HA4; exact HA4.out)
            obtain ⟨fq, hfq⟩ : ∃ fq : Nat → Int, fq = fun k : Nat => if 2 ≤ k ∧ k < 6 then (cntL M (k : Int) : Int) else 0 := ⟨_, rfl⟩
            have HFQ : Hid (∀ k, 2 ≤ k → k < 6 → fq k = (cntL M (k : Int) : Int)) := Lib.hid (fun k h1 h2 => by rw [hfq]; exact if_pos ⟨h1, h2⟩)
            rw [← hfq] at HA6
            clear hfq
            have HS0 : Hid (StS p s M 0 M) := Lib.hid rfl
            have HNP : Hid (¬ P gp ∧ ¬ P (gp + 1)) := Lib.hid ⟨HNp.out, HNh.out⟩
            go_wp2
            clear HT3 HF3 HA3 HB3 HA4 HNp HNh
            go_loopw [11, 12, 13, 14, 15, 16] (fun idv _ _ _ _ _ wr => ∃ (i : Nat) (P : Nat → Prop) (X : List LV), i ≤ 2 ∧ idv = .int .i64 i ∧ Hid (T wr P g X) ∧ Hid (F2 38 wr gp p s) ∧ Hid (Arr6 wr (gp + 1) fq) ∧ Hid (StS p s M i X) ∧ Hid (¬ P gp ∧ ¬ P (gp + 1)) ∧ Hid (∀ k, P k → w0.heap.size ≤ k) ∧ Hid (Below w0.heap.size w0 wr)) (fun idv _ _ _ _ _ _ => 2 - (intOf idv).toNat)
            case atStart => exact ⟨0, P, M, by omega, rfl, HT4, HF4, HA6, HS0, HNP, HPl, HB4⟩
            case round =>
              obtain ⟨i, P, X, hi2, rfl, HT7, HF7, HA7, HS7, HNP7, HPl7, HB7⟩ := hrel
              by_cases hi : i < 2
              · have hid : (i : Int) = 0 ∨ (i : Int) = 1 := by omega
                have HTAB := Lib.hid (HK.out.tab HT7.out)
                have HLEN : Hid (X.length ≤ 300) := Lib.hid (by have := HK.out.few HT7.out; omega)
                have HALL := Lib.hid (fun (W : World) (hb : Below wr.heap.size wr W) => HK.out.all (HK.out.later HT7.out hb))
                have HS2 : Hid (∀ W, Below wr.heap.size wr W → W.cell? ⟨gp, 0, none⟩ = some (.float .f64 p) ∧ W.cell? ⟨gp, 1, none⟩ = some (.float .f64 s)) := Lib.hid (fun W hb => ⟨(HF7.out.later hb).c0, (HF7.out.later hb).c1⟩)
                have HID := Lib.hid hid
                have hi2' : decide ((i : Int) < 2) = true := by simp; omega
                clear hid
                go_upto_region 19 with fail
                go_region_held3 (fun w' => w'.cell? ⟨gp, 0, none⟩ = some (.float .f64 p) ∧ w'.cell? ⟨gp, 1, none⟩ = some (.float .f64 s))
                  (first | with_reducible exact HS2.out _ (Below.refl _ _).drew | with_reducible exact HS2.out _ hxb | with_reducible exact HS2.out _ hxa)
                  (first
                    | (go_at_call 8; (with_reducible refine (HALL.out _ (Below.refl _ _).drew).mono ?_); rintro e wa ⟨Aa, ca, la, rfl, HLa, hRa, -⟩; have hxa : Below wr.heap.size wr wa := drew_ofT hRa.low; have hEa : El ElemL wa wa.heap.size Aa la := El.of_own hRa.own; have hla : la.length ≤ 300 := (by rw [HLa.out]; exact HLEN.out))
                    | (go_at_call 7; (with_reducible refine (HKP.out.cho p s _ Aa ca la wa hEa hla).mono ?_); rintro e wb ⟨Ab, cb, rfl, -, hEb, hNb, hlb⟩; have hxb : Below wr.heap.size wr wb := hxa.trans (hlb.mono hxa.size)))
                have HXS : Hid (chV p s (i : Int) la = chV p s (i : Int) X) := Lib.hid (by rw [HLa.out])
                generalize chV p s (i : Int) la = xs at *
                have HT8 := Lib.hid (HK.out.later HT7.out hxb)
                have HF8 := Lib.hid (HF7.out.later hxb)
                have HA8 := Lib.hid (HA7.out.later hxb)
                have HB8 := Lib.hid (HB7.out.trans (hxb.mono HB7.out.size))
                have HE8 := Lib.hid hEb
                have HN8 : Hid (¬ P gp ∧ ¬ P (gp + 1) ∧ ∀ ad, Ab = some ad → ¬ P ad.block) := Lib.hid ⟨HNP7.out.1, HNP7.out.2, fun ad h hp => by have h1 := hNb ad h; have h2 := HK.out.lt HT7.out _ hp; have h3 := hxa.size; omega⟩
                have HCM := Lib.hid (ch_mem (p := p) (s := s) HID.out HTAB.out)
                rw [← HXS.out] at HCM
                have HG8 := Lib.hid (Giving.start HTAB.out HCM.out.2)
                have HXL : Hid (xs.length ≤ 256) := Lib.hid (by
                  rw [HXS.out]
                  obtain ⟨n, hn⟩ := ch_own (p := p) (s := s) (L := X) HID.out
                  rw [hn]
                  unfold topA
                  rw [List.length_drop, ownA_length]
                  have h1 := List.countP_le_length (p := fun y : LV => y.bind == (i : Int)) (l := X)
                  have h2 := HK.out.few HT7.out
                  omega)
                have hxl := HXL.out
                clear hEa hla hRa hEb hNb hlb hxa hxb
                go_wp2
                clear HALL HS2 HT7 HF7 HA7 HB7
                have HBZ : Hid (wb.heap.size ≤ wb.heap.size) := Lib.hid (Nat.le_refl _)
                go_loopw [13, 14, 15, 16] (fun iv _ _ _ wr => ∃ (j : Nat) (P' : Nat → Prop) (X' : List LV), j ≤ xs.length ∧ iv = .int .i64 j ∧ Hid (T wr P' g X') ∧ Hid (Giving (i : Int) X xs j X') ∧ Hid (F2 38 wr gp p s) ∧ Hid (Arr6 wr (gp + 1) fq) ∧ Hid (El ElemA wr wb.heap.size Ab xs) ∧ Hid (¬ P' gp ∧ ¬ P' (gp + 1) ∧ ∀ ad, Ab = some ad → ¬ P' ad.block) ∧ Hid (∀ k, P' k → w0.heap.size ≤ k) ∧ Hid (Below w0.heap.size w0 wr) ∧ Hid (wb.heap.size ≤ wr.heap.size)) (fun iv _ _ _ _ => xs.length - (intOf iv).toNat)
                case atStart => exact ⟨0, P, X, Nat.zero_le _, rfl, HT8, HG8, HF8, HA8, HE8, HN8, HPl7, HB8, HBZ⟩
                case round =>
                  obtain ⟨j3, P', X', hj3, rfl, HT9, HG9, HF9, HA9, HE9, HN9, HP9, HB9, HZ9⟩ := hrel
                  by_cases hl3 : j3 < xs.length
                  · obtain ⟨a, ha⟩ : ∃ a, xs[j3]? = some a := ⟨_, List.getElem?_eq_getElem hl3⟩
                    have hm := HG9.out.moved HID.out ha
                    obtain ⟨x, hgx, hxb, hxr⟩ := hm.get
                    have ha32 : a < 4294967296 := by
                      obtain ⟨y, hy, hya, _⟩ := HG9.out.rest a (by
                        rw [List.drop_eq_getElem_cons (List.getElem?_eq_some_iff.1 ha).1, (List.getElem?_eq_some_iff.1 ha).2]
                        exact List.mem_cons_self)
                      have := HK.out.w32 HT9.out y hy
                      omega
                    have HGET := Lib.hid (HK.out.get a HT9.out ha32)
                    rw [hgx] at HGET
                    have hgv : gvL (1 - (i : Int)) X' a = bareL a (1 - (i : Int)) x.ver := by unfold gvL; rw [hgx]
                    have HSET := Lib.hid (fun (W : World) (hb : Below wr.heap.size wr W) => HK.out.set (bareL a (1 - (i : Int)) x.ver) (HK.out.later HT9.out hb) ha32)
                    have hok := hm.ok
                    rw [hgv] at hok
                    rw [hok] at HSET
                    have HMV : Hid ((setL X' (bareL a (1 - (i : Int)) x.ver)).1 = mvL (1 - (i : Int)) X' a) := Lib.hid (by unfold mvL; rw [hgv])
                    rw [HMV.out] at HSET
                    have HNX := Lib.hid (HG9.out.next HID.out ha HCM.out.1)
                    have HEV := Lib.hid (fun (W : World) (hb : Below wr.heap.size wr W) => (((HE9.out.more HZ9.out).below hb).at1 j3 a ha))
                    obtain ⟨b9, o9, e9, hb9, ca⟩ := HE9.out.at1 j3 a ha
                    have HXB : Hid ((x.bind != (i : Int)) = false) := Lib.hid (by rw [hxb]; simp)
                    have HAD := Lib.hid ha
                    have HE9e := Lib.hid e9
                    clear hm hgx hxb hxr hok hgv ha
                    subst e9
                    go_wp2_with fail
                    refine HGET.out.mono ?_
                    rintro e w6 ⟨rfl, hb6⟩
                    obtain ⟨w7, hw7⟩ : ∃ w7, w7 = w6.alloc (lbox x) := ⟨_, rfl⟩
                    have hb7 : Below wr.heap.size wr w7 := by rw [hw7]; exact hb6.alloc hb6.size _
                    have HL7 : Hid (LBox w7 w6.heap.size x) := Lib.hid (by rw [hw7]; exact LBox.new w6 x)
                    have HB7 := Lib.hid hb7
                    have HLO : Hid (¬ P' w6.heap.size) := Lib.hid (fun h => by have h1 := HK.out.lt HT9.out _ h; have h2 := hb6.size; omega)
                    have HW7 := Lib.hid hw7
                    clear hw7 hb7 hb6 ca
                    go_upto_region 24 with fail
                    rw [← HW7.out]
                    generalize w6.heap.size = gl at *
                    clear HW7
                    obtain ⟨b9', o9', e9', -, ca⟩ := HEV.out w7 HB7.out
                    injection e9' with e9'
                    injection e9' with e9' e10 _
                    subst e9' e10
                    obtain ⟨c0, c1, c2', c3, c4, c5, c6, c7⟩ := HL7.out.all
                    have hwi : IntKind.i64.wrap (1 - (i : Int)) = 1 - (i : Int) := by simp [IntKind.wrap, IntKind.bits, IntKind.signed]; omega
                    go_still_tail 10, (by kernel_rfl)
                    obtain ⟨w8, hw8⟩ : ∃ w8, w8 = w7.drew := ⟨_, rfl⟩
                    have HB8' : Hid (Below wr.heap.size wr w8) := Lib.hid (by rw [hw8]; exact HB7.out.drew)
                    have HL8 : Hid (LBox w8 gl x) := Lib.hid (by rw [hw8]; exact HL7.out.drew)
                    change wpList _ _ _ _ _ w7.drew
                    rw [← hw8]
                    clear hw8 c0 c1 c2' c3 c4 c5 c6 c7 ca hwi
                    go_wp2_with fail
                    refine (HSET.out w8 HB8'.out).mono ?_
                    rintro e w9 ⟨P2, rfl, hT10, hO10, hP10⟩
                    have HL10 : Hid (LBox w9 gl x) := Lib.hid ((hO10.block gl HL8.out.lt HLO.out).trans HL8.out)
                    have HT10 := Lib.hid hT10
                    have hsz : wr.heap.size ≤ w9.heap.size := Nat.le_trans HB8'.out.size hO10.size
                    have HF10 := Lib.hid ((HF9.out.later HB8'.out).oth hO10 HN9.out.1)
                    have HA10 := Lib.hid ((HA9.out.later HB8'.out).oth hO10 HN9.out.2.1)
                    have HE10 := Lib.hid ((HE9.out.below (HB8'.out.mono HZ9.out)).othA hO10 (Nat.le_trans HZ9.out HB8'.out.size) HN9.out.2.2)
                    have HN10 : Hid (¬ P2 gp ∧ ¬ P2 (gp + 1) ∧ ∀ ad, some (⟨b9, o9, none⟩ : Addr) = some ad → ¬ P2 ad.block) := Lib.hid (by
                      have hs8 := HB8'.out.size
                      refine ⟨fun h => ?_, fun h => ?_, fun ad had h => ?_⟩
                      · rcases hP10 _ h with h1 | h1
                        · exact HN9.out.1 h1
                        · have := HF9.out.lt; omega
                      · rcases hP10 _ h with h1 | h1
                        · exact HN9.out.2.1 h1
                        · have := HA9.out.lt; omega
                      · rcases hP10 _ h with h1 | h1
                        · exact HN9.out.2.2 ad had h1
                        · injection had with had
                          subst had
                          have := HZ9.out
                          have h2 : w8.heap.size ≤ b9 := h1
                          omega)
                    have HP10 : Hid (∀ k, P2 k → w0.heap.size ≤ k) := Lib.hid (fun k hk => by
                      rcases hP10 k hk with h1 | h1
                      · exact HP9.out k h1
                      · exact Nat.le_trans (Nat.le_trans HB9.out.size HB8'.out.size) h1)
                    have HB10 := Lib.hid (hO10.below HP9.out (HB9.out.trans (HB8'.out.mono HB9.out.size)))
                    have HZ10 : Hid (wb.heap.size ≤ w9.heap.size) := Lib.hid (Nat.le_trans HZ9.out hsz)
                    have hxq := HXB.out
                    have c1 := HL10.out.c1
                    clear hT10 hO10 hP10 hsz
                    go_wp2
                    go_roundw
                    case rel => exact ⟨j3 + 1, P2, _, by omega, by go_num, HT10, HNX, HF10, HA10, HE10, HN10, HP10, HB10, HZ10⟩
                    case measure => simp [intOf]; omega
                  · have HSN : Hid (StS p s M (i + 1) X') := Lib.hid (HS7.out.next hi (by
                      have h := HG9.out
                      rw [show j3 = xs.length by omega] at h
                      rw [← HXS.out]
                      exact h))
                    have HNN : Hid (¬ P' gp ∧ ¬ P' (gp + 1)) := Lib.hid ⟨HN9.out.1, HN9.out.2.1⟩
                    go_wp2
                    go_roundw
                    case rel => exact ⟨i + 1, P', X', by omega, by go_num, HT9, HF9, HA9, HSN, HNN, HP9, HB9⟩
                    case measure => simp [intOf]; omega
              · obtain rfl : i = 2 := by omega
                have hdone : (chV p s 0 X).length = 0 ∧ (chV p s 1 X).length = 0 ∧ ∀ q : Int, 2 ≤ q → cntL X q = cntL M q := by
                  obtain ⟨M1, h1, h2⟩ := HS7.out
                  exact both_done h1 h2 HM256.out
                have HD0 := Lib.hid hdone.1
                have HD1 := Lib.hid hdone.2.1
                have HDQ := Lib.hid hdone.2.2
                clear hdone
                go_wp2
                clear HA6 HT4 HF4 HB4 HS0 HNP
                go_loopw [17] (fun iv wr' => ∃ j : Nat, 2 ≤ j ∧ j ≤ 6 ∧ iv = .int .i64 j ∧ Hid (T wr' P g X) ∧ Hid (F2 38 wr' gp p s) ∧ Hid (Arr6 wr' (gp + 1) fq) ∧ Hid (Below w0.heap.size w0 wr')) (fun iv _ => 6 - (intOf iv).toNat)
                case atStart => exact ⟨2, by omega, by omega, rfl, HT7, HF7, HA7, HB7⟩
                case round =>
                  obtain ⟨j4, hj42, hj46, rfl, HT11, HF11, HA11, HB11⟩ := hrel
                  by_cases hl4 : j4 < 6
                  · have HCN := Lib.hid (fun d os => Calls.regrown_of (HK.out.cnt (j4 : Int) (HK.out.later HT11.out (below_regrown wr d os))))
                    have hcell := cell_regrown (HA11.out.cell j4 hl4)
                    have hq7 : fq j4 = (cntL X (j4 : Int) : Int) := by rw [HFQ.out j4 hj42 hl4, HDQ.out (j4 : Int) (by omega)]
                    rw [hq7] at hcell
                    obtain ⟨n7, hn7⟩ : ∃ n7 : Int, n7 = (cntL X (j4 : Int) : Int) := ⟨_, rfl⟩
                    have HCN2 : Hid (∀ d os, Calls Try.prog 6 #[.pointer (some ⟨g, 0, none⟩), .int .i64 (j4 : Int)] (grow (redrawn wr d) os) fun e w'' => e = .returned (.int .i64 n7) ∧ ∃ q : Regrown, w'' = grow (redrawn wr q.d) q.os) := Lib.hid (fun d os => by rw [hn7]; exact HCN.out d os)
                    rw [← hn7] at hcell
                    have hself : (n7 != n7) = false := by simp
                    clear hq7 hn7 HCN
                    go_upto_region 30 with fail
                    refine wp_region_quiet_below (by kernel_rfl) (by kernel_rfl) ?_
                    repeat (go_big_quiet_step (with_reducible exact HCN2.out _ _))
                    refine wpQuiet_nil ?_
                    intro _ hw'
                    obtain ⟨⟨dq, osq⟩, hw''⟩ := hw'
                    subst hw''
                    have HT12 := Lib.hid (HK.out.later HT11.out (below_regrown wr dq osq))
                    have HF12 := Lib.hid (HF11.out.later (below_regrown wr dq osq))
                    have HA12 := Lib.hid (HA11.out.later (below_regrown wr dq osq))
                    have HB12 := Lib.hid (HB11.out.trans ((below_regrown wr dq osq).mono HB11.out.size))
                    clear hcell hself
                    go_wp2
                    go_roundw
                    case rel => exact ⟨j4 + 1, by omega, by omega, by go_num, HT12, HF12, HA12, HB12⟩
                    case measure => simp [intOf]; omega
                  · have HLEN : Hid (X.length ≤ 300) := Lib.hid (by have := HK.out.few HT11.out; omega)
                    have HALL := Lib.hid (fun (W : World) (hb : Below wr.heap.size wr W) => HK.out.all (HK.out.later HT11.out hb))
                    have HS2 : Hid (∀ W, Below wr.heap.size wr W → W.cell? ⟨gp, 0, none⟩ = some (.float .f64 p) ∧ W.cell? ⟨gp, 1, none⟩ = some (.float .f64 s)) := Lib.hid (fun W hb => ⟨(HF11.out.later hb).c0, (HF11.out.later hb).c1⟩)
                    go_upto_region 32 with fail
                    go_region_held3 (fun w' => w'.cell? ⟨gp, 0, none⟩ = some (.float .f64 p) ∧ w'.cell? ⟨gp, 1, none⟩ = some (.float .f64 s))
                      (first | with_reducible exact HS2.out _ (Below.refl _ _).drew | with_reducible exact HS2.out _ hyd | with_reducible exact HS2.out _ hyc | with_reducible exact HS2.out _ hyb | with_reducible exact HS2.out _ hya)
                      (first
                        | (go_at_call 8; first | ((with_reducible refine (HALL.out _ hyb).mono ?_); rintro e wc ⟨Ac, cc, lc, rfl, HLc, hRc, -⟩; have hyc : Below wr.heap.size wr wc := hyb.trans (hRc.low.mono hyb.size); have hEc : El ElemL wc wc.heap.size Ac lc := El.of_own hRc.own; have hlc : lc.length ≤ 300 := (by rw [HLc.out]; exact HLEN.out)) | ((with_reducible refine (HALL.out _ (Below.refl _ _).drew).mono ?_); rintro e wa ⟨Aa, ca, la, rfl, HLa, hRa, -⟩; have hya : Below wr.heap.size wr wa := drew_ofT hRa.low; have hEa : El ElemL wa wa.heap.size Aa la := El.of_own hRa.own; have hla : la.length ≤ 300 := (by rw [HLa.out]; exact HLEN.out)))
                        | (go_at_call 7; first | ((with_reducible refine (HKP.out.cho p s 1 Ac cc lc wc hEc hlc).mono ?_); rintro e wd ⟨Ad, cd, rfl, -, -, -, hld⟩; have hyd : Below wr.heap.size wr wd := hyc.trans (hld.mono hyc.size); have hz1 : (chV p s 1 lc).length = 0 := (by rw [HLc.out]; exact HD1.out); rw [hz1]; clear hz1) | ((with_reducible refine (HKP.out.cho p s 0 Aa ca la wa hEa hla).mono ?_); rintro e wb ⟨Ab, cb, rfl, -, -, -, hlb⟩; have hyb : Below wr.heap.size wr wb := hya.trans (hlb.mono hya.size); have hz0 : (chV p s 0 la).length = 0 := (by rw [HLa.out]; exact HD0.out); rw [hz0]; clear hz0)))
                    go_wp2
                    go_ret
                    exact ⟨rfl, HB.out.trans ((HB11.out.trans (hyd.mono HB11.out.size)).mono HB.out.size)⟩
    · have HXr := Lib.hid (HX.out.later HBr.out)
      have x0 := HXr.out.c0
      have x1 := HXr.out.c1
      obtain ⟨w3, hw3⟩ : ∃ w3, w3 = (wr.alloc (f2box 38 p s)).alloc (.cells #[.int .i64 0, .int .i64 0, .int .i64 0, .int .i64 0, .int .i64 0, .int .i64 0] 39) := ⟨_, rfl⟩
      have hb3 : Below wr.heap.size wr w3 := by rw [hw3]; exact ((Below.refl _ _).alloc (Nat.le_refl _) _).alloc (by simp) _
      have HF3 : Hid (F2 38 w3 wr.heap.size p s) := Lib.hid (by rw [hw3]; exact (F2.new wr _ p s).alloc _)
      have HA3 : Hid (Arr6 w3 (wr.heap.size + 1) fun _ => 0) := Lib.hid (by
        rw [hw3]
        have h := Arr6.new (wr.alloc (f2box 38 p s))
        rw [show (wr.alloc (f2box 38 p s)).heap.size = wr.heap.size + 1 by simp] at h
        exact h)
      have HT3 := Lib.hid (HK.out.later HT.out hb3)
      have HNp : Hid (¬ P wr.heap.size) := Lib.hid (fun h => by have := HK.out.lt HT.out _ h; omega)
      have HNh : Hid (¬ P (wr.heap.size + 1)) := Lib.hid (fun h => by have := HK.out.lt HT.out _ h; omega)
      have HB3 := Lib.hid (HBr.out.trans (hb3.mono HBr.out.size))
      have HGB := Lib.hid HBr.out.size
      have HW3 := Lib.hid hw3
      have HM256 := Lib.hid (HK.out.few HT.out)
      clear hw3 hb3
      go_upto_region 12 with fail
      rw [← HW3.out]
      clear HT HBr HXr x0 x1 HW3
      generalize wr.heap.size = gp at *
      clear HT1 HP1 HB1 HX1 HE1
      go_wp2
      go_loopw [10] (fun i wr => ∃ j : Nat, 2 ≤ j ∧ j ≤ 6 ∧ i = .int .i64 j ∧ Hid (T wr P g M) ∧ Hid (F2 38 wr gp p s) ∧ Hid (Arr6 wr (gp + 1) fun k => if 2 ≤ k ∧ k < j then (cntL M (k : Int) : Int) else 0) ∧ Hid (Below w0.heap.size w0 wr)) (fun i _ => 6 - (intOf i).toNat)
      case atStart => exact ⟨2, by omega, by omega, rfl, HT3, HF3, Lib.hid (HA3.out.congr fun k _ => by rw [if_neg (by omega)]), HB3⟩
      case round =>
        obtain ⟨j2, hj2, hj6, rfl, HT4, HF4, HA4, HB4⟩ := hrel
        by_cases hl6 : j2 < 6
        · have HCN := Lib.hid (HK.out.cnt (j2 : Int) HT4.out)
          go_wp2_with fail
          refine HCN.out.mono ?_
          rintro e w5 ⟨rfl, hb5⟩
          have HA5 := Lib.hid (HA4.out.later hb5)
          have HF5 := Lib.hid (HF4.out.later hb5)
          have HT5 := Lib.hid (HK.out.later HT4.out hb5)
          have HB5 := Lib.hid (HB4.out.trans (hb5.mono HB4.out.size))
          have c5 := HA5.out.cell j2 hl6
          have f5 := HA5.out.free j2
          clear hb5
          go_wp2
          go_roundw
          case rel => exact ⟨j2 + 1, by omega, by omega, by go_num, Lib.hid (HK.out.keep HT5.out (KpT.set w5 (a := ⟨gp + 1, j2, none⟩) HNh.out _)), Lib.hid ((Below.heap_setCell w5 ⟨gp + 1, j2, none⟩ _ gp (Nat.ne_of_lt (Nat.lt_succ_self gp))).trans HF5.out), Lib.hid ((HA5.out.store j2 _).congr fun k _ => by
            show (if k = j2 then (cntL M (j2 : Int) : Int) else if 2 ≤ k ∧ k < j2 then (cntL M (k : Int) : Int) else 0) = _
            by_cases e : k = j2
            · subst e
              rw [if_pos rfl, if_pos (by omega)]
            · rw [if_neg e]
              by_cases e2 : 2 ≤ k ∧ k < j2
              · rw [if_pos e2, if_pos (by omega)]
              · rw [if_neg e2, if_neg (by omega)]), Lib.hid (HB5.out.setCell (p := ⟨gp + 1, j2, none⟩) (by show w0.heap.size ≤ gp + 1; have := HGB.out; omega) _)⟩
          case measure => simp [intOf]; omega
        · have HA6 : Hid (Arr6 wr (gp + 1) fun k => if 2 ≤ k ∧ k < 6 then (cntL M (k : Int) : Int) else 0) := Lib.hid (by rw [show j2 = 6 by omega] at HA4; exact HA4.out)
          obtain ⟨fq, hfq⟩ : ∃ fq : Nat → Int, fq = fun k : Nat => if 2 ≤ k ∧ k < 6 then (cntL M (k : Int) : Int) else 0 := ⟨_, rfl⟩
          have HFQ : Hid (∀ k, 2 ≤ k → k < 6 → fq k = (cntL M (k : Int) : Int)) := Lib.hid (fun k h1 h2 => by rw [hfq]; exact if_pos ⟨h1, h2⟩)
          rw [← hfq] at HA6
          clear hfq
          have HS0 : Hid (StS p s M 0 M) := Lib.hid rfl
          have HNP : Hid (¬ P gp ∧ ¬ P (gp + 1)) := Lib.hid ⟨HNp.out, HNh.out⟩
          go_wp2
          clear HT3 HF3 HA3 HB3 HA4 HNp HNh
          go_loopw [11, 12, 13, 14, 15, 16] (fun idv _ _ _ _ _ wr => ∃ (i : Nat) (P : Nat → Prop) (X : List LV), i ≤ 2 ∧ idv = .int .i64 i ∧ Hid (T wr P g X) ∧ Hid (F2 38 wr gp p s) ∧ Hid (Arr6 wr (gp + 1) fq) ∧ Hid (StS p s M i X) ∧ Hid (¬ P gp ∧ ¬ P (gp + 1)) ∧ Hid (∀ k, P k → w0.heap.size ≤ k) ∧ Hid (Below w0.heap.size w0 wr)) (fun idv _ _ _ _ _ _ => 2 - (intOf idv).toNat)
          case atStart => exact ⟨0, P, M, by omega, rfl, HT4, HF4, HA6, HS0, HNP, HPl, HB4⟩
          case round =>
            obtain ⟨i, P, X, hi2, rfl, HT7, HF7, HA7, HS7, HNP7, HPl7, HB7⟩ := hrel
            by_cases hi : i < 2
            · have hid : (i : Int) = 0 ∨ (i : Int) = 1 := by omega
              have HTAB := Lib.hid (HK.out.tab HT7.out)
              have HLEN : Hid (X.length ≤ 300) := Lib.hid (by have := HK.out.few HT7.out; omega)
              have HALL := Lib.hid (fun (W : World) (hb : Below wr.heap.size wr W) => HK.out.all (HK.out.later HT7.out hb))
              have HS2 : Hid (∀ W, Below wr.heap.size wr W → W.cell? ⟨gp, 0, none⟩ = some (.float .f64 p) ∧ W.cell? ⟨gp, 1, none⟩ = some (.float .f64 s)) := Lib.hid (fun W hb => ⟨(HF7.out.later hb).c0, (HF7.out.later hb).c1⟩)
              have HID := Lib.hid hid
              have hi2' : decide ((i : Int) < 2) = true := by simp; omega
              clear hid
              go_upto_region 19 with fail
              go_region_held3 (fun w' => w'.cell? ⟨gp, 0, none⟩ = some (.float .f64 p) ∧ w'.cell? ⟨gp, 1, none⟩ = some (.float .f64 s))
                (first | with_reducible exact HS2.out _ (Below.refl _ _).drew | with_reducible exact HS2.out _ hxb | with_reducible exact HS2.out _ hxa)
                (first
                  | (go_at_call 8; (with_reducible refine (HALL.out _ (Below.refl _ _).drew).mono ?_); rintro e wa ⟨Aa, ca, la, rfl, HLa, hRa, -⟩; have hxa : Below wr.heap.size wr wa := drew_ofT hRa.low; have hEa : El ElemL wa wa.heap.size Aa la := El.of_own hRa.own; have hla : la.length ≤ 300 := (by rw [HLa.out]; exact HLEN.out))
                  | (go_at_call 7; (with_reducible refine (HKP.out.cho p s _ Aa ca la wa hEa hla).mono ?_); rintro e wb ⟨Ab, cb, rfl, -, hEb, hNb, hlb⟩; have hxb : Below wr.heap.size wr wb := hxa.trans (hlb.mono hxa.size)))
              have HXS : Hid (chV p s (i : Int) la = chV p s (i : Int) X) := Lib.hid (by rw [HLa.out])
              generalize chV p s (i : Int) la = xs at *
              have HT8 := Lib.hid (HK.out.later HT7.out hxb)
              have HF8 := Lib.hid (HF7.out.later hxb)
              have HA8 := Lib.hid (HA7.out.later hxb)
              have HB8 := Lib.hid (HB7.out.trans (hxb.mono HB7.out.size))
              have HE8 := Lib.hid hEb
              have HN8 : Hid (¬ P gp ∧ ¬ P (gp + 1) ∧ ∀ ad, Ab = some ad → ¬ P ad.block) := Lib.hid ⟨HNP7.out.1, HNP7.out.2, fun ad h hp => by have h1 := hNb ad h; have h2 := HK.out.lt HT7.out _ hp; have h3 := hxa.size; omega⟩
              have HCM := Lib.hid (ch_mem (p := p) (s := s) HID.out HTAB.out)
              rw [← HXS.out] at HCM
              have HG8 := Lib.hid (Giving.start HTAB.out HCM.out.2)
              have HXL : Hid (xs.length ≤ 256) := Lib.hid (by
                rw [HXS.out]
                obtain ⟨n, hn⟩ := ch_own (p := p) (s := s) (L := X) HID.out
                rw [hn]
                unfold topA
                rw [List.length_drop, ownA_length]
                have h1 := List.countP_le_length (p := fun y : LV => y.bind == (i : Int)) (l := X)
                have h2 := HK.out.few HT7.out
                omega)
              have hxl := HXL.out
              clear hEa hla hRa hEb hNb hlb hxa hxb
              go_wp2
              clear HALL HS2 HT7 HF7 HA7 HB7
              have HBZ : Hid (wb.heap.size ≤ wb.heap.size) := Lib.hid (Nat.le_refl _)
              go_loopw [13, 14, 15, 16] (fun iv _ _ _ wr => ∃ (j : Nat) (P' : Nat → Prop) (X' : List LV), j ≤ xs.length ∧ iv = .int .i64 j ∧ Hid (T wr P' g X') ∧ Hid (Giving (i : Int) X xs j X') ∧ Hid (F2 38 wr gp p s) ∧ Hid (Arr6 wr (gp + 1) fq) ∧ Hid (El ElemA wr wb.heap.size Ab xs) ∧ Hid (¬ P' gp ∧ ¬ P' (gp + 1) ∧ ∀ ad, Ab = some ad → ¬ P' ad.block) ∧ Hid (∀ k, P' k → w0.heap.size ≤ k) ∧ Hid (Below w0.heap.size w0 wr) ∧ Hid (wb.heap.size ≤ wr.heap.size)) (fun iv _ _ _ _ => xs.length - (intOf iv).toNat)
              case atStart => exact ⟨0, P, X, Nat.zero_le _, rfl, HT8, HG8, HF8, HA8, HE8, HN8, HPl7, HB8, HBZ⟩
              case round =>
                obtain ⟨j3, P', X', hj3, rfl, HT9, HG9, HF9, HA9, HE9, HN9, HP9, HB9, HZ9⟩ := hrel
                by_cases hl3 : j3 < xs.length
                · obtain ⟨a, ha⟩ : ∃ a, xs[j3]? = some a := ⟨_, List.getElem?_eq_getElem hl3⟩
                  have hm := HG9.out.moved HID.out ha
                  obtain ⟨x, hgx, hxb, hxr⟩ := hm.get
                  have ha32 : a < 4294967296 := by
                    obtain ⟨y, hy, hya, _⟩ := HG9.out.rest a (by
                      rw [List.drop_eq_getElem_cons (List.getElem?_eq_some_iff.1 ha).1, (List.getElem?_eq_some_iff.1 ha).2]
                      exact List.mem_cons_self)
                    have := HK.out.w32 HT9.out y hy
                    omega
                  have HGET := Lib.hid (HK.out.get a HT9.out ha32)
                  rw [hgx] at HGET
                  have hgv : gvL (1 - (i : Int)) X' a = bareL a (1 - (i : Int)) x.ver := by unfold gvL; rw [hgx]
                  have HSET := Lib.hid (fun (W : World) (hb : Below wr.heap.size wr W) => HK.out.set (bareL a (1 - (i : Int)) x.ver) (HK.out.later HT9.out hb) ha32)
                  have hok := hm.ok
                  rw [hgv] at hok
                  rw [hok] at HSET
                  have HMV : Hid ((setL X' (bareL a (1 - (i : Int)) x.ver)).1 = mvL (1 - (i : Int)) X' a) := Lib.hid (by unfold mvL; rw [hgv])
                  rw [HMV.out] at HSET
                  have HNX := Lib.hid (HG9.out.next HID.out ha HCM.out.1)
                  have HEV := Lib.hid (fun (W : World) (hb : Below wr.heap.size wr W) => (((HE9.out.more HZ9.out).below hb).at1 j3 a ha))
                  obtain ⟨b9, o9, e9, hb9, ca⟩ := HE9.out.at1 j3 a ha
                  have HXB : Hid ((x.bind != (i : Int)) = false) := Lib.hid (by rw [hxb]; simp)
                  have HAD := Lib.hid ha
                  have HE9e := Lib.hid e9
                  clear hm hgx hxb hxr hok hgv ha
                  subst e9
                  go_wp2_with fail
                  refine HGET.out.mono ?_
                  rintro e w6 ⟨rfl, hb6⟩
                  obtain ⟨w7, hw7⟩ : ∃ w7, w7 = w6.alloc (lbox x) := ⟨_, rfl⟩
                  have hb7 : Below wr.heap.size wr w7 := by rw [hw7]; exact hb6.alloc hb6.size _
                  have HL7 : Hid (LBox w7 w6.heap.size x) := Lib.hid (by rw [hw7]; exact LBox.new w6 x)
                  have HB7 := Lib.hid hb7
                  have HLO : Hid (¬ P' w6.heap.size) := Lib.hid (fun h => by have h1 := HK.out.lt HT9.out _ h; have h2 := hb6.size; omega)
                  have HW7 := Lib.hid hw7
                  clear hw7 hb7 hb6 ca
                  go_upto_region 24 with fail
                  rw [← HW7.out]
                  generalize w6.heap.size = gl at *
                  clear HW7
                  obtain ⟨b9', o9', e9', -, ca⟩ := HEV.out w7 HB7.out
                  injection e9' with e9'
                  injection e9' with e9' e10 _
                  subst e9' e10
                  obtain ⟨c0, c1, c2', c3, c4, c5, c6, c7⟩ := HL7.out.all
                  have hwi : IntKind.i64.wrap (1 - (i : Int)) = 1 - (i : Int) := by simp [IntKind.wrap, IntKind.bits, IntKind.signed]; omega
                  go_still_tail 10, (by kernel_rfl)
                  obtain ⟨w8, hw8⟩ : ∃ w8, w8 = w7.drew := ⟨_, rfl⟩
                  have HB8' : Hid (Below wr.heap.size wr w8) := Lib.hid (by rw [hw8]; exact HB7.out.drew)
                  have HL8 : Hid (LBox w8 gl x) := Lib.hid (by rw [hw8]; exact HL7.out.drew)
                  change wpList _ _ _ _ _ w7.drew
                  rw [← hw8]
                  clear hw8 c0 c1 c2' c3 c4 c5 c6 c7 ca hwi
                  go_wp2_with fail
                  refine (HSET.out w8 HB8'.out).mono ?_
                  rintro e w9 ⟨P2, rfl, hT10, hO10, hP10⟩
                  have HL10 : Hid (LBox w9 gl x) := Lib.hid ((hO10.block gl HL8.out.lt HLO.out).trans HL8.out)
                  have HT10 := Lib.hid hT10
                  have hsz : wr.heap.size ≤ w9.heap.size := Nat.le_trans HB8'.out.size hO10.size
                  have HF10 := Lib.hid ((HF9.out.later HB8'.out).oth hO10 HN9.out.1)
                  have HA10 := Lib.hid ((HA9.out.later HB8'.out).oth hO10 HN9.out.2.1)
                  have HE10 := Lib.hid ((HE9.out.below (HB8'.out.mono HZ9.out)).othA hO10 (Nat.le_trans HZ9.out HB8'.out.size) HN9.out.2.2)
                  have HN10 : Hid (¬ P2 gp ∧ ¬ P2 (gp + 1) ∧ ∀ ad, some (⟨b9, o9, none⟩ : Addr) = some ad → ¬ P2 ad.block) := Lib.hid (by
                    have hs8 := HB8'.out.size
                    refine ⟨fun h => ?_, fun h => ?_, fun ad had h => ?_⟩
                    · rcases hP10 _ h with h1 | h1
                      · exact HN9.out.1 h1
                      · have := HF9.out.lt; omega
                    · rcases hP10 _ h with h1 | h1
                      · exact HN9.out.2.1 h1
                      · have := HA9.out.lt; omega
                    · rcases hP10 _ h with h1 | h1
                      · exact HN9.out.2.2 ad had h1
                      · injection had with had
                        subst had
                        have := HZ9.out
                        have h2 : w8.heap.size ≤ b9 := h1
                        omega)
                  have HP10 : Hid (∀ k, P2 k → w0.heap.size ≤ k) := Lib.hid (fun k hk => by
                    rcases hP10 k hk with h1 | h1
                    · exact HP9.out k h1
                    · exact Nat.le_trans (Nat.le_trans HB9.out.size HB8'.out.size) h1)
                  have HB10 := Lib.hid (hO10.below HP9.out (HB9.out.trans (HB8'.out.mono HB9.out.size)))
                  have HZ10 : Hid (wb.heap.size ≤ w9.heap.size) := Lib.hid (Nat.le_trans HZ9.out hsz)
                  have hxq := HXB.out
                  have c1 := HL10.out.c1
                  clear hT10 hO10 hP10 hsz
                  go_wp2
                  go_roundw
                  case rel => exact ⟨j3 + 1, P2, _, by omega, by go_num, HT10, HNX, HF10, HA10, HE10, HN10, HP10, HB10, HZ10⟩
                  case measure => simp [intOf]; omega
                · have HSN : Hid (StS p s M (i + 1) X') := Lib.hid (HS7.out.next hi (by
                    have h := HG9.out
                    rw [show j3 = xs.length by omega] at h
                    rw [← HXS.out]
                    exact h))
                  have HNN : Hid (¬ P' gp ∧ ¬ P' (gp + 1)) := Lib.hid ⟨HN9.out.1, HN9.out.2.1⟩
                  go_wp2
                  go_roundw
                  case rel => exact ⟨i + 1, P', X', by omega, by go_num, HT9, HF9, HA9, HSN, HNN, HP9, HB9⟩
                  case measure => simp [intOf]; omega
            · obtain rfl : i = 2 := by omega
              have hdone : (chV p s 0 X).length = 0 ∧ (chV p s 1 X).length = 0 ∧ ∀ q : Int, 2 ≤ q → cntL X q = cntL M q := by
                obtain ⟨M1, h1, h2⟩ := HS7.out
                exact both_done h1 h2 HM256.out
              have HD0 := Lib.hid hdone.1
              have HD1 := Lib.hid hdone.2.1
              have HDQ := Lib.hid hdone.2.2
              clear hdone
              go_wp2
              clear HA6 HT4 HF4 HB4 HS0 HNP
              go_loopw [17] (fun iv wr' => ∃ j : Nat, 2 ≤ j ∧ j ≤ 6 ∧ iv = .int .i64 j ∧ Hid (T wr' P g X) ∧ Hid (F2 38 wr' gp p s) ∧ Hid (Arr6 wr' (gp + 1) fq) ∧ Hid (Below w0.heap.size w0 wr')) (fun iv _ => 6 - (intOf iv).toNat)
              case atStart => exact ⟨2, by omega, by omega, rfl, HT7, HF7, HA7, HB7⟩
              case round =>
                obtain ⟨j4, hj42, hj46, rfl, HT11, HF11, HA11, HB11⟩ := hrel
                by_cases hl4 : j4 < 6
                · have HCN := Lib.hid (fun d os => Calls.regrown_of (HK.out.cnt (j4 : Int) (HK.out.later HT11.out (below_regrown wr d os))))
                  have hcell := cell_regrown (HA11.out.cell j4 hl4)
                  have hq7 : fq j4 = (cntL X (j4 : Int) : Int) := by rw [HFQ.out j4 hj42 hl4, HDQ.out (j4 : Int) (by omega)]
                  rw [hq7] at hcell
                  obtain ⟨n7, hn7⟩ : ∃ n7 : Int, n7 = (cntL X (j4 : Int) : Int) := ⟨_, rfl⟩
                  have HCN2 : Hid (∀ d os, Calls Try.prog 6 #[.pointer (some ⟨g, 0, none⟩), .int .i64 (j4 : Int)] (grow (redrawn wr d) os) fun e w'' => e = .returned (.int .i64 n7) ∧ ∃ q : Regrown, w'' = grow (redrawn wr q.d) q.os) := Lib.hid (fun d os => by rw [hn7]; exact HCN.out d os)
                  rw [← hn7] at hcell
                  have hself : (n7 != n7) = false := by simp
                  clear hq7 hn7 HCN
                  go_upto_region 30 with fail
                  refine wp_region_quiet_below (by kernel_rfl) (by kernel_rfl) ?_
                  repeat (go_big_quiet_step (with_reducible exact HCN2.out _ _))
                  refine wpQuiet_nil ?_
                  intro _ hw'
                  obtain ⟨⟨dq, osq⟩, hw''⟩ := hw'
                  subst hw''
                  have HT12 := Lib.hid (HK.out.later HT11.out (below_regrown wr dq osq))
                  have HF12 := Lib.hid (HF11.out.later (below_regrown wr dq osq))
                  have HA12 := Lib.hid (HA11.out.later (below_regrown wr dq osq))
                  have HB12 := Lib.hid (HB11.out.trans ((below_regrown wr dq osq).mono HB11.out.size))
                  clear hcell hself
                  go_wp2
                  go_roundw
                  case rel => exact ⟨j4 + 1, by omega, by omega, by go_num, HT12, HF12, HA12, HB12⟩
                  case measure => simp [intOf]; omega
                · have HLEN : Hid (X.length ≤ 300) := Lib.hid (by have := HK.out.few HT11.out; omega)
                  have HALL := Lib.hid (fun (W : World) (hb : Below wr.heap.size wr W) => HK.out.all (HK.out.later HT11.out hb))
                  have HS2 : Hid (∀ W, Below wr.heap.size wr W → W.cell? ⟨gp, 0, none⟩ = some (.float .f64 p) ∧ W.cell? ⟨gp, 1, none⟩ = some (.float .f64 s)) := Lib.hid (fun W hb => ⟨(HF11.out.later hb).c0, (HF11.out.later hb).c1⟩)
                  go_upto_region 32 with fail
                  go_region_held3 (fun w' => w'.cell? ⟨gp, 0, none⟩ = some (.float .f64 p) ∧ w'.cell? ⟨gp, 1, none⟩ = some (.float .f64 s))
                    (first | with_reducible exact HS2.out _ (Below.refl _ _).drew | with_reducible exact HS2.out _ hyd | with_reducible exact HS2.out _ hyc | with_reducible exact HS2.out _ hyb | with_reducible exact HS2.out _ hya)
                    (first
                      | (go_at_call 8; first | ((with_reducible refine (HALL.out _ hyb).mono ?_); rintro e wc ⟨Ac, cc, lc, rfl, HLc, hRc, -⟩; have hyc : Below wr.heap.size wr wc := hyb.trans (hRc.low.mono hyb.size); have hEc : El ElemL wc wc.heap.size Ac lc := El.of_own hRc.own; have hlc : lc.length ≤ 300 := (by rw [HLc.out]; exact HLEN.out)) | ((with_reducible refine (HALL.out _ (Below.refl _ _).drew).mono ?_); rintro e wa ⟨Aa, ca, la, rfl, HLa, hRa, -⟩; have hya : Below wr.heap.size wr wa := drew_ofT hRa.low; have hEa : El ElemL wa wa.heap.size Aa la := El.of_own hRa.own; have hla : la.length ≤ 300 := (by rw [HLa.out]; exact HLEN.out)))
                      | (go_at_call 7; first | ((with_reducible refine (HKP.out.cho p s 1 Ac cc lc wc hEc hlc).mono ?_); rintro e wd ⟨Ad, cd, rfl, -, -, -, hld⟩; have hyd : Below wr.heap.size wr wd := hyc.trans (hld.mono hyc.size); have hz1 : (chV p s 1 lc).length = 0 := (by rw [HLc.out]; exact HD1.out); rw [hz1]; clear hz1) | ((with_reducible refine (HKP.out.cho p s 0 Aa ca la wa hEa hla).mono ?_); rintro e wb ⟨Ab, cb, rfl, -, -, -, hlb⟩; have hyb : Below wr.heap.size wr wb := hya.trans (hlb.mono hya.size); have hz0 : (chV p s 0 la).length = 0 := (by rw [HLa.out]; exact HD0.out); rw [hz0]; clear hz0)))
                  go_wp2
                  go_ret
                  exact ⟨rfl, HB.out.trans ((HB11.out.trans (hyd.mono HB11.out.size)).mono HB.out.size)⟩
end Go.Proofs.Ytablffjhipgfbaa
