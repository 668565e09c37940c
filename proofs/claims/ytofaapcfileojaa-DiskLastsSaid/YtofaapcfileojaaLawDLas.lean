/- The law DiskLasts. -/
import Derived.Test.YtofaapcfileojaaDskX
import Derived.Lib.QuietBelow
import Derived.BigQuiet
import Derived.Deep.QuietTactic
namespace Go.Proofs.Ytofaapcfileojaa
open Go.RowKit Go.Sort

theorem By.regrown {w : World} {A : Option Addr} {l : List UInt8} (h : By w w.heap.size A l) (d : Nat) (os : Array Obj) : By (grow (redrawn w d) os) (grow (redrawn w d) os).heap.size A l := h.later (below_regrown w d os)
theorem str_regrown {w : World} {A : Option Addr} {l : List UInt8} {m : Nat} (c : Nat) (hm : l.length = m) (h : By w w.heap.size A l) : ∀ (d : Nat) (os : Array Obj), (convert 33 9 (.slice A m c)).run Try.prog (grow (redrawn w d) os) = .ok (.string ⟨l.toArray⟩) (grow (redrawn w d) os) := fun d os => by
  subst hm
  exact str_run c (h.regrown d os)
theorem lasts_regrown {base : Nat} {w : World} {D : Nat} {s : DS} {v : Value} (h : DAt DT base w D s v) (d : Nat) (os : Array Obj) :
    Calls Try.prog 14 #[ptr D] (grow (redrawn w d) os) fun e w'' => e = .returned (.int .i64 (s.last : Int)) ∧ ∃ p : Regrown, w'' = grow (redrawn w p.d) p.os :=
  (lasts_any (h.below (below_regrown w d os))).mono fun _ _ ⟨he, hw⟩ => ⟨he, ⟨⟨d, os⟩, hw.symm⟩⟩

set_option maxRecDepth 100000 in
set_option maxHeartbeats 8000000 in
theorem law_lasts (room keep : Int) (A : Option Addr) (c : Nat) (L : List StV) (w : World) (hL : St w w.heap.size A L) (hlen : L.length ≤ 9223372036854775807) (hdl : ∀ x ∈ L, x.data.length ≤ 9223372036854775807) :
    Calls Try.prog 4 #[.int .i64 room, .slice A L.length c, .int .i64 keep] w fun e w' => e = .returned (.bool true) ∧ Below w.heap.size w w' := by
  have HA := Lib.hid (awake_any w)
  have HL := Lib.hid hL
  have HLen := Lib.hid hlen
  have HDL := Lib.hid hdl
  clear hL hdl
  go_enter Try.func4, Try.ntmps4
  go_wp2_with fail
  refine HA.out.mono ?_
  rintro e w1 ⟨rfl, hb1⟩
  have HB1 := Lib.hid hb1
  have HLong := Lib.hid (long_any (c := c) (HL.out.below hb1) HLen.out HDL.out)
  have HN := Lib.hid (new_any w1 room)
  clear hb1
  obtain ⟨lb, hlb⟩ : ∃ lb, lb = longB L := ⟨_, rfl⟩
  rw [← hlb] at HLong
  have HLb := Lib.hid hlb
  clear hlb
  go_wp2_with fail
  refine HLong.out.mono ?_
  rintro e w1' ⟨rfl, rfl⟩
  go_wp2_with fail
  refine HN.out.mono ?_
  rintro e w2 (⟨k, rfl, hk0, hk1, rfl, h2, hb2, hz2⟩ | ⟨h0, rfl, rfl⟩)
  · obtain ⟨D, hD⟩ : ∃ D, D = w1.heap.size := ⟨_, rfl⟩
    have hlow : w.heap.size ≤ D := by rw [hD]; exact HB1.out.size
    rw [← hD] at h2 hb2 ⊢
    have HLow := Lib.hid hlow
    have H2 := Lib.hid h2
    have HB2 := Lib.hid (HB1.out.trans (hb2.mono hlow))
    have HR := Lib.hid (rnew_any w2 k)
    have HK := Lib.hid (And.intro hk0 hk1)
    clear hD hlow h2 hb2 hz2 hk0 hk1
    cases lb
    · have HLF := Lib.hid (long_false HLb.out.symm)
      have hl120 : L.length ≤ 120 := HLF.out.1
      go_wp2_with fail
      refine HR.out.mono ?_
      rintro e w3 (⟨k', hkk, _, _, rfl, h3, hb3, _⟩ | ⟨h0, _⟩)
      · obtain rfl : k = k' := by omega
        obtain ⟨R, hR⟩ : ∃ R, R = w2.heap.size := ⟨_, rfl⟩
        have hlowR : w.heap.size ≤ R := by rw [hR]; exact HB2.out.size
        rw [← hR] at h3 ⊢
        have HLowR := Lib.hid hlowR
        have HT := Lib.hid (two_new rfl H2.out h3 hR hb3)
        have HB3 := Lib.hid (HB2.out.trans (hb3.mono HB2.out.size))
        clear hkk hR hlowR h3 hb3
        go_wp2
        go_loopw [13] (fun i wr => ∃ j : Nat, j ≤ L.length ∧ i = .int .i64 j ∧ Two (R + 1) D R (runD k (L.take j)) wr ∧ Below w.heap.size w wr) (fun i _ => L.length - (intOf i).toNat)
        case atStart => exact ⟨0, Nat.zero_le _, rfl, HT.out, HB3.out⟩
        case round =>
          obtain ⟨j, hj, rfl, hT, hbj⟩ := hrel
          have HTj := Lib.hid hT
          have HBj := Lib.hid hbj
          clear hT hbj
          by_cases hlt : j < L.length
          · obtain ⟨x, hx⟩ : ∃ x, L[j]? = some x := ⟨_, List.getElem?_eq_getElem hlt⟩
            have HSt := Lib.hid (HL.out.below HBj.out)
            obtain ⟨b, o, rfl, _, c0, c1, c2⟩ := HSt.out.at_ j x hx
            have hmem := List.mem_of_getElem? hx
            have hnum : ∀ y ∈ L.take j, y.n ≤ 9223372036854775807 := fun y hy => HL.out.num y (List.mem_of_mem_take hy)
            have hok := runD_ok HK.out.1 HK.out.2 (L.take j) hnum
            have HS := Lib.hid (step_any HTj.out hok HLow.out HLowR.out x (HSt.out.data x hmem) (HLF.out.2 x hmem))
            rw [← runD_snoc, ← take_snoc_of _ _ _ hx] at HS
            have Hlt := Lib.hid hlt
            clear hx hmem hnum hok
            go_wp2_with fail
            refine HS.out.mono ?_
            rintro e w4 ⟨rfl, hT4, hb4⟩
            have HT4 := Lib.hid hT4
            have HB4 := Lib.hid (HBj.out.trans hb4)
            clear hT4 hb4 c0 c1 c2
            go_wp2
            go_roundw
            case rel => exact ⟨j + 1, Hlt.out, by go_num, HT4.out, HB4.out⟩
            case measure => have := Hlt.out; simp [intOf]; omega
          · obtain rfl : j = L.length := by omega
            rw [List.take_length] at HTj
            have hok := runD_ok HK.out.1 HK.out.2 L HL.out.num
            obtain ⟨s, hs⟩ : ∃ s, s = runD k L := ⟨_, rfl⟩
            rw [← hs] at HTj hok
            have HOk := Lib.hid hok
            obtain ⟨v, u, hd, _, _, _⟩ := HTj.out
            have HD := Lib.hid hd
            have HRd := Lib.hid (read_any hd hok)
            have HC := Lib.hid (crash_len hok keep)
            have HC2 : Hid ((crashD s keep).last = s.last + kept s keep) := Lib.hid rfl
            have HC3 : Hid ((crashD s keep).bs = s.bs.take (s.last + kept s keep)) := Lib.hid rfl
            have HC4 : Hid (kept s keep ≤ s.bs.length - s.last) := Lib.hid (kept_le s keep)
            have HC5 : Hid (s.last ≤ s.bs.length) := Lib.hid hok.last
            have HC6 : Hid (keep ≤ 0 → kept s keep = 0) := Lib.hid fun h => by unfold kept; rw [if_pos h]
            have HOkC := Lib.hid (crash_ok hok keep)
            clear hs hd hok
            go_wp2_with fail
            refine HRd.out.mono ?_
            intro e w4 hg4
            obtain ⟨A4, c4, rfl, hc4, hby4, hb4⟩ := give_apart HD.out hg4
            have HCap := Lib.hid hc4
            have HBy4 := Lib.hid hby4
            have HD4 := Lib.hid (HD.out.below hb4)
            have HW4 : Hid (Below w.heap.size w w4) := Lib.hid (HBj.out.trans (hb4.mono HBj.out.size))
            have HLa := Lib.hid (lasts_any HD4.out)
            clear hg4 hby4 hb4 hc4
            go_wp2_with fail
            refine HLa.out.mono ?_
            rintro e w5 ⟨rfl, rfl⟩
            have HCr := Lib.hid (crash_any HD4.out HOk.out keep)
            go_wp2_with fail
            refine HCr.out.mono ?_
            rintro e w6 ⟨rfl, hd6⟩
            have HW6 : Hid (Below w.heap.size w w6) := Lib.hid (HW4.out.trans ((Did.low HD4.out (Nat.le_refl _) hd6).mono HLow.out))
            have HBy6 : Hid (By w6 w6.heap.size A4 s.bs) := Lib.hid (by
              obtain ⟨_, _, hk6, _⟩ := hd6
              exact (HBy4.out.kp hk6).by_)
            obtain ⟨v6, h6, _, _⟩ := hd6
            have H6 := Lib.hid h6
            have HR6 := Lib.hid (read_any h6 HOkC.out)
            clear h6
            go_wp2_with fail
            refine HR6.out.mono ?_
            intro e w7 hg7
            obtain ⟨A7, c7, rfl, hby7, hb7, _⟩ := give_str hg7
            have HW7 : Hid (Below w.heap.size w w7) := Lib.hid (HW6.out.trans (hb7.mono HW6.out.size))
            have HBy7 := Lib.hid hby7
            have HBy47 := Lib.hid (HBy6.out.later hb7)
            have HL7 := Lib.hid (lasts_regrown (H6.out.below hb7))
            clear hg7 hby7 hb7
            obtain ⟨m, hm⟩ : ∃ m, m = (crashD s keep).bs.length := ⟨_, rfl⟩
            obtain ⟨l1, hl1⟩ : ∃ l1, l1 = s.bs.length := ⟨_, rfl⟩
            obtain ⟨n1, hn1⟩ : ∃ n1, n1 = s.last := ⟨_, rfl⟩
            have e1 : (crashD s keep).last = m := by rw [hm, HC.out]; exact HC2.out
            have e2 : (crashD s keep).bs = s.bs.take m := by rw [hm, HC.out]; exact HC3.out
            have e3 : (s.bs.take m).length = m := by rw [← e2]; exact hm.symm
            have b1 : n1 ≤ l1 := by rw [hn1, hl1]; exact HC5.out
            have b2 : n1 ≤ m := by rw [hn1, hm, HC.out]; exact Nat.le_add_right _ _
            have b3 : m ≤ l1 := by rw [hl1, hm, HC.out]; have := HC4.out; have := HC5.out; omega
            have b4 : keep ≤ 0 → m = n1 := fun h => by rw [hm, HC.out, HC6.out h, hn1]; rfl
            have s1 := str_regrown c4 e3 (HBy47.out.take m)
            have s2 := str_regrown (m := m) c7 hm.symm HBy7.out
            rw [e2] at s2
            have hcut := fun W => run_headB A4 l1 c4 (m : Int) (by omega) (by have := HCap.out; omega) W
            rw [Int.toNat_natCast] at hcut
            rw [e1] at HL7
            rw [← hm, ← hl1, ← hn1]
            have hself : (s.bs.take m == s.bs.take m) = true := by simp
            clear hm hl1 hn1 e1 e2 e3
            by_cases hkp : 0 < keep
            · have d0 : decide (0 < keep) = true := decide_eq_true hkp
              clear b4
              go_wp2_with fail
              refine wp_region_quiet_below (by kernel_rfl) (by kernel_rfl) ?_
              repeat (go_big_quiet_step ((first | with_reducible exact HL7.out _ _)))
              refine wpQuiet_nil ?_
              intro _ hw'
              obtain ⟨⟨dq, osq⟩, hw''⟩ := hw'
              subst hw''
              go_wp2
              go_ret
              exact ⟨rfl, HW7.out.trans ((below_regrown w7 dq osq).mono HW7.out.size)⟩
            · have d0 : decide (0 < keep) = false := decide_eq_false hkp
              obtain rfl := b4 (by omega)
              go_wp2_with fail
              refine wp_region_quiet_below (by kernel_rfl) (by kernel_rfl) ?_
              repeat (go_big_quiet_step ((first | with_reducible exact HL7.out _ _)))
              refine wpQuiet_nil ?_
              intro _ hw'
              obtain ⟨⟨dq, osq⟩, hw''⟩ := hw'
              subst hw''
              go_wp2
              go_ret
              exact ⟨rfl, HW7.out.trans ((below_regrown w7 dq osq).mono HW7.out.size)⟩
      · exact absurd ⟨by have := HK.out; omega, by have := HK.out; omega⟩ h0
    · go_wp2
      go_ret
      exact ⟨rfl, HB2.out⟩
  · go_wp2
    go_ret
    exact ⟨rfl, HB1.out⟩

end Go.Proofs.Ytofaapcfileojaa
