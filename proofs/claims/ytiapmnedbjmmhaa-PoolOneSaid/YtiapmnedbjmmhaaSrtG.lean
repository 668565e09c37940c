/- The library's plain sort at addresses, whole: what it leaves is in order, and the same addresses. -/
import Derived.Sort.LotB
import Derived.Sort.LotD3
import Derived.Test.YtiapmnedbjmmhaaSrtD
import Derived.Test.YtiapmnedbjmmhaaSrtE
import Derived.Test.YtiapmnedbjmmhaaSrtF
namespace Go.Proofs.Ytiapmnedbjmmhaa
open Go.Shelf Go.RowKit Go.Lib Go.Sort

/-- Whatever sorts the part from x to y of dk sorts the part from lo to hi of d. -/
def FinU (lo hi : Nat) (d : Array Int) (x y : Nat) (dk : Array Int) : Prop := ∀ F, PermIn x y dk F → SortedIn ltInt x y F → PermIn lo hi d F ∧ SortedIn ltInt lo hi F
theorem FinU.perm {lo hi x y : Nat} {d dk dj : Array Int} (h : FinU lo hi d x y dk) (p : PermIn x y dk dj) : FinU lo hi d x y dj := fun F p2 s => h F (permIn_trans _ _ _ _ _ p p2) s
theorem permU (d : Array Int) (x y : Nat) : PermIn x y d d := permIn_refl _ _ _

set_option maxHeartbeats 16000000 in
set_option maxRecDepth 100000 in
theorem upd_any {w0 : World} {b o c N : Nat} {d0 : Array Int} (R : RowU w0 b o d0) (hs0 : d0.size = N) (hz : N < 4611686018427387904) : ∀ (n lo hi lim : Nat) (d : Array Int) (w : World), hi - lo < n → lo ≤ hi → hi ≤ N → d.size = N → lim < 4611686018427387904 → SW enU w0 b o d w → Below ltInt lo hi d →
    Calls Try.prog 31 #[.slice (some ⟨b, o, none⟩) N c, .int .i64 lo, .int .i64 hi, .int .i64 lim] w fun e w' => e = .returned (.tuple #[]) ∧ ∃ d', SW enU w0 b o d' w' ∧ PermIn lo hi d d' ∧ SortedIn ltInt lo hi d' := by
  have HL := hid (fun V x y => uless_any x y V)
  have KI := hid (fun (V : World) (dk : Array Int) (x y : Nat) (hk : dk.size = N) (SV : SW enU w0 b o dk V) (e1 : x ≤ y) (e2 : y ≤ N) => (by
    have h := uinsert_any (c := c) (lo := x) (hi := y) R (hk.trans hs0.symm) SV e1 (by omega) (by omega)
    rwa [hk] at h : Calls Try.prog 34 #[.slice (some ⟨b, o, none⟩) N c, .int .i64 x, .int .i64 y] V fun e w' => e = .returned (.tuple #[]) ∧ SW enU w0 b o (insertionSort ltInt dk x y) w'))
  have KH := hid (fun (V : World) (dk : Array Int) (x y : Nat) (hk : dk.size = N) (SV : SW enU w0 b o dk V) (e1 : x < y) (e2 : y ≤ N) => (by
    have h := uheap_any (c := c) (lo := x) (hi := y) R (hk.trans hs0.symm) SV e1 (by omega) (by omega)
    rwa [hk] at h : Calls Try.prog 35 #[.slice (some ⟨b, o, none⟩) N c, .int .i64 x, .int .i64 y] V fun e w' => e = .returned (.tuple #[]) ∧ SW enU w0 b o (heapSort ltInt dk x y) w'))
  have KB := hid (fun (V : World) (dk : Array Int) (x y : Nat) (hk : dk.size = N) (SV : SW enU w0 b o dk V) (e1 : 12 < y - x) (e2 : y ≤ N) => (by
    have h := ubreak_any (c := c) (lo := x) (L := y - x) R (hk.trans hs0.symm) SV (by omega) (by omega) (by omega)
    rwa [hk, show x + (y - x) = y by omega] at h : Calls Try.prog 36 #[.slice (some ⟨b, o, none⟩) N c, .int .i64 x, .int .i64 y] V fun e w' => e = .returned (.tuple #[]) ∧ SW enU w0 b o (breakPatterns dk x y) w'))
  have KP := hid (fun (V : World) (dk : Array Int) (x y : Nat) (hk : dk.size = N) (SV : SW enU w0 b o dk V) (e1 : x < y) (e2 : y ≤ N) => (by
    have h := upivot_any (c := c) (lo := x) (hi := y) R (hk.trans hs0.symm) SV e1 (by omega) (by omega)
    rwa [hk] at h : Calls Try.prog 37 #[.slice (some ⟨b, o, none⟩) N c, .int .i64 x, .int .i64 y] V fun e w' => e = .returned (.tuple #[.int .i64 (choosePivot ltInt dk x y).1, .int .i64 (hintCode (choosePivot ltInt dk x y).2)]) ∧ SW enU w0 b o dk w'))
  have KT := hid (fun (V : World) (dk : Array Int) (x y : Nat) (hk : dk.size = N) (SV : SW enU w0 b o dk V) (e1 : x < y) (e2 : y ≤ N) => (by
    have h := uturn_any (c := c) (lo := x) (hi := y) R (hk.trans hs0.symm) SV e1 (by omega) (by omega)
    rwa [hk] at h : Calls Try.prog 38 #[.slice (some ⟨b, o, none⟩) N c, .int .i64 x, .int .i64 y] V fun e w' => e = .returned (.tuple #[]) ∧ SW enU w0 b o (reverseRange dk x y) w'))
  have KA := hid (fun (V : World) (dk : Array Int) (x y : Nat) (hk : dk.size = N) (SV : SW enU w0 b o dk V) (e1 : x < y) (e2 : y ≤ N) => (by
    have h := upartial_any (c := c) (lo := x) (hi := y) R (hk.trans hs0.symm) SV e1 (by omega) (by omega)
    rwa [hk] at h : Calls Try.prog 39 #[.slice (some ⟨b, o, none⟩) N c, .int .i64 x, .int .i64 y] V fun e w' => e = .returned (.bool (partialInsertionSort ltInt dk x y).2) ∧ SW enU w0 b o (partialInsertionSort ltInt dk x y).1 w'))
  have KE := hid (fun (V : World) (dk : Array Int) (x y pv : Nat) (hk : dk.size = N) (SV : SW enU w0 b o dk V) (e1 : x ≤ pv) (e3 : pv < y) (e2 : y ≤ N) => (by
    have h := uparteq_any (c := c) (lo := x) (hi := y) (pv := pv) R (hk.trans hs0.symm) SV e1 e3 (by omega) (by omega)
    rwa [hk] at h : Calls Try.prog 41 #[.slice (some ⟨b, o, none⟩) N c, .int .i64 x, .int .i64 y, .int .i64 pv] V fun e w' => e = .returned (.int .i64 (partitionEqual ltInt dk x y pv).1) ∧ SW enU w0 b o (partitionEqual ltInt dk x y pv).2 w'))
  have KR := hid (fun (V : World) (dk : Array Int) (x y pv : Nat) (hk : dk.size = N) (SV : SW enU w0 b o dk V) (e1 : x ≤ pv) (e3 : pv < y) (e2 : y ≤ N) => (by
    have h := upart_any (c := c) (lo := x) (hi := y) (pv := pv) R (hk.trans hs0.symm) SV e1 e3 (by omega) (by omega)
    rwa [hk] at h : Calls Try.prog 42 #[.slice (some ⟨b, o, none⟩) N c, .int .i64 x, .int .i64 y, .int .i64 pv] V fun e w' => e = .returned (.tuple #[.int .i64 (partition ltInt dk x y pv).1, .bool (partition ltInt dk x y pv).2.1]) ∧ SW enU w0 b o (partition ltInt dk x y pv).2.2 w'))
  have RR := hid R
  have HS0 := hid hs0
  clear R hs0
  intro n
  induction n with
  | zero => intro _ _ _ _ _ h; exact absurd h (Nat.not_lt_zero _)
  | succ n ih =>
    intro lo hi lim d w hn h1 h2 hd hlim S HB
    have IH := hid ih
    have S0 := hid S
    have HB0 := hid HB
    have HD := hid hd
    clear ih S HB hd
    go_enter Try.func31, Try.ntmps31
    go_wp2
    go_loopg [1, 2, 3, 8, 9] (hi - lo) (fun k s1 s2 s3 s8 s9 wr => ∃ (x y l : Nat) (wb wp : Bool) (dk : Array Int), s1 = .int .i64 x ∧ s2 = .int .i64 y ∧ s3 = .int .i64 l ∧ s8 = .bool wb ∧ s9 = .bool wp ∧ x ≤ y ∧ y ≤ N ∧ y - x ≤ k ∧ k ≤ hi - lo ∧ l ≤ lim ∧ Hid (dk.size = N) ∧ Hid (Below ltInt x y dk) ∧ Hid (SW enU w0 b o dk wr) ∧ Hid (FinU lo hi d x y dk))
    case atStart => exact ⟨lo, hi, lim, true, true, d, rfl, rfl, rfl, rfl, rfl, h1, h2, Nat.le_refl _, Nat.le_refl _, Nat.le_refl _, HD, HB0, S0, hid (fun F p s => ⟨p, s⟩)⟩
    case round =>
      clear S0 HB0
      obtain ⟨x, y, l, wb, wp, dk, rfl, rfl, rfl, rfl, rfl, hxy, hyN, hgk, hgn, hl, hk, HB, SK, HF⟩ := hrel
      by_cases h12 : y - x ≤ 12
      · have h12z : (y : Int) - (x : Int) ≤ 12 := by omega
        go_wp2_with fail
        refine (KI.out _ dk x y hk.out SK.out hxy hyN).mono ?_
        rintro e w1 ⟨rfl, s1⟩
        go_wp2
        (try simp only [Exit.inBlock, Exit.then])
        refine bodyPost_ret (results_none rfl _ _ _) rfl ?_
        obtain ⟨p, q⟩ := insertionSort_holds swo_ltInt dk x y hxy (by have := hk.out; omega)
        obtain ⟨p2, q2⟩ := HF.out _ p q
        exact ⟨rfl, _, s1, p2, q2⟩
      · have h12z : ¬ ((y : Int) - (x : Int) ≤ 12) := by omega
        by_cases hl0 : l = 0
        · have hl0z : ((l : Int) == 0) = true := by simp; omega
          go_wp2_with fail
          refine (KH.out _ dk x y hk.out SK.out (by omega) hyN).mono ?_
          rintro e w1 ⟨rfl, s1⟩
          go_wp2
          (try simp only [Exit.inBlock, Exit.then])
          refine bodyPost_ret (results_none rfl _ _ _) rfl ?_
          obtain ⟨p, q⟩ := heapSort_holds swo_ltInt dk x y hxy (by have := hk.out; omega)
          obtain ⟨p2, q2⟩ := HF.out _ p q
          exact ⟨rfl, _, s1, p2, q2⟩
        · have hl0z : ((l : Int) == 0) = false := by simp; omega
          go_upto_if 35 with fail
          go_cut [3] from 19 (fun s3 wc => ∃ (l' : Nat) (dj : Array Int), s3 = .int .i64 l' ∧ l' ≤ l ∧ dj.size = N ∧ PermIn x y dk dj ∧ SW enU w0 b o dj wc)
          case first =>
            cases wb
            · go_wp2_with fail
              refine (KB.out _ dk x y hk.out SK.out (by omega) hyN).mono ?_
              rintro e w1 ⟨rfl, s1⟩
              have p := breakPatterns_holds dk x y hxy (by have := hk.out; omega)
              go_wp2_with fail
              go_meet
              case rel => exact ⟨l - 1, _, by go_num, by omega, p.1.trans hk.out, p, s1⟩
            · go_wp2_with fail
              go_meet
              case rel => exact ⟨l, dk, rfl, Nat.le_refl _, hk.out, permU _ _ _, SK.out⟩
          case rest =>
            obtain ⟨l1, dj, rfl, hl1, hj, p1, sj⟩ := hcut
            have HJ := hid hj
            have SJ := hid sj
            have P1 := hid p1
            clear SK hj sj p1
            have hpv := choosePivot_holds ltInt dj x y (by omega)
            have hc := KP.out wc dj x y HJ.out SJ.out (by omega) hyN
            obtain ⟨pv, h, hpc⟩ : ∃ pv h, choosePivot ltInt dj x y = (pv, h) := ⟨_, _, rfl⟩
            rw [hpc] at hpv hc
            simp only [] at hpv hc
            obtain ⟨hc1, hc2⟩ := hpv
            clear hpc
            have HC := hid hc
            clear hc
            go_upto_if 50 with (go_at_call 37; refine HC.out.mono ?_; rintro e w2 ⟨rfl, s2⟩)
            have S2 := hid s2
            clear s2 HC SJ
            go_cut [11, 12] from 19 (fun s11 s12 wc => ∃ (pv : Nat) (hc : Int) (dj : Array Int), s11 = .int .i64 pv ∧ s12 = .int .i64 hc ∧ x ≤ pv ∧ pv < y ∧ dj.size = N ∧ PermIn x y dk dj ∧ SW enU w0 b o dj wc)
            case first =>
              by_cases hh : h = .decreasing
              · have hcode : hintCode h = 2 := by rw [hh]; rfl
                go_wp2_with fail
                refine (KT.out _ dj x y HJ.out S2.out (by omega) hyN).mono ?_
                rintro e w3 ⟨rfl, s3⟩
                have p := reverseRange_holds dj x y hxy (by have := HJ.out; omega)
                go_wp2_with fail
                go_meet
                case rel => exact ⟨(y - 1) - (pv - x), 1, _, by first | go_num | (congr 1; omega), rfl, by omega, by omega, p.1.trans HJ.out, permIn_trans _ _ _ _ _ P1.out p, s3⟩
              · have hcode : ¬ (hintCode h = 2) := fun e => hh (by cases h <;> simp [hintCode] at e ⊢)
                go_wp2_with fail
                go_meet
                case rel => exact ⟨pv, hintCode h, dj, rfl, rfl, hc1, hc2, HJ.out, P1.out, S2.out⟩
            case rest =>
              clear HJ P1 S2 hc1 hc2
              clear pv h dj
              obtain ⟨pv, hc, dj, rfl, rfl, hc1, hc2, hj, p1, sj⟩ := hcut
              have HJ := hid hj
              have SJ := hid sj
              have P1 := hid p1
              clear hj sj p1
              go_upto_region 15 with fail
              go_cut [68] from 19 (fun s68 wx => ∃ t : Bool, s68 = .bool t ∧ wx = wc)
              case first =>
                cases wb <;> cases wp <;>
                  (go_wp2_with fail
                   go_meet
                   exact ⟨_, rfl, rfl⟩)
              case rest =>
                obtain ⟨t, rfl, rfl⟩ := hcut
                go_upto_if 68 with fail
                go_cut [] from 19 (fun wx => ∃ dj : Array Int, dj.size = N ∧ PermIn x y dk dj ∧ SW enU w0 b o dj wx)
                case first =>
                  cases t
                  · go_wp2_with fail
                    go_meet
                    case rel => exact ⟨dj, HJ.out, P1.out, SJ.out⟩
                  · have hB := HB.out.perm (by have := hk.out; omega) P1.out
                    obtain ⟨p, q⟩ := partialInsertionSort_holds swo_ltInt dj x y (by omega) (by have := HJ.out; omega) hB
                    have PQ := hid q
                    have PP := hid p
                    have hc := KA.out wc dj x y HJ.out SJ.out (by omega) hyN
                    obtain ⟨D, hD⟩ : ∃ D, D = partialInsertionSort ltInt dj x y := ⟨_, rfl⟩
                    rw [← hD] at hc PP PQ
                    have HC := hid hc
                    clear hD p q hc hB
                    go_wp2_with fail
                    refine HC.out.mono ?_
                    rintro e w4 ⟨rfl, s4⟩
                    cases hd2 : D.2
                    · go_wp2_with fail
                      go_meet
                      case rel => exact ⟨D.1, PP.out.1.trans HJ.out, permIn_trans _ _ _ _ _ P1.out PP.out, s4⟩
                    · have HQ := hid (PQ.out hd2)
                      go_wp2
                      (try simp only [Exit.inBlock, Exit.then])
                      refine bodyPost_ret (results_none rfl _ _ _) rfl ?_
                      obtain ⟨p2, q2⟩ := HF.out _ (permIn_trans _ _ _ _ _ P1.out PP.out) HQ.out
                      exact ⟨rfl, _, s4, p2, q2⟩
                case rest =>
                  clear HJ SJ P1
                  clear dj
                  obtain ⟨dj, hj, p1, sj⟩ := hcut
                  have HJ := hid hj
                  have SJ := hid sj
                  have P1 := hid p1
                  clear hj sj p1
                  obtain ⟨G, HG, hcs, hfs⟩ := fam SJ.out RR.out HS0.out HJ.out
                  go_upto_region 17 with fail
                  go_cut [87] from 19 (fun s87 wx => ∃ t : Bool, s87 = .bool t ∧ (t = true → 0 < x ∧ ltInt dj[x - 1]! dj[pv]! = false) ∧ SW enU w0 b o dj wx)
                  case first =>
                    rcases Nat.eq_zero_or_pos x with ha0 | ha0
                    · have ha0z : decide ((x : Int) > 0) = false := decide_eq_false (by omega)
                      go_big_quiet (first | (go_at_call 40; refine Calls.quiet_of_same (HL.out _ _ _)))
                      go_wp2_with fail
                      go_meet
                      case rel => exact ⟨false, rfl, (fun e => by cases e), SJ.out.drewN nq⟩
                    · have ha0z : (x : Int) > 0 := by omega
                      go_big_quiet (first | (go_at_call 40; refine Calls.quiet_of_same (HL.out _ _ _)))
                      go_wp2_with fail
                      go_meet
                      case rel => exact ⟨!ltInt (G (x - 1)) (G pv), rfl, (fun e => ⟨ha0, by rw [← HG.out, ← HG.out]; exact notT e⟩), SJ.out.drewN nq⟩
                  case rest =>
                    obtain ⟨t, rfl, ht, s5⟩ := hcut
                    have S5 := hid s5
                    have HT := hid ht
                    have hB := HB.out.perm (by have := hk.out; omega) P1.out
                    clear SJ hcs hfs HG ht s5
                    cases t
                    · obtain ⟨mid, ap, d4, hx⟩ : ∃ mid ap d4, partition ltInt dj x y pv = (mid, ap, d4) := ⟨(partition ltInt dj x y pv).1, (partition ltInt dj x y pv).2.1, (partition ltInt dj x y pv).2.2, rfl⟩
                      obtain ⟨r1, r2, r3, r4, r5, r6, r7⟩ := round_part swo_ltInt (partition_holds ltInt) hc1 hc2 (show y ≤ dj.size by have := HJ.out; omega) hB hx
                      have hc := KR.out wc dj x y pv HJ.out S5.out hc1 hc2 hyN
                      rw [hx] at hc
                      simp only [] at hc
                      have HC := hid hc
                      have R4 := hid r4
                      have R5 := hid r5
                      have R6 := hid r6
                      have R7 := hid r7
                      have h4 : Hid (d4.size = N) := hid (r3.trans HJ.out)
                      clear hc hx r3 r4 r5 r6 r7 hB HT
                      go_upto_if 113 with (go_at_call 42; refine HC.out.mono ?_; rintro e w7 ⟨rfl, s7⟩)
                      have S7 := hid s7
                      clear s7 HC S5
                      by_cases hlr : mid - x < y - mid
                      · have hlrz : (mid : Int) - (x : Int) < (y : Int) - (mid : Int) := by omega
                        have HI := hid (IH.out x mid l1 d4 w7 (by omega) r1 (by omega) h4.out (by omega) S7.out R4.out)
                        go_wp2_with fail
                        refine HI.out.mono ?_
                        rintro e w8 ⟨rfl, d5, s8, p5, q5⟩
                        obtain ⟨b6, f6⟩ := R6.out d5 p5 q5
                        have HF6 := hid (fun F p s => HF.out F (permIn_trans _ _ _ _ _ P1.out (f6 F p s).1) (f6 F p s).2)
                        have B6 := hid b6
                        have S8 := hid s8
                        have h5 : Hid (d5.size = N) := hid (p5.1.trans h4.out)
                        clear b6 f6 s8 p5 q5
                        go_wp2
                        go_roundg (y - (mid + 1))
                        case measure => omega
                        case rel => exact ⟨mid + 1, y, l1, _, ap, d5, by simp, rfl, rfl, rfl, rfl, by omega, hyN, Nat.le_refl _, by omega, by omega, h5, B6, S8, HF6⟩
                      · have hlrz : ¬ ((mid : Int) - (x : Int) < (y : Int) - (mid : Int)) := by omega
                        have HI := hid (IH.out (mid + 1) y l1 d4 w7 (by omega) (by omega) hyN h4.out (by omega) S7.out R5.out)
                        go_wp2_with fail
                        refine HI.out.mono ?_
                        rintro e w8 ⟨rfl, d5, s8, p5, q5⟩
                        obtain ⟨b6, f6⟩ := R7.out d5 p5 q5
                        have HF6 := hid (fun F p s => HF.out F (permIn_trans _ _ _ _ _ P1.out (f6 F p s).1) (f6 F p s).2)
                        have B6 := hid b6
                        have S8 := hid s8
                        have h5 : Hid (d5.size = N) := hid (p5.1.trans h4.out)
                        clear b6 f6 s8 p5 q5
                        go_wp2
                        go_roundg (mid - x)
                        case measure => omega
                        case rel => exact ⟨x, mid, l1, _, ap, d5, rfl, rfl, rfl, rfl, rfl, r1, by omega, Nat.le_refl _, by omega, by omega, h5, B6, S8, HF6⟩
                    · obtain ⟨hx0, hnl⟩ := HT.out rfl
                      obtain ⟨mid, d4, hx⟩ : ∃ mid d4, partitionEqual ltInt dj x y pv = (mid, d4) := ⟨(partitionEqual ltInt dj x y pv).1, (partitionEqual ltInt dj x y pv).2, rfl⟩
                      obtain ⟨r1, r2, r3, r4, r5⟩ := round_eq swo_ltInt (partitionEqual_holds ltInt) hx0 hc1 hc2 (show y ≤ dj.size by have := HJ.out; omega) hB hnl hx
                      have hc := KE.out wc dj x y pv HJ.out S5.out hc1 hc2 hyN
                      rw [hx] at hc
                      simp only [] at hc
                      have HC := hid hc
                      have R4 := hid r4
                      have HF6 := hid (fun F p s => HF.out F (permIn_trans _ _ _ _ _ P1.out (r5 F p s).1) (r5 F p s).2)
                      have h4 : Hid (d4.size = N) := hid (r3.trans HJ.out)
                      clear hc hx r3 r4 r5 hB HT hnl
                      go_wp2_with fail
                      refine HC.out.mono ?_
                      rintro e w7 ⟨rfl, s7⟩
                      have S7 := hid s7
                      clear s7 HC S5
                      go_wp2
                      go_roundg (y - mid)
                      case measure => omega
                      case rel => exact ⟨mid, y, l1, wb, wp, d4, rfl, rfl, rfl, rfl, rfl, r2, hyN, Nat.le_refl _, by omega, by omega, h4, R4, S7, HF6⟩
end Go.Proofs.Ytiapmnedbjmmhaa
