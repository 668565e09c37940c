/- The law FsmRestarts, walked. -/
import Derived.Test.YtbgkhggohlbdbaaDoorFsmF
namespace Go.Proofs.YtbgkhggohlbdbaaDoor
open Go.RowKit Go.Sort

/-- Where a server that began anew is: it heard nothing, and is in Startup; it heard something; it recovers. -/
def Anew (h r : Bool) (x : Int) : Prop := (h = false ∧ r = false ∧ x = 0) ∨ (h = true ∧ r = false) ∨ (h = true ∧ r = true ∧ RecI x)
/-- The states behind a step, as the law tests them. -/
theorem six_or (z : Int) : ((z == 6) = false ∧ decide (ServesI z) = false) ∨ ((z == 6) = false ∧ decide (ServesI z) = true) ∨ ((z == 6) = true ∧ decide (ServesI z) = false ∧ RecI z) := by
  simp only [beq_iff_eq, beq_eq_false_iff_ne, decide_eq_true_eq, decide_eq_false_iff_not]
  unfold ServesI RecI
  omega
theorem rec_or {x e o : Int} (h : RecI x) : (decide (ServesI (nextI evN x e o)) = false ∧ RecI (nextI evN x e o)) ∨ (decide (ServesI (nextI evN x e o)) = true ∧ ((e = 0 ∧ o = 1) ∨ (e = 0 ∧ (o == 1) = false ∧ nextI evN x e o ≠ 1) ∨ ((e == 0) = false ∧ nextI evN x e o ≠ 1) ∨ (nextI evN x e o = 1 ∧ e = 3))) := by
  by_cases hs : ServesI (nextI evN x e o)
  · refine .inr ⟨decide_eq_true hs, ?_⟩
    have := nextI_rec evN x e o h
    unfold evN at this
    simp only [beq_eq_false_iff_ne]
    simp only at this
    unfold evN
    generalize nextI _ _ _ _ = z at *
    omega
  · exact .inl ⟨decide_eq_false hs, nextI_rec_on evN x e o h hs⟩
theorem quiet_zero {e o : Int} (h0 : (e == 0) = false) (h2 : (e == 2) = false) : nextI evN 0 e o = 0 := nextI_quiet evN e o (by simpa [evN] using h0) (by simpa [evN] using h2)

set_option maxRecDepth 100000 in
set_option maxHeartbeats 4000000 in
theorem law_restarts (s : Int) (A : Option Addr) (c : Nat) (L : List (Int × Int)) (w : World) (hT : TabF w) (hL : Prs w w.heap.size A L) (hlen : L.length ≤ 9223372036854775807) :
    Calls Tryd.prog 6 #[.int .i64 s, .slice A L.length c] w fun e' w' => e' = .returned (.bool true) ∧ Below w.heap.size w w' := by
  have HA := Lib.hid (fun V (h : TabF V) => fawake_any V h)
  have HT := Lib.hid hT
  have HP := Lib.hid hL
  clear hT hL
  by_cases hok : 0 ≤ s ∧ s ≤ 8 ∧ s ≠ 3 ∧ L.length ≤ 300
  · obtain ⟨g1, g2, g4, g3⟩ := hok
    have hd1 : decide (s < 0) = false := by simp; omega
    have hd2 : decide (8 < s) = false := by simp; omega
    have hd4 : (s == 3) = false := by simpa using g4
    have hd3 : decide ((300 : Int) < (L.length : Int)) = false := by simp; omega
    have HR := Lib.hid (fun V => restart_any s V)
    rw [show restartI s = 0 by unfold restartI; rw [if_neg g4]] at HR
    clear g4
    go_enter Tryd.func6, Tryd.ntmps6
    go_wp2_with fail
    refine (HA.out _ HT.out).mono ?_
    rintro e w1 ⟨rfl, hb1⟩
    have HB1 := Lib.hid hb1
    clear hb1
    go_wp2_with fail
    refine (HR.out _).mono ?_
    rintro e w' ⟨rfl, rfl⟩
    go_wp2
    go_loopw [6, 7, 8, 9] (fun t h r i wr => ∃ (k : Nat) (x : Int) (hh rr : Bool), k ≤ L.length ∧ i = .int .i64 k ∧ t = .int .i64 x ∧ h = .bool hh ∧ r = .bool rr ∧ Anew hh rr x ∧ Below w.heap.size w wr) (fun _ _ _ i _ => L.length - (intOf i).toNat)
    case atStart => exact ⟨0, 0, false, false, Nat.zero_le _, rfl, rfl, rfl, rfl, .inl ⟨rfl, rfl, rfl⟩, HB1.out⟩
    case round =>
      obtain ⟨k, x, hh, rr, hk, rfl, rfl, rfl, rfl, hx, hb⟩ := hrel
      by_cases hlt : k < L.length
      · have hd : decide ((k : Int) < (L.length : Int)) = true := by simp; omega
        obtain ⟨⟨e, o⟩, hy⟩ : ∃ y, L[k]? = some y := ⟨_, List.getElem?_eq_getElem hlt⟩
        obtain ⟨b, q, rfl, hB, c1, c2⟩ := (HP.out.below hb).at_ k _ hy
        have HN := Lib.hid (next_grown (HT.out.next hb) x e o)
        have HB := Lib.hid hb
        simp only at c1 c2
        have r1 := fun d os => cell_regrown c1 d os
        have r2 := fun d os => cell_regrown c2 d os
        have C1 := Lib.hid r1
        have C2 := Lib.hid r2
        have HX := Lib.hid hx
        have HZ : Hid (∀ V, Calls Tryd.prog 11 #[.int .i64 (nextI evN x e o)] V fun e' w' => e' = .returned (.bool (decide (ServesI (nextI evN x e o)))) ∧ V = w') := Lib.hid fun V => serves_any _ V
        obtain ⟨z, hz⟩ : ∃ z, z = nextI evN x e o := ⟨_, rfl⟩
        rw [← hz] at HN HZ
        have HE := Lib.hid hz
        clear hy hb c1 c2 hx hz
        go_upto_region 10 with fail
        refine wp_region_quiet_below (by kernel_rfl) (by kernel_rfl) ?_
        repeat (quiet_step ((go_at_call 9; exact HN.out _ _)))
        refine wpQuiet_nil ?_
        intro _ hw'
        obtain ⟨⟨dq, osq⟩, hw''⟩ := hw'
        subst hw''
        have HB2 := Lib.hid (HB.out.trans ((below_regrown wr dq osq).mono HB.out.size))
        have c3 := C1.out dq osq
        have c4 := C2.out dq osq
        clear r1 r2 C1 C2 HN
        generalize grow (redrawn wr dq) osq = w2 at *
        rcases HX.out with ⟨rfl, rfl, rfl⟩ | ⟨rfl, rfl⟩ | ⟨rfl, rfl, hx⟩
        · by_cases h0 : e = 0
          · subst h0
            rcases six_or z with ⟨t1, t2⟩ | ⟨t1, t2⟩ | ⟨t1, t2, t3⟩
            · rw [t2] at HZ
              clear t2
              go_wp2_with fail
              refine (HZ.out _).mono ?_
              rintro e w' ⟨rfl, rfl⟩
              go_wp2
              go_roundw
              case rel => exact ⟨k + 1, _, _, _, by omega, by go_num, rfl, rfl, rfl, .inr (.inl ⟨rfl, rfl⟩), HB2.out⟩
              case measure => simp [intOf]; omega
            · rw [t2] at HZ
              clear t2
              go_wp2_with fail
              refine (HZ.out _).mono ?_
              rintro e w' ⟨rfl, rfl⟩
              go_wp2
              go_roundw
              case rel => exact ⟨k + 1, _, _, _, by omega, by go_num, rfl, rfl, rfl, .inr (.inl ⟨rfl, rfl⟩), HB2.out⟩
              case measure => simp [intOf]; omega
            · rw [t2] at HZ
              have HT3 := Lib.hid t3
              clear t2 t3
              go_wp2_with fail
              refine (HZ.out _).mono ?_
              rintro e w' ⟨rfl, rfl⟩
              go_wp2_with fail
              refine (HZ.out _).mono ?_
              rintro e w' ⟨rfl, rfl⟩
              go_wp2
              go_roundw
              case rel => exact ⟨k + 1, _, _, _, by omega, by go_num, rfl, rfl, rfl, .inr (.inr ⟨rfl, rfl, HT3.out⟩), HB2.out⟩
              case measure => simp [intOf]; omega
          by_cases h2 : e = 2
          · subst h2
            rcases six_or z with ⟨t1, t2⟩ | ⟨t1, t2⟩ | ⟨t1, t2, t3⟩
            · rw [t2] at HZ
              clear t2
              go_wp2_with fail
              refine (HZ.out _).mono ?_
              rintro e w' ⟨rfl, rfl⟩
              go_wp2
              go_roundw
              case rel => exact ⟨k + 1, _, _, _, by omega, by go_num, rfl, rfl, rfl, .inr (.inl ⟨rfl, rfl⟩), HB2.out⟩
              case measure => simp [intOf]; omega
            · rw [t2] at HZ
              clear t2
              go_wp2_with fail
              refine (HZ.out _).mono ?_
              rintro e w' ⟨rfl, rfl⟩
              go_wp2
              go_roundw
              case rel => exact ⟨k + 1, _, _, _, by omega, by go_num, rfl, rfl, rfl, .inr (.inl ⟨rfl, rfl⟩), HB2.out⟩
              case measure => simp [intOf]; omega
            · rw [t2] at HZ
              have HT3 := Lib.hid t3
              clear t2 t3
              go_wp2_with fail
              refine (HZ.out _).mono ?_
              rintro e w' ⟨rfl, rfl⟩
              go_wp2_with fail
              refine (HZ.out _).mono ?_
              rintro e w' ⟨rfl, rfl⟩
              go_wp2
              go_roundw
              case rel => exact ⟨k + 1, _, _, _, by omega, by go_num, rfl, rfl, rfl, .inr (.inr ⟨rfl, rfl, HT3.out⟩), HB2.out⟩
              case measure => simp [intOf]; omega
          · have t0 : (e == 0) = false := by simpa using h0
            have t2 : (e == 2) = false := by simpa using h2
            have hz := HE.out
            rw [quiet_zero t0 t2] at hz
            subst hz
            rw [show decide (ServesI 0) = false by decide] at HZ
            clear h0 h2
            go_wp2_with fail
            refine (HZ.out _).mono ?_
            rintro e w' ⟨rfl, rfl⟩
            go_wp2
            go_roundw
            case rel => exact ⟨k + 1, _, _, _, by omega, by go_num, rfl, rfl, rfl, .inl ⟨rfl, rfl, rfl⟩, HB2.out⟩
            case measure => simp [intOf]; omega
        · rcases six_or z with ⟨t1, t2⟩ | ⟨t1, t2⟩ | ⟨t1, t2, t3⟩
          · rw [t2] at HZ
            clear t2
            go_wp2_with fail
            refine (HZ.out _).mono ?_
            rintro e w' ⟨rfl, rfl⟩
            go_wp2
            go_roundw
            case rel => exact ⟨k + 1, _, _, _, by omega, by go_num, rfl, rfl, rfl, .inr (.inl ⟨rfl, rfl⟩), HB2.out⟩
            case measure => simp [intOf]; omega
          · rw [t2] at HZ
            clear t2
            go_wp2_with fail
            refine (HZ.out _).mono ?_
            rintro e w' ⟨rfl, rfl⟩
            go_wp2
            go_roundw
            case rel => exact ⟨k + 1, _, _, _, by omega, by go_num, rfl, rfl, rfl, .inr (.inl ⟨rfl, rfl⟩), HB2.out⟩
            case measure => simp [intOf]; omega
          · rw [t2] at HZ
            have HT3 := Lib.hid t3
            clear t2 t3
            go_wp2_with fail
            refine (HZ.out _).mono ?_
            rintro e w' ⟨rfl, rfl⟩
            go_wp2_with fail
            refine (HZ.out _).mono ?_
            rintro e w' ⟨rfl, rfl⟩
            go_wp2
            go_roundw
            case rel => exact ⟨k + 1, _, _, _, by omega, by go_num, rfl, rfl, rfl, .inr (.inr ⟨rfl, rfl, HT3.out⟩), HB2.out⟩
            case measure => simp [intOf]; omega
        · have hrec := rec_or (e := e) (o := o) hx
          rw [← HE.out] at hrec
          rcases hrec with ⟨t2, t3⟩ | ⟨t2, t3⟩
          · rw [t2] at HZ
            have HT3 := Lib.hid t3
            clear t2 t3 hx
            go_wp2_with fail
            refine (HZ.out _).mono ?_
            rintro e w' ⟨rfl, rfl⟩
            go_wp2_with fail
            refine (HZ.out _).mono ?_
            rintro e w' ⟨rfl, rfl⟩
            go_wp2
            go_roundw
            case rel => exact ⟨k + 1, _, _, _, by omega, by go_num, rfl, rfl, rfl, .inr (.inr ⟨rfl, rfl, HT3.out⟩), HB2.out⟩
            case measure => simp [intOf]; omega
          · rw [t2] at HZ
            clear t2 hx
            rcases t3 with ⟨rfl, rfl⟩ | ⟨rfl, t4, t5⟩ | ⟨t4, t5⟩ | ⟨rfl, rfl⟩
            all_goals
              go_wp2_with fail
              refine (HZ.out _).mono ?_
              rintro e w' ⟨rfl, rfl⟩
              go_wp2_with fail
              refine (HZ.out _).mono ?_
              rintro e w' ⟨rfl, rfl⟩
              go_wp2
              go_ret
              exact ⟨rfl, HB2.out⟩
      · have hd : decide ((k : Int) < (L.length : Int)) = false := by simp; omega
        have HB := Lib.hid hb
        clear hb
        go_wp2
        go_ret
        exact ⟨rfl, HB.out⟩
  · have hor : decide (s < 0) = true ∨ (decide (s < 0) = false ∧ decide (8 < s) = true) ∨ (decide (s < 0) = false ∧ decide (8 < s) = false ∧ (s == 3) = true) ∨ (decide (s < 0) = false ∧ decide (8 < s) = false ∧ (s == 3) = false ∧ decide ((300 : Int) < (L.length : Int)) = true) := by
      simp only [decide_eq_true_eq, decide_eq_false_iff_not, beq_iff_eq, beq_eq_false_iff_ne]
      omega
    clear hok
    rcases hor with h1 | ⟨h1, h2⟩ | ⟨h1, h2, h3⟩ | ⟨h1, h2, h3, h4⟩
    all_goals
      go_enter Tryd.func6, Tryd.ntmps6
      go_wp2_with fail
      refine (HA.out _ HT.out).mono ?_
      rintro e w1 ⟨rfl, hb1⟩
      have HB1 := Lib.hid hb1
      clear hb1
      go_wp2
      go_ret
      exact ⟨rfl, HB1.out⟩
end Go.Proofs.YtbgkhggohlbdbaaDoor
