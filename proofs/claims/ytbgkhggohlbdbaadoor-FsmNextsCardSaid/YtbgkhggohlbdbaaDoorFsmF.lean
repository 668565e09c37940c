/- Rows of pairs of numbers, and of truths, in memory; the laws FsmOrders, FsmRestarts, FsmMeets, walked. -/
import Derived.Test.YtbgkhggohlbdbaaDoorFsmE
import Derived.Deep.QuietTactic
import Derived.Lib.QuietBelow
import Derived.Deep.DeepCutAuto
namespace Go.Proofs.YtbgkhggohlbdbaaDoor
open Go.RowKit Go.Sort

structure Prs (w : World) (B : Nat) (A : Option Addr) (l : List (Int × Int)) : Prop where
  at_ : ∀ i x, l[i]? = some x → ∃ b o, A = some ⟨b, o, none⟩ ∧ b < B ∧ w.cell? ⟨b, o + i * 2, none⟩ = some (.int .i64 x.1) ∧ w.cell? ⟨b, o + i * 2 + 1, none⟩ = some (.int .i64 x.2)
theorem Prs.below {w w' : World} {B : Nat} {A : Option Addr} {l : List (Int × Int)} (h : Prs w B A l) (hb : Below B w w') : Prs w' B A l :=
  ⟨fun i x hx => by
    obtain ⟨b, o, rfl, hB, h1, h2⟩ := h.at_ i x hx
    exact ⟨b, o, rfl, hB, (hb.cell hB).trans h1, (hb.cell hB).trans h2⟩⟩
structure Bls (w : World) (B : Nat) (A : Option Addr) (l : List Bool) : Prop where
  at_ : ∀ i x, l[i]? = some x → ∃ b o, A = some ⟨b, o, none⟩ ∧ b < B ∧ w.cell? ⟨b, o + i, none⟩ = some (.bool x)
theorem Bls.below {w w' : World} {B : Nat} {A : Option Addr} {l : List Bool} (h : Bls w B A l) (hb : Below B w w') : Bls w' B A l :=
  ⟨fun i x hx => by
    obtain ⟨b, o, rfl, hB, h1⟩ := h.at_ i x hx
    exact ⟨b, o, rfl, hB, (hb.cell hB).trans h1⟩⟩

/-- Next, in whatever world of a class that keeps what lay. -/
theorem next_grown {w : World} (hT : TabF w) (s e o : Int) : ∀ d os, Calls Tryd.prog 9 #[.int .i64 s, .int .i64 e, .int .i64 o] (grow (redrawn w d) os) fun e' w'' => e' = .returned (.int .i64 (nextI evN s e o)) ∧ ∃ p : Regrown, w'' = grow (redrawn w p.d) p.os :=
  fun d os => Calls.regrown_of (next_any s e o _ (hT.next (below_regrown w d os)))

set_option maxRecDepth 100000 in
set_option maxHeartbeats 2000000 in
theorem law_orders (s : Int) (A : Option Addr) (c : Nat) (L : List (Int × Int)) (w : World) (hT : TabF w) (hL : Prs w w.heap.size A L) (hlen : L.length ≤ 9223372036854775807) :
    Calls Tryd.prog 5 #[.int .i64 s, .slice A L.length c] w fun e' w' => e' = .returned (.bool true) ∧ Below w.heap.size w w' := by
  have HA := Lib.hid (fun V (h : TabF V) => fawake_any V h)
  have HT := Lib.hid hT
  have HP := Lib.hid hL
  clear hT hL
  by_cases hok : 0 ≤ s ∧ s ≤ 8 ∧ L.length ≤ 300
  · obtain ⟨g1, g2, g3⟩ := hok
    have hd1 : decide (s < 0) = false := by simp; omega
    have hd2 : decide (8 < s) = false := by simp; omega
    have hd3 : decide ((300 : Int) < (L.length : Int)) = false := by simp; omega
    go_enter Tryd.func5, Tryd.ntmps5
    go_wp2_with fail
    refine (HA.out _ HT.out).mono ?_
    rintro e w1 ⟨rfl, hb1⟩
    have HB1 := Lib.hid hb1
    clear hb1
    go_wp2
    go_loopw [0, 6] (fun t i wr => ∃ (k : Nat) (x : Int), k ≤ L.length ∧ i = .int .i64 k ∧ t = .int .i64 x ∧ (0 ≤ x ∧ x ≤ 8) ∧ Below w.heap.size w wr) (fun _ i _ => L.length - (intOf i).toNat)
    case atStart => exact ⟨0, s, Nat.zero_le _, rfl, rfl, ⟨g1, g2⟩, HB1.out⟩
    case round =>
      obtain ⟨k, x, hk, rfl, rfl, hx, hb⟩ := hrel
      by_cases hlt : k < L.length
      · have hd : decide ((k : Int) < (L.length : Int)) = true := by simp; omega
        obtain ⟨⟨e, o⟩, hy⟩ : ∃ y, L[k]? = some y := ⟨_, List.getElem?_eq_getElem hlt⟩
        obtain ⟨b, q, rfl, hB, c1, c2⟩ := (HP.out.below hb).at_ k _ hy
        have HN := Lib.hid (next_grown (HT.out.next hb) x e o)
        have HI := Lib.hid (nextI_in evN x e o hx)
        have HB := Lib.hid hb
        simp only at c1 c2
        have r1 := fun d os => cell_regrown c1 d os
        have r2 := fun d os => cell_regrown c2 d os
        have C1 := Lib.hid r1
        clear hy hb c1 c2
        generalize nextI evN x e o = z at *
        go_upto_region 7 with fail
        refine wp_region_quiet_below (by kernel_rfl) (by kernel_rfl) ?_
        repeat (quiet_step ((go_at_call 9; exact HN.out _ _)))
        refine wpQuiet_nil ?_
        intro _ hw'
        obtain ⟨⟨dq, osq⟩, hw''⟩ := hw'
        subst hw''
        have HB2 := Lib.hid (HB.out.trans ((below_regrown wr dq osq).mono HB.out.size))
        have c3 := C1.out dq osq
        clear r1 r2 C1 HN
        generalize grow (redrawn wr dq) osq = w2 at *
        have hor : (z == 3) = false ∨ (z = 3 ∧ x = 3) ∨ (z = 3 ∧ x ≠ 3 ∧ e = 2) := by
          have := HI.out.2.2
          simp only [beq_eq_false_iff_ne]
          unfold evN at this
          simp only at this
          omega
        have HI' : Hid (0 ≤ z ∧ z ≤ 8) := Lib.hid ⟨HI.out.1, HI.out.2.1⟩
        clear HI hx
        rcases hor with t1 | ⟨rfl, rfl⟩ | ⟨rfl, t2, rfl⟩
        all_goals
          have hz1 := decide_eq_false (Int.not_lt.2 HI'.out.1)
          have hz2 := decide_eq_false (Int.not_lt.2 HI'.out.2)
          go_wp2
          go_roundw
          case rel => exact ⟨k + 1, _, by omega, by go_num, rfl, HI'.out, HB2.out⟩
          case measure => simp [intOf]; omega
      · have hd : decide ((k : Int) < (L.length : Int)) = false := by simp; omega
        have HB := Lib.hid hb
        clear hb
        go_wp2
        go_ret
        exact ⟨rfl, HB.out⟩
  · have hor : decide (s < 0) = true ∨ (decide (s < 0) = false ∧ decide (8 < s) = true) ∨ (decide (s < 0) = false ∧ decide (8 < s) = false ∧ decide ((300 : Int) < (L.length : Int)) = true) := by
      simp only [decide_eq_true_eq, decide_eq_false_iff_not]
      omega
    clear hok
    rcases hor with h1 | ⟨h1, h2⟩ | ⟨h1, h2, h3⟩
    all_goals
      go_enter Tryd.func5, Tryd.ntmps5
      go_wp2_with fail
      refine (HA.out _ HT.out).mono ?_
      rintro e w1 ⟨rfl, hb1⟩
      have HB1 := Lib.hid hb1
      clear hb1
      go_wp2
      go_ret
      exact ⟨rfl, HB1.out⟩
end Go.Proofs.YtbgkhggohlbdbaaDoor
