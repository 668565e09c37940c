/- All that is asked of the program's box and record (box_any, seen_any). -/
import Derived.Test.YtekladmddfibaaaOutC
import Derived.Test.YtekladmddfibaaaOutS
import Derived.Test.YtekladmddfibaaaOutG
import Derived.Test.YtekladmddfibaaaBoxK
namespace Go.Proofs.Ytekladmddfibaaa
open Go.RowKit Go.Sort Go.Maps Go.Shelf

theorem ticked_tq (g bS bN bW : Nat) (P : Int → Nat) (B : BxV) (now : Int) : TQ g bS bN bW P (B.ticked now).l = TQ g bS bN bW P B.l := tq_map _ _ (sent_m now)
theorem again_tq (g bS bN bW : Nat) (P : Int → Nat) (B : BxV) : TQ g bS bN bW P B.again.l = TQ g bS bN bW P B.l := tq_map _ _ (fun _ => rfl)

set_option maxRecDepth 100000 in
theorem otick_any {w : World} {Q : Nat → Prop} {g : Nat} {B : BxV} (now : Int) (h : TB w Q g B) :
    Calls Try.prog 25 #[.pointer (some ⟨g, 0, none⟩), .int .i64 now] w fun e w' => ∃ Q' A c, e = .returned (.tuple #[.slice A (B.tick now).2.1.length c, .int .i64 (B.tick now).2.2]) ∧ OutM w w' Q' A c (B.tick now).2.1 ∧ TB w' Q' g (B.tick now).1 ∧ Way Q w Q' w' := by
  by_cases hr : 0 ≤ now ∧ now ≤ 1099511627776
  · obtain ⟨bS, bN, bW, P, hT, hok, rfl⟩ := h
    have hE : B.tick now = (B.ticked now, B.told now, 0) := by unfold BxV.tick; rw [if_pos hr]
    rw [hE]
    refine (callsIn_wide.1 (otick_in now hr.1 hr.2 hT hok)).mono ?_
    rintro e w' ⟨A, c, rfl, hrow, hT2, hw⟩
    obtain ⟨A', c', e1, hf⟩ := own_form hrow
    injection e1 with e1 _ e3
    refine ⟨_, A, c, rfl, ⟨hrow, by rw [e3]; exact hf, fun b hb hq => ?_⟩, ⟨bS, bN, bW, P, hT2, ticked_ok hok hr.1 hr.2, (ticked_tq ..).symm⟩, hw⟩
    have := hT.lt b hq
    have := (hrow.lt b hb).1
    omega
  · have hE : B.tick now = (B, [], 1) := by unfold BxV.tick; rw [if_neg hr]
    rw [hE]
    have hA : Below w.heap.size w (w.alloc (.cells #[.int .i64 now] 3)) := (Below.refl _ _).alloc (Nat.le_refl _) _
    have HT := Lib.hid (h.keep (KpT.of_below hA h.lt))
    have HA := Lib.hid hA
    have hOut : ∀ W, OutM w W Q none 0 [] := fun W => ⟨World.ownsRow_nil _ _ _ _, Nat.le_refl _, fun b hb => by cases hb⟩
    clear h hA hE
    by_cases h0 : now < 0
    · have hd : decide (now < 0) = true := decide_eq_true h0
      clear hr h0
      go_enter Try.func25, Try.ntmps25
      go_wp2
      go_ret2
      exact ⟨Q, none, 0, rfl, hOut _, HT.out, Way.of_below HA.out⟩
    · have hd : decide (now < 0) = false := decide_eq_false h0
      have hd2 : decide (1099511627776 < now) = true := decide_eq_true (by omega)
      clear hr h0
      go_enter Try.func25, Try.ntmps25
      go_wp2
      go_ret2
      exact ⟨Q, none, 0, rfl, hOut _, HT.out, Way.of_below HA.out⟩

theorem box_any : BoxK TB where
  ok := fun h => by obtain ⟨_, _, _, _, _, hok, _⟩ := h; exact hok
  lt := fun h => h.lt
  keep := fun h hk => h.keep hk
  new := onew_any
  put := fun {w Q g B} m hm h => by
    obtain ⟨bS, bN, bW, P, hT, hok, rfl⟩ := h
    refine (oput_any m hm hT hok).mono ?_
    rintro e w' ⟨rfl, P', h1, h2⟩
    exact ⟨_, rfl, ⟨bS, bN, bW, P', h1, put_ok hok m hm, rfl⟩, h2⟩
  ack := fun {w Q g B} x h => by
    obtain ⟨bS, bN, bW, P, hT, hok, rfl⟩ := h
    refine (oacked_any x hT hok).mono ?_
    rintro e w' ⟨rfl, P', h1, h2⟩
    exact ⟨_, rfl, ⟨bS, bN, bW, P', h1, acked_ok hok x, rfl⟩, h2⟩
  tick := fun now h => otick_any now h
  again := fun {w Q g B} h => by
    obtain ⟨bS, bN, bW, P, hT, hok, rfl⟩ := h
    refine (oagain_any hT).mono ?_
    rintro e w' ⟨rfl, h1, h2⟩
    exact ⟨_, rfl, ⟨bS, bN, bW, P, h1, again_ok hok, (again_tq ..).symm⟩, h2⟩
  len := fun {w Q g B} h => by
    obtain ⟨bS, bN, bW, P, hT, hok, rfl⟩ := h
    exact olen_any hT hok
  last := fun {w Q g B} h => by
    obtain ⟨bS, bN, bW, P, hT, hok, rfl⟩ := h
    exact olast_any hT
  busy := fun {w Q g B} a ha h => by
    obtain ⟨bS, bN, bW, P, hT, hok, rfl⟩ := h
    exact obusy_any a ha hT
theorem seen_any : SeenK US where
  lt := fun h => h.lt
  keep := fun h hk => h.keep hk
  new := onews_any
  take := fun m hm h => otake_any m hm h
  note := fun m ok hm _ h => onote_any m ok hm h
end Go.Proofs.Ytekladmddfibaaa
