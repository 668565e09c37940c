/- What both disks hold behind steps; both, made anew. -/
import Derived.Test.YtofaapcfileojaaDskU
namespace Go.Proofs.Ytofaapcfileojaa
open Go.RowKit

/-- What a disk holds behind steps. -/
def runD (room : Nat) (l : List StV) : DS := l.foldl stepD ⟨room, [], 0, -1⟩
theorem runD_snoc (room : Nat) (l : List StV) (x : StV) : runD room (l ++ [x]) = stepD (runD room l) x := by simp [runD]
theorem runD_ok {room : Nat} (h0 : 1 ≤ room) (h1 : room ≤ 1048576) (l : List StV) (hn : ∀ x ∈ l, x.n ≤ 9223372036854775807) : (runD room l).Ok := by
  rw [← l.reverse_reverse] at hn ⊢
  generalize l.reverse = r at *
  induction r with
  | nil => exact ⟨h0, h1, Nat.zero_le _, Nat.zero_le _, by show -1 ≤ -1; omega, by show -1 ≤ _; omega⟩
  | cons x r ih =>
    rw [List.reverse_cons] at hn ⊢
    rw [runD_snoc]
    exact step_ok (ih fun y hy => hn y (List.mem_append_left _ hy)) x (hn x (by simp))
theorem step_room (s : DS) (x : StV) : (stepD s x).room = s.room := by
  unfold stepD appD syncD swapD failD crashD DS.count
  split
  · split
    · rfl
    · split <;> rfl
  · split
    · split <;> rfl
    · split
      · split
        · rfl
        · split <;> rfl
      · split
        · rfl
        · split <;> rfl
theorem runD_room (room : Nat) (l : List StV) : (runD room l).room = room := by
  rw [← l.reverse_reverse]
  generalize l.reverse = r
  induction r with
  | nil => rfl
  | cons x r ih => rw [List.reverse_cons, runD_snoc, step_room, ih]
theorem ok_new {room : Nat} (h0 : 1 ≤ room) (h1 : room ≤ 1048576) : (⟨room, [], 0, -1⟩ : DS).Ok := runD_ok h0 h1 [] (fun x hx => by simp at hx)

theorem two_new {w2 w3 : World} {D R : Nat} {s : DS} (hs : s.bs = []) (hd : DAt DT (D + 1) w2 D s (.slice none 0 0)) (hr : DAt RT (R + 1) w3 R s (.slice none 0 0)) (hR : R = w2.heap.size) (hb : Below w2.heap.size w2 w3) : Two (R + 1) D R s w3 := by
  have hD := hd.below hb
  have hlt := hd.dlt
  refine ⟨.slice none 0 0, .slice none 0 0, ⟨hD.box, ?_, by omega, hr.size⟩, hr, by omega, fun k hk => by cases hk⟩
  rw [hs]
  exact World.ownsRow_nil _ _ _ _

/-- What was read lies in memory of its own: in none of the disk's blocks. -/
theorem give_apart {ty : TypeId} {base : Nat} {w : World} {D : Nat} {s : DS} {v : Value} (hd : DAt ty base w D s v) {l : List UInt8} {e : Ending} {w' : World} (h : GiveB w l e w') :
    ∃ A c, e = .returned (.slice A l.length c) ∧ l.length ≤ c ∧ ByO w' D v A l ∧ Below w.heap.size w w' := by
  obtain ⟨u, rfl, ho, hb⟩ := h
  obtain ⟨A, c, rfl, hc⟩ := own_form ho
  have hby := By.of_own ho
  refine ⟨A, c, rfl, hc, fun i x hx => ?_, hb⟩
  obtain ⟨b, o, rfl, h1, h2⟩ := hby.at_ i x hx
  have h3 := (ho.lt b rfl).1
  exact ⟨b, o, rfl, ⟨h1, fun e => by have := hd.dlt; omega, fun e => by have := (hd.ob b e).2; omega⟩, h2⟩

/-- A change that was refused turned nothing. -/
theorem app_cases (s : DS) (b : List UInt8) : (appD s b).1 = 0 ∨ ((appD s b).1 ≠ 0 ∧ (appD s b).2.bs = s.bs ∧ (appD s b).2.last = s.last) := by
  unfold appD DS.count
  split
  · exact .inr ⟨by show (7 : Int) ≠ 0; omega, rfl, rfl⟩
  · split
    · exact .inr ⟨by show (3 : Int) ≠ 0; omega, rfl, rfl⟩
    · exact .inl rfl
theorem sync_cases (s : DS) : (syncD s).1 = 0 ∨ ((syncD s).1 ≠ 0 ∧ (syncD s).2.bs = s.bs ∧ (syncD s).2.last = s.last) := by
  unfold syncD DS.count
  split
  · exact .inr ⟨by show (7 : Int) ≠ 0; omega, rfl, rfl⟩
  · exact .inl rfl
theorem swap_cases (s : DS) (b : List UInt8) : (swapD s b).1 = 0 ∨ ((swapD s b).1 ≠ 0 ∧ (swapD s b).2.bs = s.bs ∧ (swapD s b).2.last = s.last) := by
  unfold swapD DS.count
  split
  · exact .inr ⟨by show (7 : Int) ≠ 0; omega, rfl, rfl⟩
  · split
    · exact .inr ⟨by show (3 : Int) ≠ 0; omega, rfl, rfl⟩
    · exact .inl rfl

theorem Two.below {base D R : Nat} {s : DS} {w w' : World} (h : Two base D R s w) (hb : Below w.heap.size w w') : Two base D R s w' := by
  obtain ⟨v, u, h1, h2, h3, h4⟩ := h
  exact ⟨v, u, h1.below hb, h2.below hb, h3, h4⟩

/-- A test that failed: the steps are few, and short. -/
theorem long_false {l : List StV} (h : longB l = false) : l.length ≤ 120 ∧ ∀ x ∈ l, x.data.length ≤ 200 := by
  unfold longB at h
  rw [Bool.or_eq_false_iff] at h
  refine ⟨by have := of_decide_eq_false h.2; omega, fun x hx => ?_⟩
  have := List.any_eq_false.1 h.1 x hx
  simp at this
  exact this
end Go.Proofs.Ytofaapcfileojaa
