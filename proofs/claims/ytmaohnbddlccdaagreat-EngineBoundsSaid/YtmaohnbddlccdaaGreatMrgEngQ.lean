/- engine, pure: what comes of a query is what comes of its packet; two answers of Pool are one. -/
import Derived.Test.YtmaohnbddlccdaaGreatMrgEngY
namespace Go.Proofs.YtmaohnbddlccdaaGreat
open Go.RowKit Go.Sort

theorem look_self {L : List LV} (h : TabL L) {x : LV} (hx : x ∈ L) : lookE L x.addr = some x := by
  cases hl : lookE L x.addr with
  | none =>
    have := List.find?_eq_none.1 hl x hx
    simp at this
  | some y =>
    obtain ⟨hy, he⟩ := look_mem hl
    obtain ⟨i, hi⟩ := List.mem_iff_getElem?.1 hx
    obtain ⟨j, hj⟩ := List.mem_iff_getElem?.1 hy
    have e := addr_inj h.up hi hj he.symm
    subst e
    rw [hi] at hj
    injection hj with hj
    rw [hj]
theorem first_find {L : List LV} (h : TabL L) (p : LV → Bool) : ∀ (M : List LV), (∀ x ∈ M, x ∈ L) → firstE p L M = M.find? p
  | [], _ => rfl
  | x :: M, hm => by
    have e : atE p L x.addr = if p x = true then some x else none := by
      unfold atE
      rw [look_self h (hm x (by simp))]
      cases hp : p x <;> simp [Option.filter, hp]
    have ih := first_find h p M (fun y hy => hm y (List.mem_cons_of_mem x hy))
    unfold firstE at ih ⊢
    rw [List.findSome?_cons, e, List.find?_cons]
    cases hp : p x
    · simpa using ih
    · simp
theorem find_of (L : List LV) (c : List UInt8) : (ofL L c).find? (theirsB · c) = L.find? (theirsB · c) := by
  unfold ofL
  rw [List.find?_filter]
  congr 1
  funext m
  unfold theirsB
  cases h1 : (m.bind == 2)
  · simp
  · have e : m.bind = 2 := by simpa using h1
    have hh : HeldL m.bind := .inl e
    simp only [hh, decide_true, Bool.true_and]
    cases h2 : (m.client == c) <;> simp
theorem choose_pick {q : QV} {L : List LV} (h : TabL L) : chooseQ q L = pickE q.cl (mayQ q) L q.ad := by
  unfold chooseQ pickE
  have e1 : firstE (hasE q) L (ofL L q.cl) = L.find? (theirsB · q.cl) := by
    rw [first_find h _ _ (fun x hx => of_sub hx)]
    exact find_of L q.cl
  have e2 : firstE (mayQ q) L L = L.find? (mayQ q) := first_find h _ _ (fun x hx => hx)
  rw [e1, e2]
  unfold atE
  cases L.find? (theirsB · q.cl)
  · cases (lookE L q.ad).filter (mayQ q) <;> rfl
  · rfl

/-- A query asks what its packet does. -/
structure AskS (q : QV) (x : SiteV) (p : NO.PktV) (s now entry : Int) : Prop where
  hx : q.x = x
  hp : q.p = p
  hcl : q.cl = NO.clientA p.abs
  had : q.ad = NO.askA p.abs
  hwant : q.want = wantE x p.abs
  hs : q.s = s
  hnow : q.now = now
  hentry : q.entry = entry
section
variable {q : QV} {x : SiteV} {p : NO.PktV} {s now entry : Int} {L : List LV}
theorem long_q (h : AskS q x p s now entry) (m : LV) : longQ q m = longE x p.abs now m := by
  unfold longQ longE; rw [h.hx, h.hnow, h.hwant, h.hcl]
theorem may_q (h : AskS q x p s now entry) : mayQ q = mayE x s now entry := by
  funext m; unfold mayQ; rw [h.hx, h.hs, h.hnow, h.hentry]
theorem disc_q (h : AskS q x p s now entry) (hT : TabL L) : discQ q L = offerE x L s now entry p.abs := by
  unfold discQ offerE
  rw [choose_pick hT, may_q h, h.hcl, h.had, h.hs, h.hx, h.hp]
  have e : ((s == 1 && !mineE x (NO.clientA p.abs)) = true) = (s = 1 ∧ mineE x (NO.clientA p.abs) = false) := by simp
  simp only [e, long_q h]
  rfl
theorem bound_q (h : AskS q x p s now entry) (m : LV) : boundQ q m = boundE x now p.abs m := by
  unfold boundQ boundE
  rw [long_q h, h.hx, h.hp, h.hcl, h.hnow, h.hwant]
theorem request_q (h : AskS q x p s now entry) : requestQ q L = requestE x L s now entry p.abs := by
  unfold requestQ requestE atE
  have e : givesQ q = givesE x s now entry p.abs := by
    funext m
    unfold givesQ givesE
    rw [long_q h, may_q h, h.hcl]
  rw [e, h.had, h.hx, h.hp]
  have e2 : ∀ m, boundQ q m = boundE x now p.abs m := bound_q h
  simp only [e2]
  rfl
theorem decline_q (h : AskS q x p s now entry) : declineQ q L = declineE L p.abs := by
  unfold declineQ declineE atE
  have e : hasE q = (theirsB · (NO.clientA p.abs)) := by funext m; unfold hasE; rw [h.hcl]
  rw [e, h.had]
  rfl
theorem release_q (h : AskS q x p s now entry) : releaseQ q L = releaseE L now p.abs := by
  unfold releaseQ releaseE atE
  have e : hasE q = (theirsB · (NO.clientA p.abs)) := by funext m; unfold hasE; rw [h.hcl]
  rw [e, h.hp, h.hnow]
  rfl
end
end Go.Proofs.YtmaohnbddlccdaaGreat
