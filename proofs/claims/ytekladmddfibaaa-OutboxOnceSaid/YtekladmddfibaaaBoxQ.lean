/- outbox, pure: what comes of puts of updates, of answers to what is out. -/
import Derived.Test.YtekladmddfibaaaBoxK
namespace Go.Proofs.Ytekladmddfibaaa

theorem upd_may (a : Nat) (n : Int) : UpdM (updM a n) := by
  refine ⟨rfl, rfl, rfl, by show (0 : Int) ≤ 2; decide, by show (2 : Int) ≤ 5; decide, ?_, ?_, by show (0 : Int) ≤ 0; decide, by show (0 : Int) ≤ 1099511627776; decide, by show (⟨#[97]⟩ : ByteArray).size ≤ 32; decide⟩
  · show 0 ≤ n % 65536; omega
  · show n % 65536 ≤ 1099511627776; omega
/-- What goes out, told in numbers. -/
theorem goes_grow (B : BxV) (a : Nat) : B.xid ≤ (B.goes a).xid ∧ (B.goes a).xid ≤ B.xid + 1 ∧ ((B.goes a).l.length : Int) - B.l.length = (B.goes a).xid - B.xid ∧ (∀ o ∈ B.l, o ∈ (B.goes a).l) ∧ (∀ o ∈ (B.goes a).l, o ∈ B.l ∨ (o.m.xid = B.xid + 1 ∧ o.sent = -1)) := by
  rcases goes_cases B a with ⟨_, e⟩ | ⟨_, _, _, e⟩ | ⟨_, _, m, W1, W2, _, _, _, e⟩
  · rw [e]; exact ⟨by omega, by omega, by omega, fun o ho => ho, fun o ho => .inl ho⟩
  · rw [e]; exact ⟨by omega, by omega, by omega, fun o ho => ho, fun o ho => .inl ho⟩
  · rw [e]
    refine ⟨by show B.xid ≤ B.xid + 1; omega, by show B.xid + 1 ≤ B.xid + 1; omega, ?_, fun o ho => List.mem_append_left _ ho, fun o ho => ?_⟩
    · show ((B.l ++ [outO m (B.xid + 1)]).length : Int) - B.l.length = B.xid + 1 - B.xid
      rw [List.length_append]
      simp
      omega
    · rcases List.mem_append.1 ho with ho | ho
      · exact .inl ho
      · rw [List.mem_singleton.1 ho]
        exact .inr ⟨rfl, rfl⟩
theorem put_upd {B : BxV} (hx : B.xid < 1073741824) (a : Nat) (n : Int) : B.put (updM a n) = ((B.waits (updM a n)).goes a, 0) := by
  unfold BxV.put
  rw [if_pos (upd_may a n), if_neg (by omega)]
  rfl
/-- Behind k puts of updates, with nothing told or answered. -/
structure PutsI (B : BxV) (k : Int) : Prop where
  ok : B.Ok
  cnt : B.xid = B.l.length
  few : B.xid ≤ k
  fresh : ∀ o ∈ B.l, o.sent = -1
theorem puts_new : PutsI newB 0 := ⟨new_ok, rfl, by decide, by simp [newB]⟩
theorem puts_step {B : BxV} {k : Int} (h : PutsI B k) (hk : k < 1073741824) (a : Nat) (n : Int) (ha : a < 4294967296) : PutsI (B.put (updM a n)).1 (k + 1) := by
  have h1 := h.few
  have h2 := h.cnt
  refine ⟨put_ok h.ok _ ha, ?_, ?_, ?_⟩ <;> rw [put_upd (by omega)]
  · obtain ⟨_, _, h3, _, _⟩ := goes_grow (B.waits (updM a n)) a
    have e1 : (B.waits (updM a n)).l = B.l := rfl
    have e2 : (B.waits (updM a n)).xid = B.xid := rfl
    rw [e1, e2] at h3
    show ((B.waits (updM a n)).goes a).xid = (((B.waits (updM a n)).goes a).l.length : Int)
    omega
  · obtain ⟨_, h3, _⟩ := goes_grow (B.waits (updM a n)) a
    have e2 : (B.waits (updM a n)).xid = B.xid := rfl
    rw [e2] at h3
    show ((B.waits (updM a n)).goes a).xid ≤ _
    omega
  · intro o ho
    obtain ⟨_, _, _, _, h3⟩ := goes_grow (B.waits (updM a n)) a
    rcases h3 o ho with h4 | h4
    · exact h.fresh o h4
    · exact h4.2
theorem len_out {B : BxV} (h : B.Ok) (hx : B.xid < 1073741824) : B.len = B.l.length := by
  unfold BxV.len
  rw [List.countP_eq_zero.2 fun m hm => by rw [h.busy hx m hm]; decide]
  rfl
theorem tick_all {B : BxV} (hs : ∀ o ∈ B.l, o.sent = -1) : B.tick 5 = (B.ticked 5, B.l.map (·.m), 0) := by
  unfold BxV.tick BxV.told
  rw [if_pos (by decide), List.filter_eq_self.2 fun o ho => by unfold dueO; rw [hs o ho]; decide]
theorem again_all {B : BxV} : ∀ o ∈ B.again.l, o.sent = -1 := by
  intro o ho
  obtain ⟨p, _, rfl⟩ := List.mem_map.1 ho
  rfl
/-- What is out is found by its number. -/
theorem find_out {B : BxV} (h : B.Ok) {o : OutV} (ho : o ∈ B.l) : B.l.find? (fun p => p.m.xid == o.m.xid) = some o := by
  obtain ⟨L1, L2, e⟩ := List.append_of_mem ho
  have hr := h.rise
  rw [e] at hr ⊢
  have hn : ∀ p ∈ L1, p.m.xid ≠ o.m.xid := fun p hp => by
    have := (List.pairwise_append.1 hr).2.2 p hp o (by simp)
    omega
  rw [List.find?_append, List.find?_eq_none.2 (fun p hp => by simpa using hn p hp), List.find?_cons_of_pos (by simp)]
  rfl
theorem ack_at {B : BxV} (h : B.Ok) {o : OutV} (ho : o ∈ B.l) : B.acked o.m.xid = ((B.less o.m.xid).goes o.m.addr, some o.m) := by
  unfold BxV.acked
  rw [find_out h ho]
theorem less_out {B : BxV} (h : B.Ok) {o : OutV} (ho : o ∈ B.l) : (B.less o.m.xid).l.length + 1 = B.l.length ∧ (∀ p ∈ B.l, p.m.xid ≠ o.m.xid → p ∈ (B.less o.m.xid).l) ∧ (∀ p ∈ (B.less o.m.xid).l, p ∈ B.l ∧ p.m.xid ≠ o.m.xid) := by
  obtain ⟨L1, L2, e, _, hn, e2⟩ := less_at (find_out h ho)
  have hr := h.rise
  rw [e] at hr
  have hn2 : ∀ p ∈ L2, p.m.xid ≠ o.m.xid := fun p hp => by
    have := (List.pairwise_cons.1 (List.pairwise_append.1 hr).2.1).1 p hp
    omega
  rw [e2]
  refine ⟨?_, fun p hp hne => ?_, fun p hp => ?_⟩
  · rw [e]; simp; omega
  · rw [e] at hp
    show p ∈ L1 ++ L2
    rcases List.mem_append.1 hp with hp | hp
    · exact List.mem_append_left _ hp
    · rcases List.mem_cons.1 hp with rfl | hp
      · exact absurd rfl hne
      · exact List.mem_append_right _ hp
  · have hp : p ∈ L1 ++ L2 := hp
    rw [e]
    rcases List.mem_append.1 hp with hp | hp
    · exact ⟨List.mem_append_left _ hp, hn p hp⟩
    · exact ⟨List.mem_append_right _ (List.mem_cons_of_mem _ hp), hn2 p hp⟩
/-- What comes of an answer to what is out. -/
theorem acked_out {B : BxV} (h : B.Ok) {o : OutV} (ho : o ∈ B.l) : (B.acked o.m.xid).2 = some o.m ∧ (B.acked o.m.xid).1.l.length ≤ B.l.length ∧ (B.acked o.m.xid).1.xid ≤ B.xid + 1 ∧ B.xid ≤ (B.acked o.m.xid).1.xid ∧
    (∀ p ∈ B.l, p.m.xid ≠ o.m.xid → p ∈ (B.acked o.m.xid).1.l) ∧ (B.acked o.m.xid).1.acked o.m.xid = ((B.acked o.m.xid).1, none) := by
  obtain ⟨l1, l2, l3⟩ := less_out h ho
  obtain ⟨g1, g2, g3, g4, g5⟩ := goes_grow (B.less o.m.xid) o.m.addr
  have ex : (B.less o.m.xid).xid = B.xid := rfl
  rw [ex] at g1 g2 g3 g5
  rw [ack_at h ho]
  refine ⟨rfl, ?_, g2, g1, fun p hp hne => g4 p (l2 p hp hne), ?_⟩
  · show ((B.less o.m.xid).goes o.m.addr).l.length ≤ _
    omega
  · show ((B.less o.m.xid).goes o.m.addr).acked o.m.xid = _
    unfold BxV.acked
    rw [List.find?_eq_none.2 ?_]
    intro p hp
    have hx := (h.rng o ho).2
    have : p.m.xid ≠ o.m.xid := by
      rcases g5 p hp with h4 | h4
      · exact (l3 p h4).2
      · omega
    simpa using this
end Go.Proofs.Ytekladmddfibaaa
