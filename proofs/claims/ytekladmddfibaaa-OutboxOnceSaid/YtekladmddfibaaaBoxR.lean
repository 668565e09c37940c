/- outbox, pure: what was put last of each address is told last. -/
import Derived.Test.YtekladmddfibaaaBoxQ
import Derived.Test.YtekladmddfibaaaMapF
namespace Go.Proofs.Ytekladmddfibaaa

/-- What is told, what its numbers are, of each address. -/
def tellP (f : Nat → Option Int) (l : List MsgV) : Nat → Option Int := l.foldl (fun f m => putF f m.addr m.pot) f
def tellX (f : Nat → Option Int) (l : List MsgV) : Nat → Option Int := l.foldl (fun f m => putF f m.addr m.xid) f
def xidF (f : Nat → Option Int) (a : Nat) : Int := (f a).getD 0
theorem tellP_snoc (f : Nat → Option Int) (l : List MsgV) (m : MsgV) : tellP f (l ++ [m]) = putF (tellP f l) m.addr m.pot := by simp [tellP]
theorem tellX_snoc (f : Nat → Option Int) (l : List MsgV) (m : MsgV) : tellX f (l ++ [m]) = putF (tellX f l) m.addr m.xid := by simp [tellX]
theorem tellP_no (a : Nat) : ∀ (l : List MsgV) (f : Nat → Option Int), (∀ m ∈ l, m.addr ≠ a) → tellP f l a = f a
  | [], _, _ => rfl
  | m :: r, f, h => by
    show tellP (putF f m.addr m.pot) r a = f a
    rw [tellP_no a r _ fun x hx => h x (List.mem_cons_of_mem _ hx)]
    unfold putF
    rw [if_neg fun e => h m List.mem_cons_self e.symm]
theorem tellP_at : ∀ (l : List MsgV) (f : Nat → Option Int) (m : MsgV), m ∈ l → l.Pairwise (fun x y => x.addr ≠ y.addr) → tellP f l m.addr = some m.pot
  | [], _, _, h, _ => by simp at h
  | x :: r, f, m, h, hp => by
    obtain ⟨h1, h2⟩ := List.pairwise_cons.1 hp
    show tellP (putF f x.addr x.pot) r m.addr = some m.pot
    rcases List.mem_cons.1 h with rfl | h
    · rw [tellP_no m.addr r _ fun y hy e => h1 y hy e.symm]
      unfold putF
      rw [if_pos rfl]
    · exact tellP_at r _ m h h2
theorem tellX_or (a : Nat) : ∀ (l : List MsgV) (f : Nat → Option Int), tellX f l a = f a ∨ ∃ m ∈ l, tellX f l a = some m.xid
  | [], _ => .inl rfl
  | m :: r, f => by
    rcases tellX_or a r (putF f m.addr m.xid) with h | ⟨x, hx, h⟩
    · by_cases e : a = m.addr
      · refine .inr ⟨m, List.mem_cons_self, ?_⟩
        show tellX (putF f m.addr m.xid) r a = _
        rw [h]
        unfold putF
        rw [if_pos e]
      · refine .inl ?_
        show tellX (putF f m.addr m.xid) r a = _
        rw [h]
        unfold putF
        rw [if_neg e]
    · exact .inr ⟨x, List.mem_cons_of_mem _ hx, h⟩

/-- What a box says of what was put last (p), told last (t). -/
structure LastP (B : BxV) (p t : Nat → Option Int) : Prop where
  pw : ∀ m ∈ B.w, p m.addr = some m.pot
  pl : ∀ o ∈ B.l, (∀ m ∈ B.w, m.addr ≠ o.m.addr) → p o.m.addr = some o.m.pot
  pt : ∀ a, (∀ m ∈ B.w, m.addr ≠ a) → (∀ o ∈ B.l, o.m.addr ≠ a) → t a = p a
theorem lastP_new : LastP newB (fun _ => none) (fun _ => none) := ⟨by simp [newB], by simp [newB], fun _ _ _ => rfl⟩
theorem LastP.goes {B : BxV} {p t : Nat → Option Int} (h : LastP B p t) (a : Nat) : LastP (B.goes a) p t := by
  rcases goes_cases B a with ⟨_, e⟩ | ⟨_, _, _, e⟩ | ⟨h1, _, m, W1, W2, hw, hm, _, e⟩
  · rw [e]; exact h
  · rw [e]; exact h
  · rw [e]
    have hmW : m ∈ B.w := by rw [hw]; simp
    refine ⟨fun y hy => h.pw y ?_, fun o ho hn => ?_, fun a' hn1 hn2 => ?_⟩
    · have hy : y ∈ W1 ++ W2 := hy
      rw [hw]
      rcases List.mem_append.1 hy with hy | hy
      · exact List.mem_append_left _ hy
      · exact List.mem_append_right _ (List.mem_cons_of_mem _ hy)
    · have hn : ∀ y ∈ W1 ++ W2, y.addr ≠ o.m.addr := hn
      rcases List.mem_append.1 ho with ho1 | ho
      · refine h.pl o ho1 fun y hy => ?_
        rw [hw] at hy
        rcases List.mem_append.1 hy with hy | hy
        · exact hn y (List.mem_append_left _ hy)
        · rcases List.mem_cons.1 hy with rfl | hy
          · rw [hm]; exact fun e => out_no h1 o ho1 e.symm
          · exact hn y (List.mem_append_right _ hy)
      · rw [List.mem_singleton.1 ho]
        exact h.pw m hmW
    · have hn1 : ∀ y ∈ W1 ++ W2, y.addr ≠ a' := hn1
      have hne : m.addr ≠ a' := hn2 (outO m (B.xid + 1)) (List.mem_append_right _ List.mem_cons_self)
      refine h.pt a' (fun y hy => ?_) fun o ho => hn2 o (List.mem_append_left _ ho)
      rw [hw] at hy
      rcases List.mem_append.1 hy with hy | hy
      · exact hn1 y (List.mem_append_left _ hy)
      · rcases List.mem_cons.1 hy with rfl | hy
        · exact hne
        · exact hn1 y (List.mem_append_right _ hy)
theorem LastP.waits {B : BxV} {p t : Nat → Option Int} (h : LastP B p t) (m : MsgV) : LastP (B.waits m) (putF p m.addr m.pot) t := by
  have key : ∀ a, (∀ y ∈ (B.waits m).w, y.addr ≠ a) → a ≠ m.addr ∧ ∀ y ∈ B.w, y.addr ≠ a := by
    intro a ha
    have h1 : m.addr ≠ a := ha (nudeM m) (List.mem_append_right _ List.mem_cons_self)
    refine ⟨fun e => h1 e.symm, fun y hy => ?_⟩
    by_cases e : y.addr = m.addr
    · rw [e]; exact h1
    · exact ha y (List.mem_append_left _ (List.mem_filter.2 ⟨hy, by simpa using e⟩))
  refine ⟨fun y hy => ?_, fun o ho hn => ?_, fun a hn1 hn2 => ?_⟩
  · rcases List.mem_append.1 hy with hy | hy
    · obtain ⟨h1, h2⟩ := List.mem_filter.1 hy
      have h2 : y.addr ≠ m.addr := by simpa using h2
      unfold putF
      rw [if_neg h2]
      exact h.pw y h1
    · rw [List.mem_singleton.1 hy]
      unfold putF
      rw [if_pos (show (nudeM m).addr = m.addr from rfl)]
      rfl
  · obtain ⟨h1, h2⟩ := key _ hn
    unfold putF
    rw [if_neg h1]
    exact h.pl o ho h2
  · obtain ⟨h1, h2⟩ := key _ hn1
    unfold putF
    rw [if_neg h1]
    exact h.pt a h2 hn2
theorem LastP.less {B : BxV} {p t : Nat → Option Int} (h : LastP B p t) (hB : B.Ok) {o : OutV} (ho : o ∈ B.l) (ht : t o.m.addr = some o.m.pot) : LastP (B.less o.m.xid) p t := by
  obtain ⟨_, l2, l3⟩ := less_out hB ho
  refine ⟨h.pw, fun q hq hn => h.pl q (l3 q hq).1 hn, fun a hn1 hn2 => ?_⟩
  by_cases e : o.m.addr = a
  · rw [← e, ht]
    exact (h.pl o ho fun y hy => by rw [e]; exact hn1 y hy).symm
  · refine h.pt a hn1 fun q hq => ?_
    by_cases ex : q.m.xid = o.m.xid
    · have := find_out hB hq
      rw [ex, find_out hB ho] at this
      rw [← Option.some.inj this]
      exact e
    · exact hn2 q (l2 q hq ex)
theorem LastP.mapped {B : BxV} {p t : Nat → Option Int} (h : LastP B p t) (f : OutV → OutV) (hf : ∀ o, (f o).m = o.m) : LastP ⟨B.l.map f, B.w, B.xid⟩ p t := by
  refine ⟨h.pw, fun o ho hn => ?_, fun a hn1 hn2 => h.pt a hn1 fun o ho => ?_⟩
  · obtain ⟨q, hq, rfl⟩ := List.mem_map.1 ho
    rw [hf] at hn ⊢
    exact h.pl q hq hn
  · have := hn2 (f o) (List.mem_map.2 ⟨o, ho, rfl⟩)
    rwa [hf] at this
/-- What is told changes nothing of what is not out. -/
theorem LastP.tell {B : BxV} {p t t' : Nat → Option Int} (h : LastP B p t) (ht : ∀ a, (∀ o ∈ B.l, o.m.addr ≠ a) → t' a = t a) : LastP B p t' :=
  ⟨h.pw, h.pl, fun a h1 h2 => by rw [ht a h2]; exact h.pt a h1 h2⟩

/-- How many there are, at most. -/
theorem goes_cnt (B : BxV) (a : Nat) : (B.goes a).l.length + (B.goes a).w.length = B.l.length + B.w.length ∧ (B.goes a).xid + ((B.goes a).w.length : Int) = B.xid + (B.w.length : Int) := by
  rcases goes_cases B a with ⟨_, e⟩ | ⟨_, _, _, e⟩ | ⟨_, _, m, W1, W2, hw, _, _, e⟩
  · rw [e]; exact ⟨rfl, rfl⟩
  · rw [e]; exact ⟨rfl, rfl⟩
  · rw [e]
    show (B.l ++ [_]).length + (W1 ++ W2).length = _ ∧ B.xid + 1 + ((W1 ++ W2).length : Int) = _
    rw [hw]
    simp
    omega
theorem waits_cnt (B : BxV) (m : MsgV) : (B.waits m).w.length ≤ B.w.length + 1 := by
  show (B.w.filter _ ++ [nudeM m]).length ≤ _
  rw [List.length_append, List.length_singleton]
  have := List.length_filter_le (fun y : MsgV => y.addr != m.addr) B.w
  omega

/-- Behind k rounds of puts, moments and answers. -/
structure LastI (B : BxV) (p t x : Nat → Option Int) (now : Int) (k : Nat) : Prop where
  ok : B.Ok
  last : LastP B p t
  cnt : B.l.length + B.w.length ≤ k
  few : B.xid + (B.w.length : Int) ≤ k
  now0 : 0 ≤ now
  now1 : now ≤ k
  told : ∀ o ∈ B.l, 0 ≤ o.sent → t o.m.addr = some o.m.pot
  past : ∀ o ∈ B.l, o.sent ≤ now
  xs : ∀ a, ∀ o ∈ B.l, o.m.xid = xidF x a → 0 ≤ o.sent
  xlow : ∀ a, xidF x a ≤ B.xid
theorem lastI_new : LastI newB (fun _ => none) (fun _ => none) (fun _ => none) 0 0 :=
  ⟨new_ok, lastP_new, by decide, by decide, by decide, by decide, by simp [newB], by simp [newB], by simp [newB], fun a => by simp [xidF, newB]⟩
theorem LastI.put {B : BxV} {p t x : Nat → Option Int} {now : Int} {k : Nat} (h : LastI B p t x now k) (hk : k < 65536) (a : Nat) (ha : a < 4294967296) :
    (B.put (updM a k)).2 = 0 ∧ LastI (B.put (updM a k)).1 (putF p a (k : Int)) t x now (k + 1) := by
  have h1 := h.few
  have h2 := h.cnt
  have h3 := h.now1
  have hp : (updM a k).pot = (k : Int) := by show (k : Int) % 65536 = k; omega
  have hl := h.last.waits (updM a k)
  rw [hp] at hl
  have hl2 := LastP.goes hl a
  have hc := waits_cnt B (updM a k)
  obtain ⟨g1, g2⟩ := goes_cnt (B.waits (updM a k)) a
  have e1 : (B.waits (updM a k)).l = B.l := rfl
  have e2 : (B.waits (updM a k)).xid = B.xid := rfl
  obtain ⟨q1, _, _, _, q5⟩ := goes_grow (B.waits (updM a k)) a
  rw [e1] at g1 q5
  rw [e2] at g2 q1 q5
  have hok := put_ok h.ok (updM a k) ha
  rw [put_upd (by omega)] at hok ⊢
  refine ⟨rfl, hok, hl2, ?_, ?_, h.now0, by omega, fun o ho hs => ?_, fun o ho => ?_, fun a' o ho e => ?_, fun a' => ?_⟩
  · show ((B.waits (updM a k)).goes a).l.length + ((B.waits (updM a k)).goes a).w.length ≤ k + 1
    omega
  · show ((B.waits (updM a k)).goes a).xid + (((B.waits (updM a k)).goes a).w.length : Int) ≤ ((k + 1 : Nat) : Int)
    omega
  · rcases q5 o ho with h4 | ⟨_, h4⟩
    · exact h.told o h4 hs
    · omega
  · rcases q5 o ho with h4 | ⟨_, h4⟩
    · exact h.past o h4
    · have := h.now0; omega
  · rcases q5 o ho with h4 | ⟨h4, _⟩
    · exact h.xs a' o h4 e
    · have := h.xlow a'; omega
  · have := h.xlow a'
    show xidF x a' ≤ ((B.waits (updM a k)).goes a).xid
    omega
/-- One more round. -/
theorem LastI.wait {B : BxV} {p t x : Nat → Option Int} {now : Int} {k : Nat} (h : LastI B p t x now k) : LastI B p t x now (k + 1) := by
  have h1 := h.few
  have h2 := h.cnt
  have h3 := h.now1
  exact ⟨h.ok, h.last, by omega, by omega, h.now0, by omega, h.told, h.past, h.xs, h.xlow⟩
theorem LastI.ack {B : BxV} {p t x : Nat → Option Int} {now : Int} {k : Nat} (h : LastI B p t x now k) (a : Nat) : LastI (B.acked (xidF x a)).1 p t x now k := by
  cases hf : B.l.find? (fun o => o.m.xid == xidF x a) with
  | none =>
    unfold BxV.acked
    rw [hf]
    exact h
  | some o =>
    have ho := List.mem_of_find?_eq_some hf
    have hx : o.m.xid = xidF x a := by simpa using List.find?_some hf
    have hok := acked_ok h.ok (xidF x a)
    rw [← hx] at hok ⊢
    rw [ack_at h.ok ho] at hok ⊢
    have hl := LastP.goes (h.last.less h.ok ho (h.told o ho (h.xs a o ho hx))) o.m.addr
    obtain ⟨l1, _, l3⟩ := less_out h.ok ho
    obtain ⟨g1, g2⟩ := goes_cnt (B.less o.m.xid) o.m.addr
    obtain ⟨q1, _, _, _, q5⟩ := goes_grow (B.less o.m.xid) o.m.addr
    have e1 : (B.less o.m.xid).w = B.w := rfl
    have e2 : (B.less o.m.xid).xid = B.xid := rfl
    rw [e1] at g1 g2
    rw [e2] at g2 q1 q5
    have h1 := h.few
    have h2 := h.cnt
    refine ⟨hok, hl, ?_, ?_, h.now0, h.now1, fun q hq hs => ?_, fun q hq => ?_, fun a' q hq e => ?_, fun a' => ?_⟩
    · show ((B.less o.m.xid).goes o.m.addr).l.length + ((B.less o.m.xid).goes o.m.addr).w.length ≤ k
      omega
    · show ((B.less o.m.xid).goes o.m.addr).xid + (((B.less o.m.xid).goes o.m.addr).w.length : Int) ≤ k
      omega
    · rcases q5 q hq with h4 | ⟨_, h4⟩
      · exact h.told q (l3 q h4).1 hs
      · omega
    · rcases q5 q hq with h4 | ⟨_, h4⟩
      · exact h.past q (l3 q h4).1
      · have := h.now0; omega
    · rcases q5 q hq with h4 | ⟨h4, _⟩
      · exact h.xs a' q (l3 q h4).1 e
      · have := h.xlow a'; omega
    · have := h.xlow a'
      show xidF x a' ≤ ((B.less o.m.xid).goes o.m.addr).xid
      omega
theorem told_mem {B : BxV} {now : Int} {m : MsgV} : m ∈ B.told now ↔ ∃ o ∈ B.l, dueO now o = true ∧ o.m = m := by
  unfold BxV.told
  constructor
  · intro h
    obtain ⟨o, ho, e⟩ := List.mem_map.1 h
    obtain ⟨h1, h2⟩ := List.mem_filter.1 ho
    exact ⟨o, h1, h2, e⟩
  · rintro ⟨o, h1, h2, e⟩
    exact List.mem_map.2 ⟨o, List.mem_filter.2 ⟨h1, h2⟩, e⟩
theorem told_once {B : BxV} (h : B.Ok) (now : Int) : (B.told now).Pairwise fun x y => x.addr ≠ y.addr := List.pairwise_map.2 (h.onceL.filter _)
theorem told_rise {B : BxV} (h : B.Ok) (now : Int) : (B.told now).Pairwise fun x y => x.xid < y.xid := List.pairwise_map.2 (h.rise.filter _)
theorem LastI.tick {B : BxV} {p t x : Nat → Option Int} {now now' : Int} {k : Nat} (h : LastI B p t x now k) (h0 : now ≤ now') (h1 : now' ≤ k) (h2 : now' ≤ 1099511627776) :
    B.tick now' = (B.ticked now', B.told now', 0) ∧ LastI (B.ticked now') p (tellP t (B.told now')) (tellX x (B.told now')) now' k := by
  have hn := h.now0
  refine ⟨by unfold BxV.tick; rw [if_pos ⟨by omega, h2⟩], ticked_ok h.ok (by omega) h2, ?_, ?_, h.few, by omega, h1, fun o ho hs => ?_, fun o ho => ?_, fun a o ho e => ?_, fun a => ?_⟩
  · refine (h.last.tell fun a ha => tellP_no a _ _ fun m hm => ?_).mapped _ (sent_m now')
    obtain ⟨o, ho, _, rfl⟩ := told_mem.1 hm
    exact ha o ho
  · show (B.l.map _).length + B.w.length ≤ k
    rw [List.length_map]
    exact h.cnt
  · obtain ⟨q, hq, rfl⟩ := List.mem_map.1 ho
    rw [sent_m]
    by_cases hd : dueO now' q = true
    · exact tellP_at _ _ _ (told_mem.2 ⟨q, hq, hd, rfl⟩) (told_once h.ok now')
    · rw [tellP_no]
      · refine h.told q hq ?_
        unfold sentO at hs
        rwa [if_neg hd] at hs
      · intro m hm e
        obtain ⟨o, ho, hd2, rfl⟩ := told_mem.1 hm
        have : o = q := by
          obtain ⟨i, hi, ei⟩ := List.getElem_of_mem ho
          obtain ⟨j, hj, ej⟩ := List.getElem_of_mem hq
          have hp := List.pairwise_iff_getElem.1 h.ok.onceL
          rcases Nat.lt_trichotomy i j with hij | hij | hij
          · exact absurd (by rw [ei, ej]; exact e) (hp i j hi hj hij)
          · subst hij; rw [← ei, ← ej]
          · exact absurd (by rw [ei, ej]; exact e.symm) (hp j i hj hi hij)
        exact hd (this ▸ hd2)
  · obtain ⟨q, hq, rfl⟩ := List.mem_map.1 ho
    unfold sentO
    split
    · exact Int.le_refl _
    · have := h.past q hq; omega
  · obtain ⟨q, hq, rfl⟩ := List.mem_map.1 ho
    rw [sent_m] at e
    by_cases hd : dueO now' q = true
    · unfold sentO
      rw [if_pos hd]
      show 0 ≤ now'
      omega
    · unfold sentO
      rw [if_neg hd]
      rcases tellX_or a (B.told now') x with h5 | ⟨m, hm, h5⟩
      · refine h.xs a q hq ?_
        rw [e]
        unfold xidF
        rw [h5]
      · obtain ⟨o, ho, hd2, rfl⟩ := told_mem.1 hm
        have hx : q.m.xid = o.m.xid := by
          rw [e]
          unfold xidF
          rw [h5]
          rfl
        have := find_out h.ok hq
        rw [hx, find_out h.ok ho] at this
        exact absurd (Option.some.inj this ▸ hd2) hd
  · show xidF _ a ≤ B.xid
    rcases tellX_or a (B.told now') x with h5 | ⟨m, hm, h5⟩
    · have := h.xlow a
      unfold xidF at this ⊢
      rw [h5]
      exact this
    · obtain ⟨o, ho, _, rfl⟩ := told_mem.1 hm
      have := (h.ok.rng o ho).2
      unfold xidF
      rw [h5]
      exact this

/-! ### what is left is told and answered -/
/-- Ahead of a turn. -/
structure DrainI (B : BxV) (p t : Nat → Option Int) (now : Int) (turn : Nat) : Prop where
  ok : B.Ok
  last : LastP B p t
  cnt : B.l.length + B.w.length + turn ≤ 150
  few : B.xid + (B.w.length : Int) ≤ 150
  now0 : 0 ≤ now
  now1 : now ≤ 150 + 3 * turn
  past : ∀ o ∈ B.l, o.sent ≤ now
theorem LastI.drain {B : BxV} {p t x : Nat → Option Int} {now : Int} {k : Nat} (h : LastI B p t x now k) (hk : k ≤ 150) : DrainI B p t now 0 := by
  have h1 := h.few
  have h2 := h.cnt
  have h3 := h.now1
  exact ⟨h.ok, h.last, by omega, by omega, h.now0, by omega, h.past⟩
/-- While l is told and answered. -/
structure StrikeI (B : BxV) (p t : Nat → Option Int) (now : Int) (turn : Nat) (l : List MsgV) (j : Nat) : Prop where
  ok : B.Ok
  last : LastP B p t
  cnt : B.l.length + B.w.length + turn + j ≤ 150
  few : B.xid + (B.w.length : Int) ≤ 150
  now0 : 0 ≤ now
  now1 : now ≤ 153 + 3 * turn
  past : ∀ o ∈ B.l, o.sent ≤ now
  there : ∀ i, j ≤ i → i < l.length → ∃ o ∈ B.l, l[i]? = some o.m
  rise : l.Pairwise fun x y => x.xid < y.xid
theorem DrainI.tick {B : BxV} {p t : Nat → Option Int} {now : Int} {turn : Nat} (h : DrainI B p t now turn) :
    B.tick (now + 3) = (B.ticked (now + 3), B.l.map (·.m), 0) ∧ StrikeI (B.ticked (now + 3)) p t (now + 3) turn (B.l.map (·.m)) 0 := by
  have h0 := h.now0
  have h1 := h.now1
  have h2 := h.cnt
  have hd : ∀ o ∈ B.l, dueO (now + 3) o = true := fun o ho => by
    have := h.past o ho
    unfold dueO
    exact decide_eq_true (.inr (by omega))
  have ht : B.told (now + 3) = B.l.map (·.m) := by
    unfold BxV.told
    rw [List.filter_eq_self.2 hd]
  refine ⟨?_, ticked_ok h.ok (by omega) (by omega), h.last.mapped _ (sent_m _), ?_, h.few, by omega, by omega, fun o ho => ?_, fun i _ hi => ?_, ?_⟩
  · unfold BxV.tick
    rw [if_pos ⟨by omega, by omega⟩, ht]
  · show (B.l.map _).length + B.w.length + turn + 0 ≤ 150
    rw [List.length_map]
    omega
  · obtain ⟨q, hq, rfl⟩ := List.mem_map.1 ho
    unfold sentO
    rw [if_pos (hd q hq)]
    exact Int.le_refl _
  · rw [List.length_map] at hi
    refine ⟨sentO (now + 3) B.l[i], List.mem_map.2 ⟨_, List.getElem_mem hi, rfl⟩, ?_⟩
    rw [sent_m, List.getElem?_map, List.getElem?_eq_getElem hi]
    rfl
  · exact List.pairwise_map.2 h.ok.rise
theorem StrikeI.step {B : BxV} {p t : Nat → Option Int} {now : Int} {turn : Nat} {l : List MsgV} {j : Nat} {m : MsgV} (h : StrikeI B p t now turn l j) (hm : l[j]? = some m) :
    (B.acked m.xid).2 = some m ∧ StrikeI (B.acked m.xid).1 p (putF t m.addr m.pot) now turn l (j + 1) := by
  obtain ⟨hj, _⟩ := List.getElem?_eq_some_iff.1 hm
  obtain ⟨o, ho, e⟩ := h.there j (Nat.le_refl _) hj
  rw [hm] at e
  obtain rfl : m = o.m := Option.some.inj e
  have hok := acked_ok h.ok o.m.xid
  have hthere := (acked_out h.ok ho).2.2.2.2.1
  rw [ack_at h.ok ho] at hok hthere ⊢
  have ht : putF t o.m.addr o.m.pot o.m.addr = some o.m.pot := by unfold putF; rw [if_pos rfl]
  have hl := LastP.goes ((h.last.tell (t' := putF t o.m.addr o.m.pot) fun a ha => by
    unfold putF
    rw [if_neg fun e => ha o ho e.symm]).less h.ok ho ht) o.m.addr
  obtain ⟨l1, _, l3⟩ := less_out h.ok ho
  obtain ⟨g1, g2⟩ := goes_cnt (B.less o.m.xid) o.m.addr
  obtain ⟨_, _, _, _, q5⟩ := goes_grow (B.less o.m.xid) o.m.addr
  have e1 : (B.less o.m.xid).w = B.w := rfl
  have e2 : (B.less o.m.xid).xid = B.xid := rfl
  rw [e1] at g1 g2
  rw [e2] at g2 q5
  have h1 := h.few
  have h2 := h.cnt
  refine ⟨rfl, hok, hl, ?_, ?_, h.now0, h.now1, fun q hq => ?_, fun i hi hil => ?_, h.rise⟩
  · show ((B.less o.m.xid).goes o.m.addr).l.length + ((B.less o.m.xid).goes o.m.addr).w.length + turn + (j + 1) ≤ 150
    omega
  · show ((B.less o.m.xid).goes o.m.addr).xid + (((B.less o.m.xid).goes o.m.addr).w.length : Int) ≤ 150
    omega
  · rcases q5 q hq with h4 | ⟨_, h4⟩
    · exact h.past q (l3 q h4).1
    · have := h.now0; omega
  · obtain ⟨q, hq, e3⟩ := h.there i (by omega) hil
    refine ⟨q, hthere q hq ?_, e3⟩
    have hr := List.pairwise_iff_getElem.1 h.rise j i hj hil (by omega)
    obtain ⟨_, e4⟩ := List.getElem?_eq_some_iff.1 hm
    obtain ⟨_, e5⟩ := List.getElem?_eq_some_iff.1 e3
    rw [e4, e5] at hr
    omega
theorem StrikeI.done {B : BxV} {p t : Nat → Option Int} {now : Int} {turn : Nat} {l : List MsgV} {j : Nat} (h : StrikeI B p t now turn l j) (hj : 1 ≤ j) : DrainI B p t now (turn + 1) := by
  have h1 := h.cnt
  have h2 := h.now1
  exact ⟨h.ok, h.last, by omega, h.few, h.now0, by omega, h.past⟩
theorem DrainI.len {B : BxV} {p t : Nat → Option Int} {now : Int} {turn : Nat} (h : DrainI B p t now turn) : B.len = B.l.length :=
  len_out h.ok (by have := h.few; omega)
/-- Nothing is left. -/
theorem DrainI.none {B : BxV} {p t : Nat → Option Int} {now : Int} {turn : Nat} (h : DrainI B p t now turn) (hl : B.l.length = 0) : t = p := by
  have hl : B.l = [] := List.eq_nil_of_length_eq_zero hl
  funext a
  refine h.last.pt a (fun m hm => ?_) fun o ho => ?_
  · have := h.ok.busy (by have := h.few; omega) m hm
    obtain ⟨o, ho, _⟩ := out_mem.1 this
    rw [hl] at ho
    cases ho
  · rw [hl] at ho
    cases ho
end Go.Proofs.Ytekladmddfibaaa
