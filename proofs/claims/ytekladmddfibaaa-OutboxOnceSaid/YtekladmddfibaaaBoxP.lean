/- outbox, pure: what is out, what waits; what each call makes of it, and what holds behind it. -/
import Derived.Test.YtekladmddfibaaaMsgM
namespace Go.Proofs.Ytekladmddfibaaa

/-- A message that is out, and when it was sent last (-1: it is to be sent). -/
structure OutV where
  m : MsgV
  sent : Int
  deriving DecidableEq
/-- A box: what is out, by rising numbers; what waits; the greatest number. -/
structure BxV where
  l : List OutV
  w : List MsgV
  xid : Int
def newB : BxV := ⟨[], [], 0⟩
def BxV.out (B : BxV) (a : Nat) : Bool := B.l.any fun o => o.m.addr == a
def outO (m : MsgV) (x : Int) : OutV := ⟨{ m with xid := x }, -1⟩
def BxV.goes (B : BxV) (a : Nat) : BxV :=
  if B.out a = true ∨ 1073741824 ≤ B.xid then B else
    match B.w.find? (fun m => m.addr == a) with
    | none => B
    | some m => ⟨B.l ++ [outO m (B.xid + 1)], B.w.eraseP (fun m => m.addr == a), B.xid + 1⟩
/-- May it be put? -/
def UpdM (m : MsgV) : Prop := m.kind = 2 ∧ m.state = 0 ∧ m.ok = false ∧ 0 ≤ m.bind ∧ m.bind ≤ 5 ∧ 0 ≤ m.pot ∧ m.pot ≤ 1099511627776 ∧ 0 ≤ m.at_ ∧ m.at_ ≤ 1099511627776 ∧ m.client.size ≤ 32
instance (m : MsgV) : Decidable (UpdM m) := by unfold UpdM; infer_instance
def nudeM (m : MsgV) : MsgV := { m with life := 0, seen := 0, xid := 0 }
def BxV.waits (B : BxV) (m : MsgV) : BxV := ⟨B.l, B.w.filter (fun y => y.addr != m.addr) ++ [nudeM m], B.xid⟩
def BxV.put (B : BxV) (m : MsgV) : BxV × Int :=
  if UpdM m then if 1073741824 ≤ B.xid then (B, 3) else ((B.waits m).goes m.addr, 0) else (B, 2)
def BxV.less (B : BxV) (x : Int) : BxV := ⟨B.l.eraseP (fun o => o.m.xid == x), B.w, B.xid⟩
def BxV.acked (B : BxV) (x : Int) : BxV × Option MsgV :=
  match B.l.find? (fun o => o.m.xid == x) with
  | none => (B, none)
  | some o => ((B.less x).goes o.m.addr, some o.m)
def dueO (now : Int) (o : OutV) : Bool := decide (o.sent < 0 ∨ 3 ≤ now - o.sent)
def sentO (now : Int) (o : OutV) : OutV := if dueO now o then ⟨o.m, now⟩ else o
def BxV.ticked (B : BxV) (now : Int) : BxV := ⟨B.l.map (sentO now), B.w, B.xid⟩
def BxV.told (B : BxV) (now : Int) : List MsgV := (B.l.filter (dueO now)).map (·.m)
def BxV.tick (B : BxV) (now : Int) : BxV × List MsgV × Int :=
  if 0 ≤ now ∧ now ≤ 1099511627776 then (B.ticked now, B.told now, 0) else (B, [], 1)
def BxV.again (B : BxV) : BxV := ⟨B.l.map fun o => ⟨o.m, -1⟩, B.w, B.xid⟩
def BxV.len (B : BxV) : Nat := B.l.length + B.w.countP fun m => ! B.out m.addr
def BxV.busy (B : BxV) (a : Nat) : Bool := B.w.any (fun m => m.addr == a) || B.out a

/-- A message as it is kept. -/
structure KeptM (m : MsgV) : Prop where
  upd : UpdM m
  life : m.life = 0
  seen : m.seen = 0
  low : m.addr < 4294967296
/-- What holds of a box. -/
structure BxV.Ok (B : BxV) : Prop where
  x0 : 0 ≤ B.xid
  x1 : B.xid ≤ 1073741824
  rise : B.l.Pairwise fun o p => o.m.xid < p.m.xid
  rng : ∀ o ∈ B.l, 1 ≤ o.m.xid ∧ o.m.xid ≤ B.xid
  onceL : B.l.Pairwise fun o p => o.m.addr ≠ p.m.addr
  onceW : B.w.Pairwise fun m n => m.addr ≠ n.addr
  busy : B.xid < 1073741824 → ∀ m ∈ B.w, B.out m.addr = true
  sent : ∀ o ∈ B.l, -1 ≤ o.sent ∧ o.sent ≤ 1099511627776
  keptL : ∀ o ∈ B.l, KeptM o.m
  keptW : ∀ m ∈ B.w, KeptM m

theorem new_ok : newB.Ok := ⟨by decide, by decide, .nil, by simp [newB], .nil, .nil, by simp [newB], by simp [newB], by simp [newB], by simp [newB]⟩
theorem out_mem {B : BxV} {a : Nat} : B.out a = true ↔ ∃ o ∈ B.l, o.m.addr = a := by simp [BxV.out]
theorem out_no {B : BxV} {a : Nat} (h : B.out a = false) : ∀ o ∈ B.l, o.m.addr ≠ a := by
  intro o ho e
  have := out_mem.2 ⟨o, ho, e⟩
  rw [h] at this; cases this
theorem kept_bare {m : MsgV} (h : UpdM m) (hl : m.addr < 4294967296) : KeptM (nudeM m) := ⟨h, rfl, rfl, hl⟩
theorem KeptM.out {m : MsgV} (h : KeptM m) (x : Int) : KeptM (outO m x).m := ⟨h.upd, h.life, h.seen, h.low⟩

/-- What goes out. -/
theorem goes_cases (B : BxV) (a : Nat) : ((B.out a = true ∨ 1073741824 ≤ B.xid) ∧ B.goes a = B) ∨ (B.out a = false ∧ B.xid < 1073741824 ∧ (∀ m ∈ B.w, m.addr ≠ a) ∧ B.goes a = B) ∨
    (B.out a = false ∧ B.xid < 1073741824 ∧ ∃ m W1 W2, B.w = W1 ++ m :: W2 ∧ m.addr = a ∧ (∀ y ∈ W1, y.addr ≠ a) ∧ B.goes a = ⟨B.l ++ [outO m (B.xid + 1)], W1 ++ W2, B.xid + 1⟩) := by
  unfold BxV.goes
  by_cases h : B.out a = true ∨ 1073741824 ≤ B.xid
  · exact .inl ⟨h, if_pos h⟩
  · have h1 : B.out a = false := by cases e : B.out a; rfl; exact absurd (.inl e) h
    have h2 : B.xid < 1073741824 := Int.not_le.1 fun e => h (.inr e)
    rw [if_neg h]
    cases hf : B.w.find? (fun m => m.addr == a) with
    | none =>
      refine .inr (.inl ⟨h1, h2, fun m hm => ?_, rfl⟩)
      have := List.find?_eq_none.1 hf m hm
      simpa using this
    | some m =>
      obtain ⟨hm, W1, W2, hw, hn⟩ := List.find?_eq_some_iff_append.1 hf
      have hn : ∀ y ∈ W1, y.addr ≠ a := fun y hy => by simpa using hn y hy
      refine .inr (.inr ⟨h1, h2, m, W1, W2, hw, by simpa using hm, hn, ?_⟩)
      show (⟨_, B.w.eraseP _, _⟩ : BxV) = _
      rw [hw, List.eraseP_append_right _ fun y hy => by simpa using hn y hy, List.eraseP_cons_of_pos (by simpa using hm)]
theorem goes_at {B : BxV} {x : MsgV} {W1 W2 : List MsgV} (h1 : B.out x.addr = false) (h2 : B.xid < 1073741824) (hw : B.w = W1 ++ x :: W2) (hn : ∀ y ∈ W1, y.addr ≠ x.addr) : B.goes x.addr = ⟨B.l ++ [outO x (B.xid + 1)], W1 ++ W2, B.xid + 1⟩ := by
  unfold BxV.goes
  rw [if_neg (by rw [h1]; simp; omega)]
  have hf : B.w.find? (fun m => m.addr == x.addr) = some x := by
    rw [hw, List.find?_append, List.find?_eq_none.2 (fun y hy => by simpa using hn y hy), List.find?_cons_of_pos (by simp)]
    rfl
  rw [hf]
  show (⟨_, B.w.eraseP _, _⟩ : BxV) = _
  rw [hw, List.eraseP_append_right _ fun y hy => by simpa using hn y hy, List.eraseP_cons_of_pos (by simp)]
/-- All but what waits for its way out. -/
structure BxV.Mid (B : BxV) (a : Nat) : Prop where
  x0 : 0 ≤ B.xid
  x1 : B.xid ≤ 1073741824
  rise : B.l.Pairwise fun o p => o.m.xid < p.m.xid
  rng : ∀ o ∈ B.l, 1 ≤ o.m.xid ∧ o.m.xid ≤ B.xid
  onceL : B.l.Pairwise fun o p => o.m.addr ≠ p.m.addr
  onceW : B.w.Pairwise fun m n => m.addr ≠ n.addr
  busy : B.xid < 1073741824 → ∀ m ∈ B.w, m.addr ≠ a → B.out m.addr = true
  sent : ∀ o ∈ B.l, -1 ≤ o.sent ∧ o.sent ≤ 1099511627776
  keptL : ∀ o ∈ B.l, KeptM o.m
  keptW : ∀ m ∈ B.w, KeptM m
theorem goes_ok {B : BxV} {a : Nat} (h : B.Mid a) : (B.goes a).Ok := by
  rcases goes_cases B a with ⟨h1, e⟩ | ⟨h1, h2, h3, e⟩ | ⟨h1, h2, m, W1, W2, hw, hm, hn, e⟩
  · rw [e]
    refine ⟨h.x0, h.x1, h.rise, h.rng, h.onceL, h.onceW, fun hx m hm => ?_, h.sent, h.keptL, h.keptW⟩
    by_cases ha : m.addr = a
    · rw [ha]; rcases h1 with h1 | h1
      · exact h1
      · omega
    · exact h.busy hx m hm ha
  · rw [e]
    exact ⟨h.x0, h.x1, h.rise, h.rng, h.onceL, h.onceW, fun hx m hm => h.busy hx m hm (h3 m hm), h.sent, h.keptL, h.keptW⟩
  · rw [e]
    have h0 := h.x0
    have hmW : m ∈ B.w := by rw [hw]; simp
    have hsub : ∀ y, y ∈ W1 ++ W2 → y ∈ B.w := fun y hy => by rw [hw]; simp at hy ⊢; rcases hy with hy | hy <;> simp [hy]
    have hO := h.onceW
    rw [hw] at hO
    refine ⟨by show 0 ≤ B.xid + 1; omega, by show B.xid + 1 ≤ _; omega, ?_, ?_, ?_, ?_, ?_, ?_, ?_, fun y hy => h.keptW y (hsub y hy)⟩
    · refine List.pairwise_append.2 ⟨h.rise, List.pairwise_singleton _ _, fun o ho p hp => ?_⟩
      rw [List.mem_singleton.1 hp]
      have := (h.rng o ho).2
      show o.m.xid < B.xid + 1
      omega
    · intro o ho
      show 1 ≤ o.m.xid ∧ o.m.xid ≤ B.xid + 1
      rcases List.mem_append.1 ho with ho | ho
      · have := h.rng o ho; omega
      · rw [List.mem_singleton.1 ho]
        show 1 ≤ B.xid + 1 ∧ B.xid + 1 ≤ B.xid + 1
        omega
    · refine List.pairwise_append.2 ⟨h.onceL, List.pairwise_singleton _ _, fun o ho p hp => ?_⟩
      rw [List.mem_singleton.1 hp]
      show o.m.addr ≠ m.addr
      rw [hm]
      exact out_no h1 o ho
    · refine List.Pairwise.sublist ?_ hO
      exact List.Sublist.append (List.Sublist.refl _) (List.sublist_cons_self _ _)
    · intro _ y hy
      have hy2 := hsub y hy
      have hya : y.addr ≠ a := by
        rcases List.mem_append.1 hy with hy | hy
        · exact hn y hy
        · have := (List.pairwise_append.1 hO).2.1
          rw [List.pairwise_cons] at this
          have := this.1 y hy
          rw [hm] at this
          exact fun e => this e.symm
      obtain ⟨o, ho, e⟩ := out_mem.1 (h.busy h2 y hy2 hya)
      exact out_mem.2 ⟨o, List.mem_append_left _ ho, e⟩
    · intro o ho
      rcases List.mem_append.1 ho with ho | ho
      · exact h.sent o ho
      · rw [List.mem_singleton.1 ho]
        exact ⟨Int.le_refl _, by show (-1 : Int) ≤ _; decide⟩
    · intro o ho
      rcases List.mem_append.1 ho with ho | ho
      · exact h.keptL o ho
      · rw [List.mem_singleton.1 ho]
        exact (h.keptW m hmW).out _

theorem waits_mid {B : BxV} (h : B.Ok) {m : MsgV} (hu : UpdM m) (hl : m.addr < 4294967296) : (B.waits m).Mid m.addr := by
  refine ⟨h.x0, h.x1, h.rise, h.rng, h.onceL, ?_, ?_, h.sent, h.keptL, ?_⟩
  · refine List.pairwise_append.2 ⟨h.onceW.sublist List.filter_sublist, List.pairwise_singleton _ _, fun y hy z hz => ?_⟩
    rw [List.mem_singleton.1 hz]
    have := (List.mem_filter.1 hy).2
    simpa [nudeM] using this
  · intro hx y hy hne
    rcases List.mem_append.1 hy with hy | hy
    · exact h.busy hx y (List.mem_filter.1 hy).1
    · rw [List.mem_singleton.1 hy] at hne
      exact absurd rfl hne
  · intro y hy
    rcases List.mem_append.1 hy with hy | hy
    · exact h.keptW y (List.mem_filter.1 hy).1
    · rw [List.mem_singleton.1 hy]
      exact kept_bare hu hl
theorem put_ok {B : BxV} (h : B.Ok) (m : MsgV) (hl : m.addr < 4294967296) : (B.put m).1.Ok := by
  unfold BxV.put
  split
  · split
    · exact h
    · exact goes_ok (waits_mid h (by assumption) hl)
  · exact h
/-- A message that is out is struck. -/
theorem less_at {B : BxV} {x : Int} {o : OutV} (hf : B.l.find? (fun o => o.m.xid == x) = some o) : ∃ L1 L2, B.l = L1 ++ o :: L2 ∧ o.m.xid = x ∧ (∀ p ∈ L1, p.m.xid ≠ x) ∧ B.less x = ⟨L1 ++ L2, B.w, B.xid⟩ := by
  obtain ⟨hm, L1, L2, hw, hn⟩ := List.find?_eq_some_iff_append.1 hf
  have hn : ∀ y ∈ L1, y.m.xid ≠ x := fun y hy => by simpa using hn y hy
  refine ⟨L1, L2, hw, by simpa using hm, hn, ?_⟩
  unfold BxV.less
  rw [hw, List.eraseP_append_right _ fun y hy => by simpa using hn y hy, List.eraseP_cons_of_pos (by simpa using hm)]
theorem less_mid {B : BxV} (h : B.Ok) {x : Int} {o : OutV} (hf : B.l.find? (fun o => o.m.xid == x) = some o) : (B.less x).Mid o.m.addr := by
  obtain ⟨L1, L2, hw, hx, hn, e⟩ := less_at hf
  have hsub : ∀ y, y ∈ L1 ++ L2 → y ∈ B.l := fun y hy => by rw [hw]; simp at hy ⊢; rcases hy with hy | hy <;> simp [hy]
  have hS : (L1 ++ L2).Sublist B.l := by rw [hw]; exact List.Sublist.append (List.Sublist.refl _) (List.sublist_cons_self _ _)
  rw [e]
  refine ⟨h.x0, h.x1, h.rise.sublist hS, fun p hp => h.rng p (hsub p hp), h.onceL.sublist hS, h.onceW, ?_, fun p hp => h.sent p (hsub p hp), fun p hp => h.keptL p (hsub p hp), h.keptW⟩
  intro hx m hm hne
  obtain ⟨p, hp, ep⟩ := out_mem.1 (h.busy hx m hm)
  refine out_mem.2 ⟨p, ?_, ep⟩
  rw [hw] at hp
  rcases List.mem_append.1 hp with hp | hp
  · exact List.mem_append_left _ hp
  · rcases List.mem_cons.1 hp with rfl | hp
    · exact absurd ep.symm hne
    · exact List.mem_append_right _ hp
theorem acked_ok {B : BxV} (h : B.Ok) (x : Int) : (B.acked x).1.Ok := by
  unfold BxV.acked
  cases hf : B.l.find? (fun o => o.m.xid == x) with
  | none => exact h
  | some o => exact goes_ok (less_mid h hf)
theorem sent_m (now : Int) (o : OutV) : (sentO now o).m = o.m := by unfold sentO; split <;> rfl
theorem mapped_ok {B : BxV} (h : B.Ok) (f : OutV → OutV) (hf : ∀ o, (f o).m = o.m) (hs : ∀ o ∈ B.l, -1 ≤ (f o).sent ∧ (f o).sent ≤ 1099511627776) : (⟨B.l.map f, B.w, B.xid⟩ : BxV).Ok := by
  refine ⟨h.x0, h.x1, ?_, ?_, ?_, h.onceW, ?_, ?_, ?_, h.keptW⟩
  · refine List.pairwise_map.2 (h.rise.imp fun {o p} e => ?_)
    rw [hf, hf]; exact e
  · intro o ho
    obtain ⟨p, hp, rfl⟩ := List.mem_map.1 ho
    rw [hf]; exact h.rng p hp
  · refine List.pairwise_map.2 (h.onceL.imp fun {o p} e => ?_)
    rw [hf, hf]; exact e
  · intro hx m hm
    obtain ⟨o, ho, e⟩ := out_mem.1 (h.busy hx m hm)
    exact out_mem.2 ⟨f o, List.mem_map.2 ⟨o, ho, rfl⟩, by rw [hf]; exact e⟩
  · intro o ho
    obtain ⟨p, hp, rfl⟩ := List.mem_map.1 ho
    exact hs p hp
  · intro o ho
    obtain ⟨p, hp, rfl⟩ := List.mem_map.1 ho
    rw [hf]; exact h.keptL p hp
theorem ticked_ok {B : BxV} (h : B.Ok) {now : Int} (h0 : 0 ≤ now) (h1 : now ≤ 1099511627776) : (B.ticked now).Ok := by
  refine mapped_ok h _ (sent_m now) fun o ho => ?_
  unfold sentO
  split
  · exact ⟨by show -1 ≤ now; omega, h1⟩
  · exact h.sent o ho
theorem tick_ok {B : BxV} (h : B.Ok) (now : Int) : (B.tick now).1.Ok := by
  unfold BxV.tick
  split
  · rename_i e; exact ticked_ok h e.1 e.2
  · exact h
theorem again_ok {B : BxV} (h : B.Ok) : B.again.Ok := mapped_ok h _ (fun _ => rfl) fun _ _ => ⟨Int.le_refl _, by show (-1 : Int) ≤ _; decide⟩
theorem BxV.Ok.mid {B : BxV} (h : B.Ok) (a : Nat) : B.Mid a := ⟨h.x0, h.x1, h.rise, h.rng, h.onceL, h.onceW, fun hx m hm _ => h.busy hx m hm, h.sent, h.keptL, h.keptW⟩
/-- How many there may be. -/
theorem BxV.Mid.len {B : BxV} {a : Nat} (h : B.Mid a) : B.l.length ≤ 1073741824 := by
  have key : ∀ (l : List OutV) (k : Int), 0 ≤ k → l.Pairwise (fun o p => o.m.xid < p.m.xid) → (∀ o ∈ l, k < o.m.xid ∧ o.m.xid ≤ 1073741824) → k ≤ 1073741824 → (l.length : Int) + k ≤ 1073741824 := by
    intro l
    induction l with
    | nil => intro k _ _ _ h; simpa using h
    | cons o t ih =>
      intro k h0 hp hm hk
      rw [List.pairwise_cons] at hp
      have ho := hm o (by simp)
      have := ih o.m.xid (by omega) hp.2 (fun p hpt => ⟨hp.1 p hpt, (hm p (by simp [hpt])).2⟩) ho.2
      simp
      omega
  have := key B.l 0 (by omega) h.rise (fun o ho => by have := h.rng o ho; have := h.x1; omega) (by omega)
  omega
theorem nodup_few : ∀ (n : Nat) (l : List Nat), l.Nodup → (∀ x ∈ l, x < n) → l.length ≤ n
  | 0, l, _, h => by
    cases l with
    | nil => simp
    | cons x t => have := h x (by simp); omega
  | n + 1, l, hn, h => by
    have h1 := nodup_few n (l.erase n) (hn.erase n) (fun x hx => by
      have h2 := h x (List.mem_of_mem_erase hx)
      have h3 : x ≠ n := fun e => (List.Nodup.not_mem_erase hn) (e ▸ hx)
      omega)
    have h4 : l.length ≤ (l.erase n).length + 1 := by
      rw [List.length_erase]
      split <;> omega
    omega
theorem BxV.Mid.lenW {B : BxV} {a : Nat} (h : B.Mid a) : B.w.length ≤ 4294967296 := by
  have := nodup_few 4294967296 (B.w.map MsgV.addr) (List.pairwise_map.2 h.onceW) (fun x hx => by
    obtain ⟨m, hm, rfl⟩ := List.mem_map.1 hx
    exact (h.keptW m hm).low)
  simpa using this
theorem BxV.Ok.len {B : BxV} (h : B.Ok) : B.l.length ≤ 1073741824 := (h.mid 0).len
theorem BxV.Ok.lenW {B : BxV} (h : B.Ok) : B.w.length ≤ 4294967296 := (h.mid 0).lenW
end Go.Proofs.Ytekladmddfibaaa
