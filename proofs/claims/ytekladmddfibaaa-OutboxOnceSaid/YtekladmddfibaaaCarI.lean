/- outbox, pure: of each address one message is out at a time; each number is given once; what is not answered is told again behind three moments. Then maps of numbers: to numbers, to addresses, to truths. (Joined of BoxO and CarI: a claim has at most 60 files.) -/
import Derived.Test.YtekladmddfibaaaCarM
namespace Go.Proofs.Ytekladmddfibaaa
section

/-- A map that is told of each message of a list. -/
def tellG {κ X : Type} [DecidableEq κ] (key : MsgV → κ) (val : MsgV → X) (f : κ → Option X) (l : List MsgV) : κ → Option X := l.foldl (fun f m => putF f (key m) (val m)) f
section
variable {κ X : Type} [DecidableEq κ] (key : MsgV → κ) (val : MsgV → X)
theorem tellG_snoc (f : κ → Option X) (l : List MsgV) (m : MsgV) : tellG key val f (l ++ [m]) = putF (tellG key val f l) (key m) (val m) := by simp [tellG]
theorem tellG_no (a : κ) : ∀ (l : List MsgV) (f : κ → Option X), (∀ m ∈ l, key m ≠ a) → tellG key val f l a = f a
  | [], _, _ => rfl
  | m :: r, f, h => by
    show tellG key val (putF f (key m) (val m)) r a = f a
    rw [tellG_no a r _ fun x hx => h x (List.mem_cons_of_mem _ hx)]
    unfold putF
    rw [if_neg fun e => h m List.mem_cons_self e.symm]
theorem tellG_at : ∀ (l : List MsgV) (f : κ → Option X) (m : MsgV), m ∈ l → l.Pairwise (fun x y => key x ≠ key y) → tellG key val f l (key m) = some (val m)
  | [], _, _, h, _ => by simp at h
  | x :: r, f, m, h, hp => by
    obtain ⟨h1, h2⟩ := List.pairwise_cons.1 hp
    show tellG key val (putF f (key x) (val x)) r (key m) = some (val m)
    rcases List.mem_cons.1 h with rfl | h
    · rw [tellG_no key val (key m) r _ fun y hy e => h1 y hy e.symm]
      unfold putF
      rw [if_pos rfl]
    · exact tellG_at r _ m h h2
end
def tellS (now : Int) (s : Int → Option Int) (l : List MsgV) : Int → Option Int := tellG (·.xid) (fun _ => now) s l
def tellA (f : Int → Option Nat) (l : List MsgV) : Int → Option Nat := tellG (·.xid) (·.addr) f l
theorem tellS_snoc (now : Int) (s : Int → Option Int) (l : List MsgV) (m : MsgV) : tellS now s (l ++ [m]) = putF (tellS now s l) m.xid now := tellG_snoc _ _ _ _ _
theorem tellA_snoc (f : Int → Option Nat) (l : List MsgV) (m : MsgV) : tellA f (l ++ [m]) = putF (tellA f l) m.xid m.addr := tellG_snoc _ _ _ _ _

/-- Behind j rounds: s: when a number was sent, f: of which address it is, gn: which are gone. -/
structure OnceI (B : BxV) (s : Int → Option Int) (f : Int → Option Nat) (gn : Int → Option Bool) (now : Int) (j : Nat) : Prop where
  ok : B.Ok
  few : B.xid ≤ j
  now0 : 0 ≤ now
  now1 : now ≤ 3 * j
  sent : ∀ o ∈ B.l, o.sent = (s o.m.xid).getD (-1)
  of_ : ∀ o ∈ B.l, ∀ v, s o.m.xid = some v → f o.m.xid = some o.m.addr
  gone : ∀ o ∈ B.l, gn o.m.xid ≠ some true
  pos : ∀ n v, s n = some v → 0 ≤ v
  newS : ∀ n, B.xid < n → s n = none
  newG : ∀ n, B.xid < n → gn n ≠ some true
theorem once_new : OnceI newB (fun _ => none) (fun _ => none) (fun _ => none) 0 0 :=
  ⟨new_ok, by decide, by decide, by decide, by simp [newB], by simp [newB], by simp [newB], by simp, by simp, by simp⟩
variable {B B' : BxV} {s : Int → Option Int} {f : Int → Option Nat} {gn gn' : Int → Option Bool} {now now' : Int} {j : Nat}
/-- What is out is what was, or what goes out under a new number. -/
theorem OnceI.step (h : OnceI B s f gn now j) (hok : B'.Ok) (hx0 : B.xid ≤ B'.xid) (hx1 : B'.xid ≤ B.xid + 1) (hl : ∀ o ∈ B'.l, o ∈ B.l ∨ (o.m.xid = B.xid + 1 ∧ o.sent = -1))
    (hg : ∀ n, gn' n = some true → gn n = some true ∨ (n ≤ B.xid ∧ ∀ o ∈ B'.l, o.m.xid ≠ n)) : OnceI B' s f gn' now (j + 1) := by
  have h1 := h.few
  have h2 := h.now1
  refine ⟨hok, by omega, h.now0, by omega, fun o ho => ?_, fun o ho v hv => ?_, fun o ho e => ?_, h.pos, fun n hn => h.newS n (by omega), fun n hn e => ?_⟩
  · rcases hl o ho with h3 | ⟨h3, h4⟩
    · exact h.sent o h3
    · rw [h.newS o.m.xid (by omega), h4]; rfl
  · rcases hl o ho with h3 | ⟨h3, h4⟩
    · exact h.of_ o h3 v hv
    · rw [h.newS o.m.xid (by omega)] at hv
      cases hv
  · rcases hg _ e with h3 | ⟨_, h3⟩
    · rcases hl o ho with h4 | ⟨h4, _⟩
      · exact h.gone o h4 h3
      · exact h.newG o.m.xid (by omega) h3
    · exact h3 o ho rfl
  · rcases hg _ e with h3 | ⟨h3, _⟩
    · exact h.newG n (by omega) h3
    · omega
theorem OnceI.put (h : OnceI B s f gn now j) (hj : j < 1073741824) (a : Nat) (n : Int) (ha : a < 4294967296) : OnceI (B.put (updM a n)).1 s f gn now (j + 1) := by
  have h1 := h.few
  have hok := put_ok h.ok (updM a n) ha
  rw [put_upd (by omega)] at hok ⊢
  obtain ⟨q1, q2, _, _, q5⟩ := goes_grow (B.waits (updM a n)) a
  exact h.step hok q1 q2 q5 fun n e => .inl e
theorem OnceI.ack (h : OnceI B s f gn now j) (n : Int) : ((B.acked n).2.isSome = true → gn n ≠ some true) ∧ OnceI (B.acked n).1 s f (putF gn n ((gn n).getD false || (B.acked n).2.isSome)) now (j + 1) := by
  cases hf : B.l.find? (fun o => o.m.xid == n) with
  | none =>
    have e : B.acked n = (B, none) := by unfold BxV.acked; rw [hf]
    rw [e]
    refine ⟨(fun e => by cases e), h.step h.ok (Int.le_refl _) (by show B.xid ≤ B.xid + 1; omega) (fun o ho => .inl ho) fun k hk => ?_⟩
    unfold putF at hk
    by_cases hkn : k = n
    · rw [if_pos hkn] at hk
      refine .inl ?_
      rw [hkn]
      cases hg : gn n with
      | none => rw [hg] at hk; simp at hk
      | some b => rw [hg] at hk; simpa using hk
    · rw [if_neg hkn] at hk
      exact .inl hk
  | some o =>
    have ho := List.mem_of_find?_eq_some hf
    have hx : o.m.xid = n := by simpa using List.find?_some hf
    have hok := acked_ok h.ok n
    rw [← hx] at hok ⊢
    rw [ack_at h.ok ho] at hok ⊢
    obtain ⟨q1, q2, _, _, q5⟩ := goes_grow (B.less o.m.xid) o.m.addr
    have e2 : (B.less o.m.xid).xid = B.xid := rfl
    rw [e2] at q1 q2 q5
    obtain ⟨_, _, l3⟩ := less_out h.ok ho
    have hr := (h.ok.rng o ho).2
    refine ⟨fun _ => h.gone o ho, h.step hok q1 q2 (fun p hp => ?_) fun k hk => ?_⟩
    · rcases q5 p hp with h4 | h4
      · exact .inl (l3 p h4).1
      · exact .inr h4
    · unfold putF at hk
      by_cases hkn : k = o.m.xid
      · refine .inr ⟨by omega, fun p hp e => ?_⟩
        rcases q5 p hp with h4 | ⟨h4, _⟩
        · exact (l3 p h4).2 (e.trans hkn)
        · omega
      · rw [if_neg hkn] at hk
        exact .inl hk
theorem told_xids (h : B.Ok) (now : Int) : (B.told now).Pairwise fun x y => x.xid ≠ y.xid := (told_rise h now).imp fun e => Int.ne_of_lt e
theorem OnceI.tick (h : OnceI B s f gn now j) (h0 : now ≤ now') (h1 : now' ≤ 3 * (j + 1)) (h2 : now' ≤ 1099511627776) :
    B.tick now' = (B.ticked now', B.told now', 0) ∧ OnceI (B.ticked now') (tellS now' s (B.told now')) (tellA f (B.told now')) gn now' (j + 1) := by
  have hn := h.now0
  have hf := h.few
  have hno : ∀ q ∈ B.l, dueO now' q ≠ true → ∀ m ∈ B.told now', m.xid ≠ q.m.xid := fun q hq hd m hm e => by
    obtain ⟨o, ho, hd2, rfl⟩ := told_mem.1 hm
    have := find_out h.ok hq
    rw [← e, find_out h.ok ho] at this
    exact hd (Option.some.inj this ▸ hd2)
  refine ⟨by unfold BxV.tick; rw [if_pos ⟨by omega, h2⟩], ticked_ok h.ok (by omega) h2, by show B.xid ≤ _; omega, by omega, by omega, fun o ho => ?_, fun o ho v hv => ?_, fun o ho => ?_, fun n v hv => ?_, fun n hx => ?_, h.newG⟩
  · obtain ⟨q, hq, rfl⟩ := List.mem_map.1 ho
    rw [sent_m]
    by_cases hd : dueO now' q = true
    · have e : tellS now' s (B.told now') q.m.xid = some now' := tellG_at (·.xid) (fun _ => now') _ s q.m (told_mem.2 ⟨q, hq, hd, rfl⟩) (told_xids h.ok now')
      rw [e]
      unfold sentO
      rw [if_pos hd]
      rfl
    · have e : tellS now' s (B.told now') q.m.xid = s q.m.xid := tellG_no (·.xid) (fun _ => now') _ _ s (hno q hq hd)
      rw [e]
      unfold sentO
      rw [if_neg hd]
      exact h.sent q hq
  · obtain ⟨q, hq, rfl⟩ := List.mem_map.1 ho
    rw [sent_m] at hv ⊢
    by_cases hd : dueO now' q = true
    · exact tellG_at (·.xid) (·.addr) _ f q.m (told_mem.2 ⟨q, hq, hd, rfl⟩) (told_xids h.ok now')
    · have e : tellS now' s (B.told now') q.m.xid = s q.m.xid := tellG_no (·.xid) (fun _ => now') _ _ s (hno q hq hd)
      rw [e] at hv
      have e2 : tellA f (B.told now') q.m.xid = f q.m.xid := tellG_no (·.xid) (·.addr) _ _ f (hno q hq hd)
      rw [e2]
      exact h.of_ q hq v hv
  · obtain ⟨q, hq, rfl⟩ := List.mem_map.1 ho
    rw [sent_m]
    exact h.gone q hq
  · by_cases hm : ∃ m ∈ B.told now', m.xid = n
    · obtain ⟨m, hm, rfl⟩ := hm
      have e : tellS now' s (B.told now') m.xid = some now' := tellG_at (·.xid) (fun _ => now') _ s m hm (told_xids h.ok now')
      rw [e] at hv
      have := Option.some.inj hv
      omega
    · have e : tellS now' s (B.told now') n = s n := tellG_no (·.xid) (fun _ => now') _ _ s fun m h1 h2 => hm ⟨m, h1, h2⟩
      rw [e] at hv
      exact h.pos n v hv
  · have hx : B.xid < n := hx
    have e : tellS now' s (B.told now') n = s n := tellG_no (·.xid) (fun _ => now') _ _ s fun m hm e => by
      obtain ⟨o, ho, _, rfl⟩ := told_mem.1 hm
      have := (h.ok.rng o ho).2
      omega
    rw [e]
    exact h.newS n hx
/-- What holds of each message that is told. -/
structure ToldM (s : Int → Option Int) (f : Int → Option Nat) (gn : Int → Option Bool) (now x : Int) (m : MsgV) : Prop where
  gone : (gn m.xid).getD false = false
  due : ∀ v, s m.xid = some v → 3 ≤ now - v ∧ 0 ≤ v
  of_ : ∀ v, s m.xid = some v → f m.xid = some m.addr
  lo : 1 ≤ m.xid
  hi : m.xid ≤ x
  low : m.addr < 4294967296
theorem OnceI.told (h : OnceI B s f gn now j) {m : MsgV} (hm : m ∈ B.told now') : ToldM s f gn now' B.xid m := by
  obtain ⟨o, ho, hd, rfl⟩ := told_mem.1 hm
  obtain ⟨r1, r2⟩ := h.ok.rng o ho
  refine ⟨?_, fun v hv => ?_, h.of_ o ho, r1, r2, (h.ok.keptL o ho).low⟩
  · have := h.gone o ho
    cases hg : gn o.m.xid with
    | none => rfl
    | some b => cases b with
      | false => rfl
      | true => exact absurd hg this
  · have h0 := h.pos _ _ hv
    have hs := h.sent o ho
    rw [hv] at hs
    have hs : o.sent = v := hs
    have := of_decide_eq_true hd
    omega
/-- What is told of a message does not touch what was known of those behind it. -/
theorem ToldM.take {l : List MsgV} {k : Nat} {x : Int} {m : MsgV} (h : ToldM s f gn now x m) (hm : l[k]? = some m) (hp : l.Pairwise fun x y => x.xid < y.xid) : ToldM (tellS now s (l.take k)) (tellA f (l.take k)) gn now x m := by
  have hno : ∀ y ∈ l.take k, y.xid ≠ m.xid := fun y hy => by
    obtain ⟨i, hi, e⟩ := List.getElem_of_mem hy
    rw [List.length_take] at hi
    rw [List.getElem_take] at e
    obtain ⟨hk, e2⟩ := List.getElem?_eq_some_iff.1 hm
    have := List.pairwise_iff_getElem.1 hp i k (by omega) hk (by omega)
    rw [e, e2] at this
    omega
  have e1 : tellS now s (l.take k) m.xid = s m.xid := tellG_no (·.xid) (fun _ => now) _ _ s hno
  have e2 : tellA f (l.take k) m.xid = f m.xid := tellG_no (·.xid) (·.addr) _ _ f hno
  refine ⟨h.gone, ?_, ?_, h.lo, h.hi, h.low⟩
  · rw [e1]; exact h.due
  · rw [e1, e2]; exact h.of_
end

open Go.RowKit Go.Sort Go.Maps

def KN : FnKd Try.prog Int Int where
  K := {
    t := 63
    k := 3
    e := 3
    q := .i64
    key := fun p => p.1
    val := fun p => .int .i64 p.2
    zero := .int .i64 0
    und := Try.underlying63
    uk := Try.underlying3
    hz := fun w => by simp [go_sem] }
  kof := fun a => a
  vof := fun n => .int .i64 n
  inj := fun a b h => h
  hk := fun _ => rfl
  hv := fun _ => rfl
def KNA : FnKd Try.prog Int Nat where
  K := {
    t := 64
    k := 3
    e := 29
    q := .i64
    key := fun p => p.1
    val := fun p => .int .u32 (p.2 : Int)
    zero := .int .u32 0
    und := Try.underlying64
    uk := Try.underlying3
    hz := fun w => by simp [go_sem] }
  kof := fun a => a
  vof := fun n => .int .u32 (n : Int)
  inj := fun a b h => h
  hk := fun _ => rfl
  hv := fun _ => rfl
def KNB : FnKd Try.prog Int Bool where
  K := {
    t := 65
    k := 3
    e := 4
    q := .i64
    key := fun p => p.1
    val := fun p => .bool p.2
    zero := .bool false
    und := Try.underlying65
    uk := Try.underlying3
    hz := fun w => by simp [go_sem] }
  kof := fun a => a
  vof := fun n => .bool n
  inj := fun a b h => h
  hk := fun _ => rfl
  hv := fun _ => rfl
theorem wf_i64s {n : Int} (h0 : 0 ≤ n) (h : n < 4294967296) : (Lit.int IntKind.i64 n).wf = true := by
  simp [Lit.wf, IntKind.min, IntKind.max, IntKind.bits, IntKind.signed]; omega
theorem kn_val (o : Option Int) : KN.valF o = .int .i64 (o.getD 0) := by cases o <;> rfl
theorem kna_val (o : Option Nat) : KNA.valF o = .int .u32 ((o.getD 0 : Nat) : Int) := by cases o <;> rfl
theorem knb_val (o : Option Bool) : KNB.valF o = .bool (o.getD false) := by cases o <;> rfl
section
variable {T : World → (Nat → Prop) → Nat → BxV → Prop} {w0 w : World} {Q : Nat → Prop} {g : Nat} {B : BxV} {b1 b2 b3 : Nat} {s : Int → Option Int} {f : Int → Option Nat} {gn : Int → Option Bool}
theorem Car3.putS (K : BoxK T) (h : Car3 T KN KNA KNB w0 w Q g B b1 b2 b3 s f gn) (n v : Int) (h0 : 0 ≤ n) (hn : n < 4294967296) :
    ∃ w', (Instr.mapUpdate 63 (.map (some b1)) (.int .i64 n) (.int .i64 v)).run Try.prog w = .ok () w' ∧ Car3 T KN KNA KNB w0 w' Q g B b1 b2 b3 (putF s n v) f gn ∧ w.grownBy w' (some b1) :=
  h.put1 K n v (wf_i64s h0 hn) h0 hn
theorem Car3.putA (K : BoxK T) (h : Car3 T KN KNA KNB w0 w Q g B b1 b2 b3 s f gn) (n : Int) (a : Nat) (h0 : 0 ≤ n) (hn : n < 4294967296) :
    ∃ w', (Instr.mapUpdate 64 (.map (some b2)) (.int .i64 n) (.int .u32 (a : Int))).run Try.prog w = .ok () w' ∧ Car3 T KN KNA KNB w0 w' Q g B b1 b2 b3 s (putF f n a) gn ∧ w.grownBy w' (some b2) :=
  h.put2 K n a (wf_i64s h0 hn) h0 hn
theorem Car3.putG (K : BoxK T) (h : Car3 T KN KNA KNB w0 w Q g B b1 b2 b3 s f gn) (n : Int) (t : Bool) (h0 : 0 ≤ n) (hn : n < 4294967296) :
    ∃ w', (Instr.mapUpdate 65 (.map (some b3)) (.int .i64 n) (.bool t)).run Try.prog w = .ok () w' ∧ Car3 T KN KNA KNB w0 w' Q g B b1 b2 b3 s f (putF gn n t) ∧ w.grownBy w' (some b3) :=
  h.put3 K n t (wf_i64s h0 hn) h0 hn
theorem Car3.lookS (h : Car3 T KN KNA KNB w0 w Q g B b1 b2 b3 s f gn) (n : Int) (h0 : 0 ≤ n) (hn : n < 4294967296) : (Instr.lookup 63 (.map (some b1)) (.int .i64 n) true).run Try.prog w = .ok (.tuple #[.int .i64 ((s n).getD 0), .bool (s n).isSome]) w := by
  have := h.m1.look_ok n (wf_i64s h0 hn)
  rw [kn_val] at this
  exact this
theorem Car3.lookA (h : Car3 T KN KNA KNB w0 w Q g B b1 b2 b3 s f gn) (n : Int) (h0 : 0 ≤ n) (hn : n < 4294967296) : (Instr.lookup 64 (.map (some b2)) (.int .i64 n) false).run Try.prog w = .ok (.int .u32 (((f n).getD 0 : Nat) : Int)) w := by
  have := h.m2.look n (wf_i64s h0 hn)
  rw [kna_val] at this
  exact this
theorem Car3.lookG (h : Car3 T KN KNA KNB w0 w Q g B b1 b2 b3 s f gn) (n : Int) (h0 : 0 ≤ n) (hn : n < 4294967296) : (Instr.lookup 65 (.map (some b3)) (.int .i64 n) false).run Try.prog w = .ok (.bool ((gn n).getD false)) w := by
  have := h.m3.look n (wf_i64s h0 hn)
  rw [knb_val] at this
  exact this
end
end Go.Proofs.Ytekladmddfibaaa
