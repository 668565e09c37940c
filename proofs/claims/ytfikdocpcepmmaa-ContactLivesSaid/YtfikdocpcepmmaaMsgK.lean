/- message.walk with any step. -/
import Derived.Test.YtfikdocpcepmmaaMsgG
import Derived.Deep.DeepCutAuto
namespace Go.Proofs.Ytfikdocpcepmmaa
open Go.RowKit

section
variable {σ : Type}
/-- The fields that all kinds have. -/
def headG (st : StepF σ) (s : σ) (m : MsgV) : MsgV × σ :=
  (⟨(st s m.kind 1 1 5).1, (st (st s m.kind 1 1 5).2 m.life 4 1 536870912).1, (st (st (st s m.kind 1 1 5).2 m.life 4 1 536870912).2 m.seen 4 0 536870912).1, 0, 0, 0, 0, ⟨#[]⟩, 0, 0, false⟩,
    (st (st (st s m.kind 1 1 5).2 m.life 4 1 536870912).2 m.seen 4 0 536870912).2)
def helloG (st : StepF σ) (s : σ) (m h : MsgV) : MsgV × σ :=
  ({ h with xid := (st s m.xid 4 1 1073741824).1, state := (st (st s m.xid 4 1 1073741824).2 m.state 1 0 8).1 }, (st (st s m.xid 4 1 1073741824).2 m.state 1 0 8).2)
def ackG (st : StepF σ) (s : σ) (m h : MsgV) : MsgV × σ :=
  ({ h with xid := (st s m.xid 4 1 1073741824).1, ok := (st (st s m.xid 4 1 1073741824).2 (bitI m.ok) 1 0 1).1 == 1 }, (st (st s m.xid 4 1 1073741824).2 (bitI m.ok) 1 0 1).2)
def addrOf (n : Int) : Nat := (n % 4294967296).toNat
def updateG (st : StepF σ) (s : σ) (m h : MsgV) : MsgV × σ :=
  let a := st s m.xid 4 1 1073741824
  let b := st a.2 (m.addr : Int) 4 0 4294967295
  let c := st b.2 m.bind 1 0 5
  let d := st c.2 m.pot 6 0 1099511627776
  let e := st d.2 m.at_ 6 0 1099511627776
  let f := nameG st e.2 m.client
  ({ h with xid := a.1, addr := addrOf b.1, bind := c.1, pot := d.1, at_ := e.1, client := f.1 }, f.2)
/-- All fields that the kind has. -/
def walkG (st : StepF σ) (s : σ) (m : MsgV) : MsgV × σ :=
  let h := headG st s m
  if h.1.kind = 1 then helloG st h.2 m h.1 else if h.1.kind = 3 then ackG st h.2 m h.1 else if h.1.kind = 2 then updateG st h.2 m h.1 else h

/-- A message's numbers are such as a step takes. -/
structure Fits (N : Int → Prop) (m : MsgV) : Prop where
  kind : N m.kind
  life : N m.life
  seen : N m.seen
  xid : N m.xid
  state : N m.state
  addr : N (m.addr : Int)
  bind : N m.bind
  pot : N m.pot
  at_ : N m.at_
  ok : N (bitI m.ok)
  client : N (m.client.size : Int)
  byte : ∀ c : UInt8, N (c.toNat : Int)

def Pw (P : Nat → Prop) (h k : Nat) : Prop := P k ∨ k = h ∨ k = h + 1 ∨ k = h + 1 + 1

/-- The world within the walk. -/
structure WS (I : Nat → (Nat → Prop) → σ → World → Prop) (n : Nat) (P : Nat → Prop) (h : Nat) (m v : MsgV) (s : σ) (w0 W : World) : Prop where
  inv : I n (Pw P h) s W
  m : MBox W h m
  r : MBox W (h + 1) zeroM
  v : MBox W (h + 1 + 1) v
  kp : Kp P w0 W
  old : ∀ k, P k → k < h

section
variable {base : Nat} {f : FuncId} {bs : Array Value} {st : StepF σ} {N : Int → Prop} {I : Nat → (Nat → Prop) → σ → World → Prop} {n n' h : Nat} {P : Nat → Prop} {m v v' : MsgV} {s s' : σ} {w0 W W' : World}
theorem WS.new (S : Steps base f bs st N I) (m : MsgV) (hI : I n P s w0) : WS I n P w0.heap.size m zeroM s w0 (((w0.alloc (mbox m)).alloc (mbox zeroM)).alloc (mbox zeroM)) := by
  have h1 := S.ext (mbox zeroM) (S.ext (mbox zeroM) (S.ext (mbox m) hI))
  simp only [World.size_alloc] at h1
  refine ⟨S.weak h1 fun k hk => ?_, ((MBox.new w0 m).alloc _).alloc _, ?_, ?_, ?_, S.lt hI⟩
  · rcases hk with hk | hk | hk | hk
    · exact .inl (.inl (.inl hk))
    · exact .inl (.inl (.inr hk))
    · exact .inl (.inr hk)
    · exact .inr hk
  · have h2 := (MBox.new (w0.alloc (mbox m)) zeroM).alloc (mbox zeroM)
    simpa only [World.size_alloc] using h2
  · have h2 := MBox.new ((w0.alloc (mbox m)).alloc (mbox zeroM)) zeroM
    simpa only [World.size_alloc] using h2
  · exact ((((Kp.refl P w0).alloc (S.lt hI) _).alloc (S.lt hI) _).alloc (S.lt hI) _)
theorem WS.step (h1 : WS I n P h m v s w0 W) (hI : I n' (Pw P h) s' W') (hK : Kp (Pw P h) W W') : WS I n' P h m v s' w0 W' :=
  ⟨hI, h1.m.kp hK (.inr (.inl rfl)), h1.r.kp hK (.inr (.inr (.inl rfl))), h1.v.kp hK (.inr (.inr (.inr rfl))), h1.kp.trans (hK.weak fun _ hk => .inl hk), h1.old⟩
theorem WS.store (S : Steps base f bs st N I) (hb : base ≤ h) (h1 : WS I n P h m v s w0 W) (i : Nat) (u : Value) (v' : MsgV) (hu : v.cells.setIfInBounds i u = v'.cells) : WS I n P h m v' s w0 (W.setCell ⟨h + 1 + 1, i, none⟩ u) := by
  refine ⟨S.keep h1.inv (by rw [World.size_setCell]; exact Nat.le_refl _) fun k _ hk => Below.heap_setCell _ _ _ k ?_, h1.m.other (by show h ≠ h + 1 + 1; omega) u, h1.r.other (by show h + 1 ≠ h + 1 + 1; omega) u, h1.v.store i u hu, h1.kp.set (fun e => by have := h1.old _ e; simp at this; omega) u, h1.old⟩
  rcases hk with hk | hk
  · show k ≠ h + 1 + 1; omega
  · exact fun e => hk (.inr (.inr (.inr e)))
theorem WS.alloc (S : Steps base f bs st N I) (h1 : WS I n P h m v s w0 W) (o : Obj) (hw : ∀ k, P k → k < w0.heap.size) : WS I n P h m v s w0 (W.alloc o) :=
  ⟨S.keep h1.inv (by simp) fun _ hk _ => heap_alloc_old W o hk, h1.m.alloc o, h1.r.alloc o, h1.v.alloc o, h1.kp.alloc hw o, h1.old⟩
theorem WS.less (S : Steps base f bs st N I) (h1 : WS I n P h m v s w0 W) (hn : n' ≤ n) : WS I n' P h m v s w0 W := ⟨S.less h1.inv hn, h1.m, h1.r, h1.v, h1.kp, h1.old⟩

theorem among_at {X : World} {b : Nat} (hb : X.heap.size = b) (k : Int) (ks : List Int) (hks : ks.length ≤ 10) :
    Calls Try.prog 30 #[.int .i64 k, .slice (some ⟨b, 0, none⟩) ks.length ks.length] (X.alloc (.cells (ks.map fun x => Value.int .i64 x).toArray 3)) fun e w' => e = .returned (.bool (amB k ks)) ∧ X.alloc (.cells (ks.map fun x => Value.int .i64 x).toArray 3) = w' :=
  among_any k b ks hks _ (by subst hb; exact heap_alloc_new X _)

/-- The result's cells are stored at once. -/
theorem walk_end (S : Steps base f bs st N I) (hb : base ≤ h) (h1 : WS I n P h m v s w0 W) (hk : Kp (· ≠ h + 1) W W') : I 0 P s W' ∧ Kp P w0 W' := by
  refine ⟨S.less (S.weak (S.keep h1.inv hk.size fun j _ hj => hk.block j ?_) fun k hk => .inl hk) (Nat.zero_le _), h1.kp.trans (hk.weak fun k hk' => ?_)⟩
  · rcases hj with hj | hj
    · show j ≠ h + 1; omega
    · exact fun e => hj (.inr (.inr (.inl e)))
  · have := h1.old k hk'
    show k ≠ h + 1; omega
theorem walk_results {W : World} {g : Nat} {q : MsgV} (hp : MBox W g q) (t : Array Value) (h4 : t[4]?.getD undef = .pointer (some ⟨g, 0, none⟩)) :
    (results Try.f27 t).run Try.prog W = .ok q.v W := by
  obtain ⟨r0, r1, r2, r3, r4, r5, r6, r7, r8, r9, r10⟩ := hp.all
  simp [results, Try.f27, go_sem, h4, r0, r1, r2, r3, r4, r5, r6, r7, r8, r9, r10]

set_option maxRecDepth 100000 in
set_option maxHeartbeats 4000000 in
theorem walk_any (S : Steps base f bs st N I) (m : MsgV) (hN : Fits N m) (s : σ) (hlen : ∀ s, ∃ k : Nat, (st s (m.client.size : Int) 1 0 32).1 = k ∧ k ≤ 255) (P : Nat → Prop) (w : World) (hI : I 290 P s w) (hb : base ≤ w.heap.size) (hAd : m.addr < 4294967296) :
    Calls Try.prog 27 #[m.v, .func (.func f) #[] bs] w fun e w' => e = .returned (walkG st s m).1.v ∧ I 0 P (walkG st s m).2 w' ∧ Kp P w w' := by
  have hen := S.enters
  have hP := S.lt hI
  have S0 := WS.new S m hI
  obtain ⟨r0, hr0⟩ : ∃ r, r = st s m.kind 1 1 5 := ⟨_, rfl⟩
  have HC0 := Lib.hid (S.call m.kind 1 1 5 S0.inv hN.kind (by omega))
  rw [← hr0] at HC0
  have c0 := S0.m.c0
  have HT0 := Lib.hid S0
  have HS := Lib.hid S
  have HN := Lib.hid hN
  have HP := Lib.hid hP
  have HL := Lib.hid hlen
  have HR0 := Lib.hid hr0
  clear S0 S hN hP hlen hr0 hI
  go_enter Try.func27, Try.ntmps27
  go_wp2_with fail
  refine HC0.out.mono ?_
  rintro e w1 ⟨rfl, hI, hK⟩
  have hS := HT0.out.step hI hK
  have d1 := hS.v.c0
  have f1 := hS.v.free 0
  have hT := hS.store HS.out hb 0 (.int .i64 r0.1) ⟨r0.1, 0, 0, 0, 0, 0, 0, ⟨#[]⟩, 0, 0, false⟩ rfl
  have HT1 := Lib.hid hT
  clear c0 hI hK hS hT
  have e1 := HT1.out.m.c1
  obtain ⟨r1, hr1⟩ : ∃ r, r = st r0.2 m.life 4 1 536870912 := ⟨_, rfl⟩
  have HC1 := Lib.hid (HS.out.call m.life 4 1 536870912 HT1.out.inv HN.out.life (by omega))
  rw [← hr1] at HC1
  have HR1 := Lib.hid hr1
  clear hr1
  go_wp2_with fail
  refine HC1.out.mono ?_
  rintro e w2 ⟨rfl, hI, hK⟩
  have hS := HT1.out.step hI hK
  have d2 := hS.v.c1
  have f2 := hS.v.free 1
  have hT := hS.store HS.out hb 1 (.int .i64 r1.1) ⟨r0.1, r1.1, 0, 0, 0, 0, 0, ⟨#[]⟩, 0, 0, false⟩ rfl
  have HT2 := Lib.hid hT
  clear d1 f1 e1 hI hK hS hT
  have e2 := HT2.out.m.c2
  obtain ⟨r2, hr2⟩ : ∃ r, r = st r1.2 m.seen 4 0 536870912 := ⟨_, rfl⟩
  have HC2 := Lib.hid (HS.out.call m.seen 4 0 536870912 HT2.out.inv HN.out.seen (by omega))
  rw [← hr2] at HC2
  have HR2 := Lib.hid hr2
  clear hr2
  go_wp2_with fail
  refine HC2.out.mono ?_
  rintro e w3 ⟨rfl, hI, hK⟩
  have hS := HT2.out.step hI hK
  have d3 := hS.v.c2
  have f3 := hS.v.free 2
  have hT := hS.store HS.out hb 2 (.int .i64 r2.1) ⟨r0.1, r1.1, r2.1, 0, 0, 0, 0, ⟨#[]⟩, 0, 0, false⟩ rfl
  have HT3 := Lib.hid hT
  clear d2 f2 e2 hI hK hS hT
  by_cases h1 : r0.1 = 1
  · have hA : amB r0.1 [1, 2, 3] = true := by unfold amB; simp; omega
    have hB : amB r0.1 [1] = true := by unfold amB; simp; omega
    have hC : amB r0.1 [3] = false := by unfold amB; simp; omega
    have hD : amB r0.1 [2] = false := by unfold amB; simp; omega
    have HK := Lib.hid (show r0.1 = 1 from h1)
    clear h1
    have k0 := HT3.out.v.c0
    have HA1 := Lib.hid (HT3.out.alloc HS.out (.cells (([1, 2, 3] : List Int).map fun x => Value.int .i64 x).toArray 3) HP.out)
    go_wp2_with fail
    refine (among_at (by simp) r0.1 [1, 2, 3] (by decide)).mono ?_
    rintro e x1 ⟨rfl, hx⟩
    rw [hx] at HA1
    clear k0 hx
    clear d3 f3
    have e3 := HA1.out.m.c3
    obtain ⟨r3, hr3⟩ : ∃ r, r = st r2.2 m.xid 4 1 1073741824 := ⟨_, rfl⟩
    have HC3 := Lib.hid (HS.out.call m.xid 4 1 1073741824 HA1.out.inv HN.out.xid (by omega))
    rw [← hr3] at HC3
    have HR3 := Lib.hid hr3
    clear hr3
    go_wp2_with fail
    refine HC3.out.mono ?_
    rintro e w4 ⟨rfl, hI, hK⟩
    have hS := HA1.out.step hI hK
    have d4 := hS.v.c3
    have f4 := hS.v.free 3
    have hT := hS.store HS.out hb 3 (.int .i64 r3.1) ⟨r0.1, r1.1, r2.1, r3.1, 0, 0, 0, ⟨#[]⟩, 0, 0, false⟩ rfl
    have HT4 := Lib.hid hT
    clear e3 hI hK hS hT
    have k0 := HT4.out.v.c0
    have HA2 := Lib.hid (HT4.out.alloc HS.out (.cells (([1] : List Int).map fun x => Value.int .i64 x).toArray 3) HP.out)
    go_wp2_with fail
    refine (among_at (by simp) r0.1 [1] (by decide)).mono ?_
    rintro e x2 ⟨rfl, hx⟩
    rw [hx] at HA2
    clear k0 hx
    clear d4 f4
    have e4 := HA2.out.m.c4
    obtain ⟨r4, hr4⟩ : ∃ r, r = st r3.2 m.state 1 0 8 := ⟨_, rfl⟩
    have HC4 := Lib.hid (HS.out.call m.state 1 0 8 HA2.out.inv HN.out.state (by omega))
    rw [← hr4] at HC4
    have HR4 := Lib.hid hr4
    clear hr4
    go_wp2_with fail
    refine HC4.out.mono ?_
    rintro e w5 ⟨rfl, hI, hK⟩
    have hS := HA2.out.step hI hK
    try clear d4 f4
    have d5 := hS.v.c4
    have f5 := hS.v.free 4
    have hT := hS.store HS.out hb 4 (.int .i64 r4.1) ⟨r0.1, r1.1, r2.1, r3.1, r4.1, 0, 0, ⟨#[]⟩, 0, 0, false⟩ rfl
    have HT5 := Lib.hid hT
    clear e4 hI hK hS hT
    have k0 := HT5.out.v.c0
    have HA3 := Lib.hid (HT5.out.alloc HS.out (.cells (([3] : List Int).map fun x => Value.int .i64 x).toArray 3) HP.out)
    go_wp2_with fail
    refine (among_at (by simp) r0.1 [3] (by decide)).mono ?_
    rintro e x3 ⟨rfl, hx⟩
    rw [hx] at HA3
    clear k0 hx
    clear d5 f5
    have k0 := HA3.out.v.c0
    have HA4 := Lib.hid (HA3.out.alloc HS.out (.cells (([2] : List Int).map fun x => Value.int .i64 x).toArray 3) HP.out)
    go_wp2_with fail
    refine (among_at (by simp) r0.1 [2] (by decide)).mono ?_
    rintro e x4 ⟨rfl, hx⟩
    rw [hx] at HA4
    clear k0 hx
    have HV : Hid (walkG st s m = (⟨r0.1, r1.1, r2.1, r3.1, r4.1, 0, 0, ⟨#[]⟩, 0, 0, false⟩, r4.2)) := Lib.hid (by
      simp only [walkG, headG, ← HR0.out, ← HR1.out, ← HR2.out]
      rw [if_pos HK.out]
      simp only [helloG, ← HR3.out, ← HR4.out])
    have HZB := Lib.hid (storeM_box HA4.out.r ⟨r0.1, r1.1, r2.1, r3.1, r4.1, 0, 0, ⟨#[]⟩, 0, 0, false⟩)
    have HF := Lib.hid (walk_end HS.out hb HA4.out (storeM_kp _ _ ⟨r0.1, r1.1, r2.1, r3.1, r4.1, 0, 0, ⟨#[]⟩, 0, 0, false⟩))
    obtain ⟨v0, v1, v2, v3, v4, v5, v6, v7, v8, v9, v10⟩ := HA4.out.v.all
    obtain ⟨z0, z1, z2, z3, z4, z5, z6, z7, z8, z9, z10⟩ := HA4.out.r.all
    have f0 := HA4.out.r.free 0
    have f1 := HA4.out.r.free 1
    have f2 := HA4.out.r.free 2
    have f3 := HA4.out.r.free 3
    have f4 := HA4.out.r.free 4
    have f5 := HA4.out.r.free 5
    have f6 := HA4.out.r.free 6
    have f7 := HA4.out.r.free 7
    have f8 := HA4.out.r.free 8
    have f9 := HA4.out.r.free 9
    have f10 := HA4.out.r.free 10
    clear hA hB hC
    go_wp2
    refine bodyPost_ret (v := (⟨r0.1, r1.1, r2.1, r3.1, r4.1, 0, 0, ⟨#[]⟩, 0, 0, false⟩ : MsgV).v) ?_ ?_ ?_
    · exact walk_results HZB.out _ rfl
    · rfl
    · rw [HV.out]
      exact ⟨rfl, HF.out⟩
  by_cases h3 : r0.1 = 3
  · have hA : amB r0.1 [1, 2, 3] = true := by unfold amB; simp; omega
    have hB : amB r0.1 [1] = false := by unfold amB; simp; omega
    have hC : amB r0.1 [3] = true := by unfold amB; simp; omega
    have hD : amB r0.1 [2] = false := by unfold amB; simp; omega
    have HK := Lib.hid (show r0.1 = 3 from h3)
    clear h1 h3
    have k0 := HT3.out.v.c0
    have HA1 := Lib.hid (HT3.out.alloc HS.out (.cells (([1, 2, 3] : List Int).map fun x => Value.int .i64 x).toArray 3) HP.out)
    go_wp2_with fail
    refine (among_at (by simp) r0.1 [1, 2, 3] (by decide)).mono ?_
    rintro e x1 ⟨rfl, hx⟩
    rw [hx] at HA1
    clear k0 hx
    clear d3 f3
    have e3 := HA1.out.m.c3
    obtain ⟨r3, hr3⟩ : ∃ r, r = st r2.2 m.xid 4 1 1073741824 := ⟨_, rfl⟩
    have HC3 := Lib.hid (HS.out.call m.xid 4 1 1073741824 HA1.out.inv HN.out.xid (by omega))
    rw [← hr3] at HC3
    have HR3 := Lib.hid hr3
    clear hr3
    go_wp2_with fail
    refine HC3.out.mono ?_
    rintro e w4 ⟨rfl, hI, hK⟩
    have hS := HA1.out.step hI hK
    have d4 := hS.v.c3
    have f4 := hS.v.free 3
    have hT := hS.store HS.out hb 3 (.int .i64 r3.1) ⟨r0.1, r1.1, r2.1, r3.1, 0, 0, 0, ⟨#[]⟩, 0, 0, false⟩ rfl
    have HT4 := Lib.hid hT
    clear e3 hI hK hS hT
    have k0 := HT4.out.v.c0
    have HA2 := Lib.hid (HT4.out.alloc HS.out (.cells (([1] : List Int).map fun x => Value.int .i64 x).toArray 3) HP.out)
    go_wp2_with fail
    refine (among_at (by simp) r0.1 [1] (by decide)).mono ?_
    rintro e x2 ⟨rfl, hx⟩
    rw [hx] at HA2
    clear k0 hx
    clear d4 f4
    have k0 := HA2.out.v.c0
    have HA3 := Lib.hid (HA2.out.alloc HS.out (.cells (([3] : List Int).map fun x => Value.int .i64 x).toArray 3) HP.out)
    go_wp2_with fail
    refine (among_at (by simp) r0.1 [3] (by decide)).mono ?_
    rintro e x3 ⟨rfl, hx⟩
    rw [hx] at HA3
    clear k0 hx
    have e4 := HA3.out.m.c10
    go_wp2_with fail
    refine (bit_any m.ok _).mono ?_
    rintro e w' ⟨rfl, rfl⟩
    clear e4
    have e4 := HA3.out.m.c10
    obtain ⟨r4, hr4⟩ : ∃ r, r = st r3.2 (bitI m.ok) 1 0 1 := ⟨_, rfl⟩
    have HC4 := Lib.hid (HS.out.call (bitI m.ok) 1 0 1 HA3.out.inv HN.out.ok (by omega))
    rw [← hr4] at HC4
    have HR4 := Lib.hid hr4
    clear hr4
    go_wp2_with fail
    refine HC4.out.mono ?_
    rintro e w5 ⟨rfl, hI, hK⟩
    have hS := HA3.out.step hI hK
    try clear d4 f4
    have d5 := hS.v.c10
    have f5 := hS.v.free 10
    have hT := hS.store HS.out hb 10 (.bool (r4.1 == 1)) ⟨r0.1, r1.1, r2.1, r3.1, 0, 0, 0, ⟨#[]⟩, 0, 0, r4.1 == 1⟩ rfl
    have HT5 := Lib.hid hT
    clear e4 hI hK hS hT
    have k0 := HT5.out.v.c0
    have HA4 := Lib.hid (HT5.out.alloc HS.out (.cells (([2] : List Int).map fun x => Value.int .i64 x).toArray 3) HP.out)
    go_wp2_with fail
    refine (among_at (by simp) r0.1 [2] (by decide)).mono ?_
    rintro e x4 ⟨rfl, hx⟩
    rw [hx] at HA4
    clear k0 hx
    clear d5 f5
    have HV : Hid (walkG st s m = (⟨r0.1, r1.1, r2.1, r3.1, 0, 0, 0, ⟨#[]⟩, 0, 0, r4.1 == 1⟩, r4.2)) := Lib.hid (by
      simp only [walkG, headG, ← HR0.out, ← HR1.out, ← HR2.out]
      rw [if_neg (by have := HK.out; omega), if_pos HK.out]
      simp only [ackG, ← HR3.out, ← HR4.out])
    have HZB := Lib.hid (storeM_box HA4.out.r ⟨r0.1, r1.1, r2.1, r3.1, 0, 0, 0, ⟨#[]⟩, 0, 0, r4.1 == 1⟩)
    have HF := Lib.hid (walk_end HS.out hb HA4.out (storeM_kp _ _ ⟨r0.1, r1.1, r2.1, r3.1, 0, 0, 0, ⟨#[]⟩, 0, 0, r4.1 == 1⟩))
    obtain ⟨v0, v1, v2, v3, v4, v5, v6, v7, v8, v9, v10⟩ := HA4.out.v.all
    obtain ⟨z0, z1, z2, z3, z4, z5, z6, z7, z8, z9, z10⟩ := HA4.out.r.all
    have f0 := HA4.out.r.free 0
    have f1 := HA4.out.r.free 1
    have f2 := HA4.out.r.free 2
    have f3 := HA4.out.r.free 3
    have f4 := HA4.out.r.free 4
    have f5 := HA4.out.r.free 5
    have f6 := HA4.out.r.free 6
    have f7 := HA4.out.r.free 7
    have f8 := HA4.out.r.free 8
    have f9 := HA4.out.r.free 9
    have f10 := HA4.out.r.free 10
    clear hA hB hC
    go_wp2
    refine bodyPost_ret (v := (⟨r0.1, r1.1, r2.1, r3.1, 0, 0, 0, ⟨#[]⟩, 0, 0, r4.1 == 1⟩ : MsgV).v) ?_ ?_ ?_
    · exact walk_results HZB.out _ rfl
    · rfl
    · rw [HV.out]
      exact ⟨rfl, HF.out⟩
  by_cases h2 : r0.1 = 2
  · have hA : amB r0.1 [1, 2, 3] = true := by unfold amB; simp; omega
    have hB : amB r0.1 [1] = false := by unfold amB; simp; omega
    have hC : amB r0.1 [3] = false := by unfold amB; simp; omega
    have hD : amB r0.1 [2] = true := by unfold amB; simp; omega
    have HK := Lib.hid (show r0.1 = 2 from h2)
    clear h1 h3 h2
    have k0 := HT3.out.v.c0
    have HA1 := Lib.hid (HT3.out.alloc HS.out (.cells (([1, 2, 3] : List Int).map fun x => Value.int .i64 x).toArray 3) HP.out)
    go_wp2_with fail
    refine (among_at (by simp) r0.1 [1, 2, 3] (by decide)).mono ?_
    rintro e x1 ⟨rfl, hx⟩
    rw [hx] at HA1
    clear k0 hx
    clear d3 f3
    have e3 := HA1.out.m.c3
    obtain ⟨r3, hr3⟩ : ∃ r, r = st r2.2 m.xid 4 1 1073741824 := ⟨_, rfl⟩
    have HC3 := Lib.hid (HS.out.call m.xid 4 1 1073741824 HA1.out.inv HN.out.xid (by omega))
    rw [← hr3] at HC3
    have HR3 := Lib.hid hr3
    clear hr3
    go_wp2_with fail
    refine HC3.out.mono ?_
    rintro e w4 ⟨rfl, hI, hK⟩
    have hS := HA1.out.step hI hK
    have d4 := hS.v.c3
    have f4 := hS.v.free 3
    have hT := hS.store HS.out hb 3 (.int .i64 r3.1) ⟨r0.1, r1.1, r2.1, r3.1, 0, 0, 0, ⟨#[]⟩, 0, 0, false⟩ rfl
    have HT4 := Lib.hid hT
    clear e3 hI hK hS hT
    have k0 := HT4.out.v.c0
    have HA2 := Lib.hid (HT4.out.alloc HS.out (.cells (([1] : List Int).map fun x => Value.int .i64 x).toArray 3) HP.out)
    go_wp2_with fail
    refine (among_at (by simp) r0.1 [1] (by decide)).mono ?_
    rintro e x2 ⟨rfl, hx⟩
    rw [hx] at HA2
    clear k0 hx
    clear d4 f4
    have k0 := HA2.out.v.c0
    have HA3 := Lib.hid (HA2.out.alloc HS.out (.cells (([3] : List Int).map fun x => Value.int .i64 x).toArray 3) HP.out)
    go_wp2_with fail
    refine (among_at (by simp) r0.1 [3] (by decide)).mono ?_
    rintro e x3 ⟨rfl, hx⟩
    rw [hx] at HA3
    clear k0 hx
    have k0 := HA3.out.v.c0
    have HA4 := Lib.hid (HA3.out.alloc HS.out (.cells (([2] : List Int).map fun x => Value.int .i64 x).toArray 3) HP.out)
    go_wp2_with fail
    refine (among_at (by simp) r0.1 [2] (by decide)).mono ?_
    rintro e x4 ⟨rfl, hx⟩
    rw [hx] at HA4
    clear k0 hx
    have e4 := HA4.out.m.c5
    obtain ⟨r4, hr4⟩ : ∃ r, r = st r3.2 (m.addr : Int) 4 0 4294967295 := ⟨_, rfl⟩
    have HC4 := Lib.hid (HS.out.call (m.addr : Int) 4 0 4294967295 HA4.out.inv HN.out.addr (by omega))
    rw [← hr4] at HC4
    have HR4 := Lib.hid hr4
    clear hr4
    go_wp2_with fail
    refine HC4.out.mono ?_
    rintro e w5 ⟨rfl, hI, hK⟩
    have hS := HA4.out.step hI hK
    try clear d4 f4
    have d5 := hS.v.c5
    have f5 := hS.v.free 5
    have q5 : r4.1 % 4294967296 = ((addrOf r4.1 : Nat) : Int) := by unfold addrOf; omega
    have hT := hS.store HS.out hb 5 (.int .u32 ((addrOf r4.1 : Nat) : Int)) ⟨r0.1, r1.1, r2.1, r3.1, 0, addrOf r4.1, 0, ⟨#[]⟩, 0, 0, false⟩ rfl
    have HT5 := Lib.hid hT
    clear e4 hI hK hS hT
    have e5 := HT5.out.m.c6
    obtain ⟨r5, hr5⟩ : ∃ r, r = st r4.2 m.bind 1 0 5 := ⟨_, rfl⟩
    have HC5 := Lib.hid (HS.out.call m.bind 1 0 5 HT5.out.inv HN.out.bind (by omega))
    rw [← hr5] at HC5
    have HR5 := Lib.hid hr5
    clear hr5
    go_wp2_with fail
    refine HC5.out.mono ?_
    rintro e w6 ⟨rfl, hI, hK⟩
    have hS := HT5.out.step hI hK
    try clear d5 f5
    have d6 := hS.v.c6
    have f6 := hS.v.free 6
    have hT := hS.store HS.out hb 6 (.int .i64 r5.1) ⟨r0.1, r1.1, r2.1, r3.1, 0, addrOf r4.1, r5.1, ⟨#[]⟩, 0, 0, false⟩ rfl
    have HT6 := Lib.hid hT
    clear e5 hI hK hS hT
    have e6 := HT6.out.m.c8
    obtain ⟨r6, hr6⟩ : ∃ r, r = st r5.2 m.pot 6 0 1099511627776 := ⟨_, rfl⟩
    have HC6 := Lib.hid (HS.out.call m.pot 6 0 1099511627776 HT6.out.inv HN.out.pot (by omega))
    rw [← hr6] at HC6
    have HR6 := Lib.hid hr6
    clear hr6
    go_wp2_with fail
    refine HC6.out.mono ?_
    rintro e w7 ⟨rfl, hI, hK⟩
    have hS := HT6.out.step hI hK
    try clear d6 f6
    have d7 := hS.v.c8
    have f7 := hS.v.free 8
    have hT := hS.store HS.out hb 8 (.int .i64 r6.1) ⟨r0.1, r1.1, r2.1, r3.1, 0, addrOf r4.1, r5.1, ⟨#[]⟩, r6.1, 0, false⟩ rfl
    have HT7 := Lib.hid hT
    clear e6 hI hK hS hT
    have e7 := HT7.out.m.c9
    obtain ⟨r7, hr7⟩ : ∃ r, r = st r6.2 m.at_ 6 0 1099511627776 := ⟨_, rfl⟩
    have HC7 := Lib.hid (HS.out.call m.at_ 6 0 1099511627776 HT7.out.inv HN.out.at_ (by omega))
    rw [← hr7] at HC7
    have HR7 := Lib.hid hr7
    clear hr7
    go_wp2_with fail
    refine HC7.out.mono ?_
    rintro e w8 ⟨rfl, hI, hK⟩
    have hS := HT7.out.step hI hK
    try clear d7 f7
    have d8 := hS.v.c9
    have f8 := hS.v.free 9
    have hT := hS.store HS.out hb 9 (.int .i64 r7.1) ⟨r0.1, r1.1, r2.1, r3.1, 0, addrOf r4.1, r5.1, ⟨#[]⟩, r6.1, r7.1, false⟩ rfl
    have HT8 := Lib.hid hT
    clear e7 hI hK hS hT
    have e8 := HT8.out.m.c7
    have HC8 := Lib.hid (name_any HS.out m.client HN.out.client HN.out.byte r7.2 (HL.out _) _ _ (HT8.out.less HS.out (n' := 256) (by omega)).inv (Nat.le_trans hb HT8.out.kp.size))
    obtain ⟨r8, hr8⟩ : ∃ r, r = nameG st r7.2 m.client := ⟨_, rfl⟩
    rw [← hr8] at HC8
    have HR8 := Lib.hid hr8
    clear hr8
    go_wp2_with fail
    clear d8 f8
    refine HC8.out.mono ?_
    rintro e w9 ⟨rfl, hI, hK⟩
    have hS := HT8.out.step hI hK
    have d9 := hS.v.c7
    have f9 := hS.v.free 7
    have hT := hS.store HS.out hb 7 (.string r8.1) ⟨r0.1, r1.1, r2.1, r3.1, 0, addrOf r4.1, r5.1, r8.1, r6.1, r7.1, false⟩ rfl
    have HT9 := Lib.hid hT
    clear e8 hI hK hS hT
    go_upto_region 17 with fail
    obtain ⟨y, hy⟩ : ∃ y, y = w9.setCell ⟨w.heap.size + 1 + 1, 7, none⟩ (.string r8.1) := ⟨_, rfl⟩
    rw [← hy] at HT9 ⊢
    clear hy d9 f9
    have HV : Hid (walkG st s m = (⟨r0.1, r1.1, r2.1, r3.1, 0, addrOf r4.1, r5.1, r8.1, r6.1, r7.1, false⟩, r8.2)) := Lib.hid (by
      simp only [walkG, headG, ← HR0.out, ← HR1.out, ← HR2.out]
      rw [if_neg (by have := HK.out; omega), if_neg (by have := HK.out; omega), if_pos HK.out]
      simp only [updateG, ← HR3.out, ← HR4.out, ← HR5.out, ← HR6.out, ← HR7.out, ← HR8.out])
    have HZB := Lib.hid (storeM_box HT9.out.r ⟨r0.1, r1.1, r2.1, r3.1, 0, addrOf r4.1, r5.1, r8.1, r6.1, r7.1, false⟩)
    have HF := Lib.hid (walk_end HS.out hb HT9.out (storeM_kp _ _ ⟨r0.1, r1.1, r2.1, r3.1, 0, addrOf r4.1, r5.1, r8.1, r6.1, r7.1, false⟩))
    obtain ⟨v0, v1, v2, v3, v4, v5, v6, v7, v8, v9, v10⟩ := HT9.out.v.all
    obtain ⟨z0, z1, z2, z3, z4, z5, z6, z7, z8, z9, z10⟩ := HT9.out.r.all
    have f0 := HT9.out.r.free 0
    have f1 := HT9.out.r.free 1
    have f2 := HT9.out.r.free 2
    have f3 := HT9.out.r.free 3
    have f4 := HT9.out.r.free 4
    have f5 := HT9.out.r.free 5
    have f6 := HT9.out.r.free 6
    have f7 := HT9.out.r.free 7
    have f8 := HT9.out.r.free 8
    have f9 := HT9.out.r.free 9
    have f10 := HT9.out.r.free 10
    clear hA hB hC
    go_wp2
    refine bodyPost_ret (v := (⟨r0.1, r1.1, r2.1, r3.1, 0, addrOf r4.1, r5.1, r8.1, r6.1, r7.1, false⟩ : MsgV).v) ?_ ?_ ?_
    · exact walk_results HZB.out _ rfl
    · rfl
    · rw [HV.out]
      exact ⟨rfl, HF.out⟩
  · have hA : amB r0.1 [1, 2, 3] = false := by unfold amB; simp; omega
    have hB : amB r0.1 [1] = false := by unfold amB; simp; omega
    have hC : amB r0.1 [3] = false := by unfold amB; simp; omega
    have hD : amB r0.1 [2] = false := by unfold amB; simp; omega
    have HK := Lib.hid (show r0.1 ≠ 1 ∧ r0.1 ≠ 3 ∧ r0.1 ≠ 2 from ⟨h1, h3, h2⟩)
    clear h1 h3 h2
    have k0 := HT3.out.v.c0
    have HA1 := Lib.hid (HT3.out.alloc HS.out (.cells (([1, 2, 3] : List Int).map fun x => Value.int .i64 x).toArray 3) HP.out)
    go_wp2_with fail
    refine (among_at (by simp) r0.1 [1, 2, 3] (by decide)).mono ?_
    rintro e x1 ⟨rfl, hx⟩
    rw [hx] at HA1
    clear k0 hx
    clear d3 f3
    have k0 := HA1.out.v.c0
    have HA2 := Lib.hid (HA1.out.alloc HS.out (.cells (([1] : List Int).map fun x => Value.int .i64 x).toArray 3) HP.out)
    go_wp2_with fail
    refine (among_at (by simp) r0.1 [1] (by decide)).mono ?_
    rintro e x2 ⟨rfl, hx⟩
    rw [hx] at HA2
    clear k0 hx
    have k0 := HA2.out.v.c0
    have HA3 := Lib.hid (HA2.out.alloc HS.out (.cells (([3] : List Int).map fun x => Value.int .i64 x).toArray 3) HP.out)
    go_wp2_with fail
    refine (among_at (by simp) r0.1 [3] (by decide)).mono ?_
    rintro e x3 ⟨rfl, hx⟩
    rw [hx] at HA3
    clear k0 hx
    have k0 := HA3.out.v.c0
    have HA4 := Lib.hid (HA3.out.alloc HS.out (.cells (([2] : List Int).map fun x => Value.int .i64 x).toArray 3) HP.out)
    go_wp2_with fail
    refine (among_at (by simp) r0.1 [2] (by decide)).mono ?_
    rintro e x4 ⟨rfl, hx⟩
    rw [hx] at HA4
    clear k0 hx
    have HV : Hid (walkG st s m = (⟨r0.1, r1.1, r2.1, 0, 0, 0, 0, ⟨#[]⟩, 0, 0, false⟩, r2.2)) := Lib.hid (by
      simp only [walkG, headG, ← HR0.out, ← HR1.out, ← HR2.out]
      rw [if_neg HK.out.1, if_neg HK.out.2.1, if_neg HK.out.2.2])
    have HZB := Lib.hid (storeM_box HA4.out.r ⟨r0.1, r1.1, r2.1, 0, 0, 0, 0, ⟨#[]⟩, 0, 0, false⟩)
    have HF := Lib.hid (walk_end HS.out hb HA4.out (storeM_kp _ _ ⟨r0.1, r1.1, r2.1, 0, 0, 0, 0, ⟨#[]⟩, 0, 0, false⟩))
    obtain ⟨v0, v1, v2, v3, v4, v5, v6, v7, v8, v9, v10⟩ := HA4.out.v.all
    obtain ⟨z0, z1, z2, z3, z4, z5, z6, z7, z8, z9, z10⟩ := HA4.out.r.all
    have f0 := HA4.out.r.free 0
    have f1 := HA4.out.r.free 1
    have f2 := HA4.out.r.free 2
    have f3 := HA4.out.r.free 3
    have f4 := HA4.out.r.free 4
    have f5 := HA4.out.r.free 5
    have f6 := HA4.out.r.free 6
    have f7 := HA4.out.r.free 7
    have f8 := HA4.out.r.free 8
    have f9 := HA4.out.r.free 9
    have f10 := HA4.out.r.free 10
    clear hA hB hC
    go_wp2
    refine bodyPost_ret (v := (⟨r0.1, r1.1, r2.1, 0, 0, 0, 0, ⟨#[]⟩, 0, 0, false⟩ : MsgV).v) ?_ ?_ ?_
    · exact walk_results HZB.out _ rfl
    · rfl
    · rw [HV.out]
      exact ⟨rfl, HF.out⟩
end
end
end Go.Proofs.Ytfikdocpcepmmaa
