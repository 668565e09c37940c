/- option.options: the options of bytes, one by one. -/
import Derived.Test.YtmlckjccgdmknaaRangeT
namespace Go.Proofs.Ytmlckjccgdmknaa
open Go.RowKit Go.Shelf
attribute [local go_sem] Oper.semAt_some

/-- What a round keeps: what lay below n, and every block of bytes. -/
def Kb (n : Nat) (V V' : World) : Prop := Below n V V' ∧ ∀ (k : Nat) (c : Array Value) (f : Nat × Nat), V.heap[k]? = some (Obj.cells c 5 f) → V'.heap[k]? = some (Obj.cells c 5 f)
theorem Kb.refl (n : Nat) (V : World) : Kb n V V := ⟨Below.refl _ _, fun _ _ _ h => h⟩
theorem kb_t {n : Nat} {A B C : World} (h : Kb n A B) (k : Kb n B C) : Kb n A C := ⟨h.1.trans k.1, fun i c f hi => k.2 i c f (h.2 i c f hi)⟩
theorem kb_b {n B : Nat} (hn : n ≤ B) (V : World) : Booked B (Kb n V) := by
  intro V' l o o' h hl hlo ho
  refine ⟨h.1.grown (grownBy_putObj' V' l o') (by have := (Array.getElem?_eq_some_iff.1 hlo).1; omega) (fun k e => by cases e; omega), fun k c f hk => ?_⟩
  have h2 := h.2 k c f hk
  have hne : k ≠ l := by
    rintro rfl
    rw [hlo] at h2
    cases h2
    simp [Obj.isCells] at ho
  exact (World.putObj_heap_other hne).trans h2
theorem Kb.alloc {n : Nat} {V V' : World} (h : Kb n V V') (hn : n ≤ V'.heap.size) (o : Obj) : Kb n V (V'.alloc o) :=
  ⟨h.1.alloc hn o, fun k c f hk => (Below.heap_alloc V' o k (Array.getElem?_eq_some_iff.1 (h.2 k c f hk)).1).trans (h.2 k c f hk)⟩
/-- A row of another type grows. -/
theorem Kb.grown {n : Nat} {V V' V2 : World} (h : Kb n V V') {b : Nat} {e : TypeId} {s m : Nat} {v : Value} {xs : List Value} (hv : V'.ownsRow b e s v m xs) (he : e ≠ 5) (hb : n ≤ b) (hn : n ≤ V'.heap.size) (hg : V'.grownBy V2 v.ownBlock) : Kb n V V2 := by
  refine ⟨h.1.grown hg hn (fun k e => Nat.le_trans hb (hv.lt k e).1), fun k c f hk => ?_⟩
  have h2 := h.2 k c f hk
  refine (hg.block k (Array.getElem?_eq_some_iff.1 h2).1 (fun e' => ?_)).trans h2
  rcases hv.2 with ⟨rfl, _⟩ | ⟨g, _, _, rfl, _, hh, _⟩
  · cases e'
  · simp [Value.ownBlock] at e'
    subst e'
    rw [hh] at h2
    injection h2 with h2
    injection h2 with _ ht
    exact he ht
/-- A box of another type is written. -/
theorem Kb.set {n : Nat} {V V' : World} (h : Kb n V V') {b : Nat} {t : TypeId} {v : Value} (hv : Boxed V' b t v) (ht : t ≠ 5) (hb : n ≤ b) (u : Value) : Kb n V (V'.setCell ⟨b, 0, none⟩ u) := by
  refine ⟨h.1.setCell hb u, fun k c f hk => ?_⟩
  have h2 := h.2 k c f hk
  refine (heap_setCell_other V' ⟨b, 0, none⟩ k u (fun e => ?_)).trans h2
  subst e
  unfold Boxed at hv
  rw [hv] at h2
  injection h2 with h2
  injection h2 with _ ht'
  exact ht ht'
theorem OwnAll.kb {V V' : World} {n lo : Nat} {L : List OptV} (h : OwnAll V lo L) (hk : Kb n V V') : OwnAll V' lo L := by
  intro x hx
  have hh := h x hx
  refine ⟨hh.1, ?_⟩
  rcases hh.2 with h0 | ⟨g, cap, cur, e1, e2, e3, e4⟩
  · exact .inl h0
  · exact .inr ⟨g, cap, cur, e1, e2, hk.2 g _ _ e3, e4⟩
theorem OwnAll.below {V V' : World} {lo : Nat} {L : List OptV} (h : OwnAll V lo L) (hb : Below V.heap.size V V') : OwnAll V' lo L :=
  fun x hx => (h x hx).kept (row := none) ⟨hb.os, hb.tape, hb.output, hb.size, fun i hi _ => hb.block i hi⟩ (by cases hx' : (Value.slice x.ad x.data.length x.cap).ownBlock <;> simp)
theorem OwnAll.booked (lo B : Nat) (L : List OptV) : Booked B (fun V => OwnAll V lo L) := by
  intro V l o o' h _ hlo ho x hx
  refine (h x hx).kept (grownBy_putObj' V l o') ?_
  rcases (h x hx).2 with ⟨e, _⟩ | ⟨g, cap, cur, e1, _, e3, _⟩
  · rw [e]; exact .inl rfl
  · rw [e1]
    refine .inr (fun e => ?_)
    simp [Value.ownBlock] at e
    subst e
    rw [e3] at hlo
    cases hlo
    simp [Obj.isCells] at ho

/-- An element: an option as it lies, and an error's number. -/
abbrev El := OptV × Int
def encE (x : El) : Array Value := #[x.1.v, .int .i64 x.2]
def fine (L : List OptV) : List El := L.map fun o => (o, 0)
def wrong : El := (⟨0, none, 0, []⟩, 2)
theorem fine_snoc (L : List OptV) (o : OptV) : fine (L ++ [o]) = fine L ++ [(o, 0)] := by simp [fine]
theorem fine_length (L : List OptV) : (fine L).length = L.length := by simp [fine]

/-- All that came. -/
def AllCame (b : List UInt8) (lo : Nat) (xs : List El) (V : World) : Prop :=
  ∃ L, OwnAll V lo L ∧ ((decL b = some (absL L) ∧ xs = fine L) ∨ (decL b = none ∧ xs = fine L ++ [wrong]))
/-- What came where the body stopped. -/
def SomeCame (b : List UInt8) (pre : List El) (_ : World) : Prop := (∃ L, pre = fine L) ∨ (decL b = none ∧ ∃ L, pre = fine L ++ [wrong])

/-- Where the iterator stands. -/
def Rest (b r : List UInt8) (L : List OptV) : Prop := decL b = (decL r).map (absL L ++ ·) ∧ skipL r = r ∧ L.length + r.length ≤ b.length

theorem skipL_idem (l : List UInt8) : skipL (skipL l) = skipL l := by
  induction l with
  | nil => rfl
  | cons x r ih =>
    by_cases h : x = 0
    · subst h; rw [skipL_zero, ih]
    · rw [skipL_other r h, skipL_other r h]
theorem decL_skipL (l : List UInt8) : decL (skipL l) = decL l := by
  induction l with
  | nil => rfl
  | cons x r ih =>
    by_cases h : x = 0
    · subst h; rw [skipL_zero, decL_skip, ih]
    · rw [skipL_other r h]
theorem Rest.start (b : List UInt8) : Rest b (skipL b) [] := by
  refine ⟨?_, skipL_idem b, by have := skipL_length b; simpa using this⟩
  rw [decL_skipL]
  cases decL b <;> simp [absL]
theorem Rest.none_ {b : List UInt8} {L : List OptV} (h : Rest b [] L) : decL b = none := by
  rw [h.1, decL_nil skipL_nil]; rfl
theorem Rest.end_ {b t : List UInt8} {L : List OptV} (h : Rest b (255 :: t) L) : decL b = if (skipL t).isEmpty then some (absL L) else none := by
  rw [h.1, decL_end h.2.1]
  split <;> simp
theorem Rest.cut {b t : List UInt8} {L : List OptV} {x : UInt8} (h : Rest b (x :: t) L) (hx : x ≠ 255) (hp : splitL (x :: t) = none) : decL b = none := by
  rw [h.1, decL_cut h.2.1 hx hp]; rfl
theorem Rest.one {b t : List UInt8} {L : List OptV} {x : UInt8} {d b' : List UInt8} (h : Rest b (x :: t) L) (hx : x ≠ 255) (hp : splitL (x :: t) = some (d, b')) (A : Option Addr) (c : Nat) : Rest b (skipL b') (L ++ [⟨(x.toNat : Int), A, c, d⟩]) := by
  refine ⟨?_, skipL_idem _, ?_⟩
  · rw [h.1, decL_one h.2.1 hx hp, decL_skipL]
    cases decL b' <;> simp [absL, OptV.abs]
  · have h1 := splitL_lt hp
    have h2 := skipL_length b'
    have h3 := h.2.2
    simp at h1 h3 ⊢
    omega

theorem splitL_some {x : UInt8} {t d b' : List UInt8} (h : splitL (x :: t) = some (d, b')) : ∃ y t', t = y :: t' ∧ y.toNat ≤ t'.length ∧ d = t'.take y.toNat ∧ b' = t'.drop y.toNat := by
  match t, h with
  | y :: t', h =>
    simp only [splitL] at h
    split at h
    · rename_i hy
      simp only [Option.some.injEq, Prod.mk.injEq] at h
      exact ⟨y, t', rfl, hy, h.1.symm, h.2.symm⟩
    · cases h

theorem grown_of_below {V V' : World} (hb : Below V.heap.size V V') : V.grownBy V' none := ⟨hb.os, hb.tape, hb.output, hb.size, fun i hi _ => hb.block i hi⟩
theorem wide_of {m : Nat} {P : Program} {f : FuncId} {args : Array Value} {w : World} {R : Ending → World → Prop} (h : Calls P f args w R) : CallsIn Fence.wide m P f args w R := callsIn_wide.2 h

set_option maxRecDepth 100000 in
set_option maxHeartbeats 2000000 in
theorem options1_in (n : Nat) (hn : 1 ≤ n) (lp Bs n₀ : Nat) (A : Option Addr) (cap : Nat) (b : List UInt8) (hb : b.length ≤ 1024) (hcap : b.length ≤ cap) (J Jx : List El → World → Prop)
    (W : World) (hn₀ : n₀ ≤ W.heap.size) (hJa : AbidesFrom W.heap.size J)
    (hY : ∀ pre x V, J pre V → pre.length < 1025 → YieldAt Fence.wide (n - 1) Try.prog lp (encE x) V fun e V' => (e = .returned (.bool true) ∧ J (pre ++ [x]) V' ∧ Kb n₀ V V') ∨ (e = .returned (.bool false) ∧ Jx (pre ++ [x]) V'))
    (hBs : W.cell? ⟨Bs, 0, none⟩ = some (.slice A b.length cap)) (hR : By W n₀ A b) (h0 : J [] W) :
    CallsIn Fence.wide n Try.prog 53 #[.func (.yield lp) #[] #[], .pointer (some ⟨Bs, 0, none⟩)] W fun e V => (∃ v, e = .returned v) ∧ ((∃ xs, AllCame b n₀ xs V ∧ J xs V) ∨ (∃ pre, SomeCame b pre V ∧ Jx pre V)) := by
  refine callsIn_of_wp Try.func53 rfl trivial ?_ rfl
  simp only [Try.ntmps53, List.size_toArray, List.length_cons, List.length_nil, Nat.reduceAdd, Nat.reduceSub, Array.replicate_succ, Array.replicate_zero, List.push_toArray, List.append_toArray, List.nil_append, List.cons_append]
  gi_wp2_with fail
  refine ⟨trivial, (wide_of (skipped_any n₀ A cap b W hR hcap (by omega))).mono ?_⟩
  rintro e w' ⟨A1, c1, rfl, hby1, hc1, rfl⟩
  gi_wp2
  gi_loopw [3] (fun v V => ∃ A c r L, v = .slice A (List.length r) c ∧ By V n₀ A r ∧ r.length ≤ c ∧ Rest b r L ∧ J (fine L) V ∧ OwnAll V n₀ L ∧ Below n₀ W V ∧ W.heap.size ≤ V.heap.size) (fun v _ => lenV v)
  case atStart => exact ⟨A1, c1, skipL b, [], rfl, hby1, hc1, Rest.start b, h0, OwnAll.none_ _ _, Below.refl _ _, Nat.le_refl _⟩
  case round =>
    obtain ⟨A, c, r, L, rfl, hby, hc, hrest, hJ, hoa, hB, hsz⟩ := hrel
    have HRest := Lib.hid hrest
    have hlen := hrest.2.2
    clear hrest
    rcases r with _ | ⟨x, t⟩
    · -- nothing is left: no end
      have HD := Lib.hid HRest.out.none_
      have HE : Hid (Calls Try.prog 57 #[.slice A 0 c] wr fun e w' => e = .returned (.bool false) ∧ wr = w') := ends_any n₀ A c [] wr hby hc (by simp)
      obtain ⟨fn, tmps, assign, body, hy0, hRr⟩ := hY _ wrong wr hJ (by rw [fine_length]; simp at hlen; omega)
      have hy : (Instr.yield lp #[.agg #[.int .i64 0, .slice none 0 0], .int .i64 2]).run Try.prog wr = .ok (.round lp fn tmps assign body) wr := hy0
      clear hy0
      gi_wp2_with fail
      refine ⟨trivial, (wide_of HE.out).mono ?_⟩
      rintro e w' ⟨rfl, rfl⟩
      gi_wp2
      refine hRr.mono ?_
      clear hRr hy
      rintro e W3 (⟨rfl, hJ3, hk3⟩ | ⟨rfl, hJx3⟩)
      · gi_wp2
        go_end0
        exact ⟨⟨_, rfl⟩, .inl ⟨fine L ++ [wrong], ⟨L, hoa.kb hk3, .inr ⟨HD.out, rfl⟩⟩, hJ3⟩⟩
      · gi_wp2
        go_end0
        exact ⟨⟨_, rfl⟩, .inr ⟨fine L ++ [wrong], .inr ⟨HD.out, L, rfl⟩, hJx3⟩⟩
    · obtain ⟨g, o, rfl, hg, hcell⟩ := hby.at_ 0 x rfl
      rw [Nat.add_zero] at hcell
      by_cases hx : x = 255
      · subst hx
        have hcell' : wr.cell? ⟨g, o, none⟩ = some (.int .u8 255) := hcell
        clear hcell
        have HD := Lib.hid HRest.out.end_
        have HE := Lib.hid (ends_any n₀ (some ⟨g, o, none⟩) c (255 :: t) wr hby hc (by omega))
        rw [show endsL (255 :: t) = (skipL t).isEmpty by simp [endsL]] at HE
        cases hem : (skipL t).isEmpty
        · rw [hem] at HE
          have HD2 : Hid (decL b = none) := by show _ = _; rw [HD.out, hem]; rfl
          clear hem
          obtain ⟨fn, tmps, assign, body, hy0, hRr⟩ := hY _ wrong wr hJ (by rw [fine_length]; simp at hlen; omega)
          have hy : (Instr.yield lp #[.agg #[.int .i64 0, .slice none 0 0], .int .i64 2]).run Try.prog wr = .ok (.round lp fn tmps assign body) wr := hy0
          clear hy0
          rw [List.length_cons] at *
          gi_wp2_with fail
          refine ⟨trivial, (wide_of HE.out).mono ?_⟩
          rintro e w' ⟨rfl, rfl⟩
          gi_wp2
          refine hRr.mono ?_
          clear hRr hy
          rintro e W3 (⟨rfl, hJ3, hk3⟩ | ⟨rfl, hJx3⟩)
          · gi_wp2
            go_end0
            exact ⟨⟨_, rfl⟩, .inl ⟨fine L ++ [wrong], ⟨L, hoa.kb hk3, .inr ⟨HD2.out, rfl⟩⟩, hJ3⟩⟩
          · gi_wp2
            go_end0
            exact ⟨⟨_, rfl⟩, .inr ⟨fine L ++ [wrong], .inr ⟨HD2.out, L, rfl⟩, hJx3⟩⟩
        · rw [hem] at HE
          have HD2 : Hid (decL b = some (absL L)) := by show _ = _; rw [HD.out, hem]; rfl
          clear hem
          rw [List.length_cons] at *
          gi_wp2_with fail
          refine ⟨trivial, (wide_of HE.out).mono ?_⟩
          rintro e w' ⟨rfl, rfl⟩
          gi_wp2
          go_end0
          exact ⟨⟨_, rfl⟩, .inl ⟨fine L, ⟨L, hoa, .inl ⟨HD2.out, rfl⟩⟩, hJ⟩⟩
      · have hxn : ((x.toNat : Int) != 255) = true := by
          have : x.toNat ≠ 255 := fun e => hx (UInt8.toNat_inj.1 (by simpa using e))
          simp; omega
        have hx255 := x.toNat_lt
        have HX := Lib.hid hx
        clear hx
        cases hp : splitL (x :: t) with
        | none =>
          have HD2 := Lib.hid (HRest.out.cut HX.out hp)
          have HSp := Lib.hid (split_no n₀ (some ⟨g, o, none⟩) c (x :: t) wr hby (by omega) hp)
          have HE := Lib.hid (ends_any n₀ (some ⟨g, o, none⟩) c (x :: t) wr hby hc (by omega))
          rw [show endsL (x :: t) = false by simp [endsL, HX.out]] at HE
          clear hp
          obtain ⟨fn, tmps, assign, body, hy0, hRr⟩ := hY _ wrong wr hJ (by rw [fine_length]; simp at hlen; omega)
          have hy : (Instr.yield lp #[.agg #[.int .i64 0, .slice none 0 0], .int .i64 2]).run Try.prog wr = .ok (.round lp fn tmps assign body) wr := hy0
          clear hy0
          rw [List.length_cons] at *
          gi_wp2_with fail
          refine ⟨trivial, (wide_of HSp.out).mono ?_⟩
          rintro e w' ⟨rfl, rfl⟩
          gi_wp2_with fail
          refine ⟨trivial, (wide_of HE.out).mono ?_⟩
          rintro e w' ⟨rfl, rfl⟩
          gi_wp2
          refine hRr.mono ?_
          clear hRr hy
          rintro e W3 (⟨rfl, hJ3, hk3⟩ | ⟨rfl, hJx3⟩)
          · gi_wp2
            go_end0
            exact ⟨⟨_, rfl⟩, .inl ⟨fine L ++ [wrong], ⟨L, hoa.kb hk3, .inr ⟨HD2.out, rfl⟩⟩, hJ3⟩⟩
          · gi_wp2
            go_end0
            exact ⟨⟨_, rfl⟩, .inr ⟨fine L ++ [wrong], .inr ⟨HD2.out, L, rfl⟩, hJx3⟩⟩
        | some db =>
          obtain ⟨d, b'⟩ := db
          obtain ⟨y, t', rfl, hyt, rfl, rfl⟩ := splitL_some hp
          have HP := Lib.hid (HRest.out.one HX.out hp)
          have hlt := splitL_lt hp
          have HSp := Lib.hid (split_yes n₀ (some ⟨g, o, none⟩) c x y t' wr hby (by omega) hc hyt)
          have hdl : (t'.take y.toNat).length ≤ 255 := by have := y.toNat_lt; simp; omega
          clear hp
          generalize t'.take y.toNat = d at *
          generalize t'.drop y.toNat = b' at *
          rw [List.length_cons] at *
          gi_wp2_with fail
          refine ⟨trivial, (wide_of HSp.out).mono ?_⟩
          rintro e w1 ⟨A2, c2, A3, c3, m, rfl, hbd, hbb, hc3, rfl⟩
          have hz0 : n₀ ≤ wr.heap.size := by omega
          have HO : Hid (Calls Try.prog 56 #[.agg #[.int .i64 (x.toNat : Int), .slice A2 d.length c2]] (wr.drewN m) fun e w' => ∃ A' c', e = .returned (.agg #[.int .i64 (x.toNat : Int), .slice A' d.length c']) ∧ Own8 w' (wr.drewN m).heap.size (.slice A' d.length c') d ∧ Below (wr.drewN m).heap.size (wr.drewN m) w') :=
            owned_any ⟨(x.toNat : Int), A2, c2, d⟩ (wr.drewN m) ((hbd.drewN m).more hz0) (Nat.le_trans hdl (by omega))
          gi_wp2_with fail
          refine ⟨trivial, (wide_of HO.out).mono ?_⟩
          rintro e w2 ⟨A', c', rfl, hown2, hB2⟩
          have hBr : Below wr.heap.size wr w2 := ⟨hB2.os, hB2.tape, hB2.output, hB2.size, hB2.block⟩
          have hJ2 : J (fine L) w2 := hJa _ _ _ none hJ (grown_of_below hBr) (fun r e => by cases e)
          have hoa2 : OwnAll w2 n₀ (L ++ [⟨(x.toNat : Int), A', c', d⟩]) := (hoa.below hBr).snoc (own_lower hown2 (by simpa using hz0))
          have hBw2 : Below n₀ W w2 := hB.trans (hBr.mono hz0)
          have hsz2 : W.heap.size ≤ w2.heap.size := Nat.le_trans hsz hBr.size
          have hbb2 : By w2 n₀ A3 b' := hbb.below (hBr.mono hz0)
          have HRest2 := Lib.hid (HP.out A' c')
          obtain ⟨fn, tmps, assign, body, hy0, hRr⟩ := hY _ (⟨(x.toNat : Int), A', c', d⟩, 0) w2 hJ2 (by rw [fine_length]; omega)
          have hy : (Instr.yield lp #[.agg #[.int .i64 (x.toNat : Int), .slice A' d.length c'], .int .i64 0]).run Try.prog w2 = .ok (.round lp fn tmps assign body) w2 := hy0
          clear hy0 hJ hoa hB hsz hby hcell hown2 hB2 hbd hbb
          gi_wp2
          refine hRr.mono ?_
          clear hRr hy
          rintro e W3 (⟨rfl, hJ3, hk3⟩ | ⟨rfl, hJx3⟩)
          · have HK := Lib.hid (skipped_any n₀ A3 c3 b' W3 (hbb2.below hk3.1) hc3 (by omega))
            gi_wp2_with fail
            refine ⟨trivial, (wide_of HK.out).mono ?_⟩
            rintro e w' ⟨A4, c4, rfl, hby4, hc4, rfl⟩
            gi_wp2
            go_roundw
            case rel => exact ⟨A4, c4, skipL b', L ++ [⟨(x.toNat : Int), A', c', d⟩], rfl, hby4, hc4, HRest2.out, by rw [fine_snoc]; exact hJ3, hoa2.kb hk3, hBw2.trans hk3.1, Nat.le_trans hsz2 hk3.1.size⟩
            case measure =>
              have := skipL_length b'
              simp only [lenV]
              omega
          · gi_wp2
            refine bodyPost_ret (results_none rfl _ _ _) rfl ?_
            exact ⟨⟨_, rfl⟩, .inr ⟨fine L ++ [(⟨(x.toNat : Int), A', c', d⟩, 0)], .inl ⟨L ++ [⟨(x.toNat : Int), A', c', d⟩], (fine_snoc _ _).symm⟩, hJx3⟩⟩
end Go.Proofs.Ytmlckjccgdmknaa
