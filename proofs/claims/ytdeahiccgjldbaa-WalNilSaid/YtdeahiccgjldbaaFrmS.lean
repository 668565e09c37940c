/- frame.Scan. -/
import Derived.Test.YtdeahiccgjldbaaFrmR
namespace Go.Proofs.Ytdeahiccgjldbaa
open Go.RowKit Go.Shelf
attribute [local go_sem] Oper.semAt_some

/-- Records and a number of bytes are answered; nothing that lay has turned. -/
def GivesS (w : World) (ls : List (List UInt8)) (k : Nat) (e : Ending) (w' : World) : Prop :=
  ∃ A c L, e = .returned (.tuple #[.slice A L.length c, .int .i64 (k : Int)]) ∧ datas L = ls ∧ Ls w' w'.heap.size A L ∧ L.length ≤ c ∧ Below w.heap.size w w'

/-- The same, and all of it lies in memory that was made since. -/
def GivesT (w : World) (ls : List (List UInt8)) (k : Nat) (e : Ending) (w' : World) : Prop :=
  ∃ A c L, e = .returned (.tuple #[.slice A L.length c, .int .i64 (k : Int)]) ∧ datas L = ls ∧ RowS w w' (.slice A L.length c) L
theorem GivesT.s {w : World} {ls : List (List UInt8)} {k : Nat} {e : Ending} {w' : World} (h : GivesT w ls k e w') : GivesS w ls k e w' := by
  obtain ⟨A, c, L, rfl, h1, h2⟩ := h
  obtain ⟨A', c', e', hc, hls⟩ := h2.form
  injection e' with e1 _ e3
  subst e1 e3
  exact ⟨A, c, L, rfl, h1, hls, hc, h2.low⟩

theorem boxed_put {W : World} {B : Nat} {t : TypeId} {v : Value} (h : Boxed W B t v) {D : Nat} {x : Option (List Deferred)} (hK : W.heap[D]? = some (.deferred x)) (o : Obj) : Boxed (W.putObj D o) B t v := by
  refine h.kept (grownBy_putObj' W D o) ?_
  intro e
  cases e
  unfold Boxed at h
  rw [h] at hK
  cases hK
theorem ownAll_own (lo : Nat) : Own (fun (L : List SlV) V => OwnAll V lo L) := by
  intro L X Y row h hg hr x hx
  refine (h x hx).kept hg ?_
  rcases (h x hx).2 with ⟨e, _⟩ | ⟨g, cap, cur, e1, _, e3, _⟩
  · rw [e]; exact .inl rfl
  · rw [e1]
    refine .inr (fun e => ?_)
    obtain ⟨o, ho, hc⟩ := hr g (by rw [← e]; rfl)
    rw [e3] at ho
    cases ho
    simp [Obj.isCells] at hc
theorem OwnAll.put {V : World} {lo : Nat} {L : List SlV} (h : OwnAll V lo L) {D : Nat} {x : Option (List Deferred)} (hK : V.heap[D]? = some (.deferred x)) (o : Obj) : OwnAll (V.putObj D o) lo L := by
  intro y hy
  refine (h y hy).kept (grownBy_putObj' V D o) ?_
  rcases (h y hy).2 with ⟨e, _⟩ | ⟨g, cap, cur, e1, _, e3, _⟩
  · rw [e]; exact .inl rfl
  · rw [e1]
    refine .inr (fun e => ?_)
    simp [Value.ownBlock] at e
    subst e
    rw [e3] at hK
    cases hK
theorem own_cellB {V : World} {lo : Nat} {L : List SlV} (h : OwnAll V lo L) {b : Nat} {t : TypeId} {v : Value} (hv : Boxed V b t v) (ht : t ≠ 5) (u : Value) : OwnAll (V.setCell ⟨b, 0, none⟩ u) lo L :=
  fun x hx => (h x hx).kept (grownBy_setCell' V b u) (.inr (hv.not_row ht (h x hx)).symm)

/-- What the body of Scan keeps to. -/
def ScanI (w W0 : World) (pre : List (Rec w)) (V : World) : Prop :=
  ((∃ Lo : List SlV, datas Lo = recs pre ∧ (∃ v, Boxed V w.heap.size 41 v ∧ V.ownsRow W0.heap.size 40 1 v Lo.length (scells Lo) ∧ True) ∧ OwnAll V W0.heap.size Lo) ∧ Boxed V (w.heap.size + 1) 3 (.int .i64 (lastE pre : Int))) ∧ Kq W0.heap.size w.heap.size (w.heap.size + 2) W0 V ∧ Below w.heap.size w V

theorem scanI_own (w W0 : World) (hw : w.heap.size ≤ W0.heap.size) : OwnFrom W0.heap.size (ScanI w W0) := by
  rintro s X Y row ⟨⟨⟨Lo, h1, h2, h3⟩, hb⟩, h4, h5⟩ hg hr
  refine ⟨⟨⟨Lo, h1, holdsRow_own (β := List SlV) W0.heap.size w.heap.size _ _ 1 (fun s => s.length) (fun s => scells s) (fun _ _ => True) Lo X Y row h2 hg (fun r e => (hr r e).2), ownAll_own W0.heap.size Lo X Y row h3 hg (fun r e => (hr r e).2)⟩,
    boxed_own _ _ (fun (s : List (Rec w)) => (.int .i64 (lastE s : Int))) s X Y row hb hg (fun r e => (hr r e).2)⟩, h4.grown hg (by have := h4.1; omega) (fun g e => .inl (hr g e).1), h5.grown hg h5.size (fun g e => by have := (hr g e).1; omega)⟩

set_option maxRecDepth 100000 in
set_option maxHeartbeats 3000000 in
theorem scanned_in (A : Option Addr) (c : Nat) (b : List UInt8) (hb : b.length ≤ 1048576) (hcap : b.length ≤ c) (w : World) (h : By w w.heap.size A b) :
    CallsIn Fence.wide 3 Try.prog 25 #[.slice A b.length c] w (GivesT w (scanL b) (tot (scanL b))) := by
  refine callsIn_of_wp_marks Try.func25 rfl trivial ?_ rfl
  simp only [Try.ntmps25, List.size_toArray, List.length_cons, List.length_nil, Nat.reduceAdd, Nat.reduceSub, Array.replicate_succ, Array.replicate_zero, List.push_toArray, List.append_toArray, List.nil_append, List.cons_append]
  gi_wp2_with fail
  refine ⟨trivial, (wide_of (frames_any _ _ _ _)).mono ?_⟩
  rintro e w' ⟨rfl, rfl⟩
  gi_wp2_with fail
  obtain ⟨w3, hw3⟩ : ∃ w3, w3 = ((w.alloc (.cells #[.slice none 0 0] 41)).alloc (.cells #[.int .i64 0] 3)).alloc (.cells #[.slice A b.length c] 40) := ⟨_, rfl⟩
  rw [← hw3]
  have z3 : w3.heap.size = w.heap.size + 1 + 1 + 1 := by rw [hw3]; simp
  have hB3 : Below w.heap.size w w3 := by rw [hw3]; exact (((Below.refl _ w).alloc (Nat.le_refl _) _).alloc (by simp) _).alloc (by simp; omega) _
  have b0 : Boxed w3 w.heap.size 41 (.slice none 0 0) := by rw [hw3]; exact ((Boxed.new w _ _).alloc _).alloc _
  have b1 : Boxed w3 (w.heap.size + 1) 3 (.int .i64 0) := by rw [hw3]; have := (Boxed.new (w.alloc (.cells #[.slice none 0 0] 41)) 3 (.int .i64 0)).alloc (.cells #[.slice A b.length c] 40); simpa using this
  have b2 : Boxed w3 (w.heap.size + 1 + 1) 40 (.slice A b.length c) := by rw [hw3]; have := Boxed.new ((w.alloc (.cells #[.slice none 0 0] 41)).alloc (.cells #[.int .i64 0] 3)) 40 (.slice A b.length c); simpa using this
  clear hw3
  refine range_ends (F := Fence.wide) (α := Rec w) rfl (by omega) (gf := 48) (lb := #[.pointer (some ⟨w.heap.size + 1 + 1, 0, none⟩)]) (by simp [Act.eval]) trivial (enters_of Try.func48 (by kernel_rfl) rfl)
    (frames_ends 2 (by omega) (w.heap.size + 1 + 1) w.heap.size (w.heap.size + 2) w A c b hb hcap w3 (by omega) (Nat.le_refl _) hB3 b2 h) kq_t (fun V => kq_b (Nat.le_refl _) V) ?bS ?bSp (Below.refl _ _) (fun _ => rfl)
    (ScanI w w3) (fun _ _ _ => False) (scanI_own w w3 hB3.size) (fun c => ownFrom_pure _ (fun _ => False))
    ⟨⟨⟨[], rfl, ⟨_, b0, ⟨rfl, .inl ⟨rfl, rfl⟩⟩, trivial⟩, OwnAll.nil _ _⟩, b1⟩, Kq.refl _, hB3⟩
    (fun x V => { tmps := #[.slice A b.length c, undef, .slice none 0 0, .int .i64 0, .pointer (some ⟨w.heap.size, 0, none⟩), .pointer (some ⟨w.heap.size + 1, 0, none⟩), .int .i64 (x.1.1 : Int), x.1.2.v, .slice A b.length c, .func (.func 48) #[] #[.pointer (some ⟨w.heap.size + 1 + 1, 0, none⟩)], .int .i64 (x.1.1 : Int), x.1.2.v, undef, undef, undef, undef, undef, undef, undef, undef], defers := [] })
    (fun x V => V) (fun x V => World.grownBy.refl V _) (fun x V hV => Kq.refl _)
    (fun x V U => True) (fun x V => trivial) ?bG ?assign ?body ?done ?stop
  case bS => exact fun xs V l o o' h _ _ _ => h
  case bSp => exact fun xs V l o o' h _ _ _ => h
  case bG => exact fun x V V' l o o' h _ _ _ => trivial
  case assign =>
    intro l x V K hK
    clear z3
    simp only [encR]
    gi_wp2
    exact hK
  case stop =>
    rintro D c pre V _ _ h _
    exact h.elim
  case body =>
    rintro l pre x V U - ⟨⟨⟨Lo, hlo, ⟨v, hv, hrow, -⟩, hoa⟩, ht⟩, hK, hB⟩ - hV hU hlen
    obtain ⟨A9, c9, rfl, _⟩ := own_form hrow
    have hMU : w3.heap.size ≤ U.heap.size := hK.1
    have hby : By U U.heap.size x.1.2.ad x.1.2.data := (x.2.1.below hB).more hB.size
    have hll : Lo.length = pre.length := by have := congrArg List.length hlo; rw [datas_length, recs_length] at this; exact this
    refine wpIn_block (wpIn_seq ?_)
    refine region6_in l _ _ _ U w.heap.size w3.heap.size (.pointer (some ⟨w.heap.size + 1, 0, none⟩)) (.int .i64 (x.1.1 : Int)) x.1.2 A9 c9 Lo ⟨by simp, rfl, rfl, rfl⟩ rfl hv hby x.2.2.2 hrow hMU (by omega) ?_
    intro a' U1 A' c' U3 Ar cr gz o8 hB1 hown3 hg3
    have s1 := hB1.size
    have bo1 : Boxed U1 w.heap.size 41 (.slice A9 Lo.length c9) := (hB1.block _ hv.lt).trans hv
    have t1 : Boxed U1 (w.heap.size + 1) 3 (.int .i64 (lastE pre : Int)) := (hB1.block _ ht.lt).trans ht
    have own1 := hrow.kept (grown_of_below hB1) (by cases (Value.slice A9 Lo.length c9).ownBlock <;> simp)
    obtain ⟨bo3, bo4, own4, ko, hb4⟩ := bo1.appended (tmp := .cells #[.slice A' x.1.2.data.length c'] 40) (n₀ := w.heap.size) (by decide) (own_lower own1 (by omega)) (by omega) (by omega) (own_lower hown3 (by omega)) hg3
    have kq1 : Kq w3.heap.size w.heap.size (w.heap.size + 2) U U1 := (Kq.refl U).grown (grown_of_below hB1) hMU (fun g e => by cases e)
    have kq2 := kq1.grown (World.grownBy_alloc U1 (.cells #[.slice A' x.1.2.data.length c'] 40) none) (by omega) (fun g e => by cases e)
    have kq3 := kq2.grown hg3 (by simp; omega) (fun g e => .inl (own1.lt g e).1)
    have kq4 := kq3.grown (grownBy_setCell' U3 w.heap.size (.slice Ar (Lo.length + 1) cr)) (by have := hg3.size; simp at this; omega) (fun g e => .inr (by cases e; omega))
    have t2 := (t1.alloc (.cells #[.slice A' x.1.2.data.length c'] 40)).kept hg3 (t1.not_row (by decide) own1)
    have t3 := t2.other (B' := w.heap.size) (by omega) (.slice Ar (Lo.length + 1) cr)
    have r4 := hown3.kept (grownBy_setCell' U3 w.heap.size (.slice Ar (Lo.length + 1) cr)) (.inr (bo3.not_row (by decide) hown3).symm)
    have oa1 : OwnAll U1 w3.heap.size (Lo ++ [⟨A', c', x.1.2.data⟩]) := (hoa.below hB1).snoc (own_lower o8 hMU)
    have oa2 := (oa1.below ((Below.refl _ U1).alloc (Nat.le_refl _) (.cells #[.slice A' x.1.2.data.length c'] 40))).grown (own1.alloc _) (by decide) hg3
    have oa3 := own_cellB oa2 bo3 (by decide) (.slice Ar (Lo.length + 1) cr)
    have hB3' := (hB.trans (hB1.mono hB.size)).trans hb4
    have kf : KeepsOthers U (U3.setCell ⟨w.heap.size, 0, none⟩ (.slice Ar (Lo.length + 1) cr)) := (KeepsOthers.of_grownBy (grown_of_below hB1) (fun j o e => by cases e)).trans ko
    clear own4 ko hb4 kq1 kq2 kq3 t1 t2 oa1 oa2 hown3 hg3 o8 hB1 bo1 bo3 own1
    generalize U3.setCell ⟨w.heap.size, 0, none⟩ (.slice Ar (Lo.length + 1) cr) = U4 at *
    refine region7_in l _ _ a' U4 w.heap.size (w.heap.size + 1) (x.1.1 : Int) _ gz t3 fun a2 => ?_
    have b5 := bo4.other (B' := w.heap.size + 1) (by omega) (.int .i64 (x.1.1 : Int))
    have t4 := t3.set (.int .i64 (x.1.1 : Int))
    have r5 := r4.kept (grownBy_setCell' U4 (w.heap.size + 1) (.int .i64 (x.1.1 : Int))) (.inr (t3.not_row (by decide) r4).symm)
    have oa4 := own_cellB oa3 t3 (by decide) (.int .i64 (x.1.1 : Int))
    have kq5 := kq4.grown (grownBy_setCell' U4 (w.heap.size + 1) (.int .i64 (x.1.1 : Int))) (by have := kq4.1; omega) (fun g e => .inr (by cases e; omega))
    refine ⟨(kf.trans (KeepsOthers.setCell U4 ⟨w.heap.size + 1, 0, none⟩ _)).from _, kq5, ⟨⟨Lo ++ [⟨A', c', x.1.2.data⟩], ?_, ⟨_, b5, ?_, trivial⟩, oa4⟩, ?_⟩, kq_t hK kq5, hB3'.setCell (p := ⟨w.heap.size + 1, 0, none⟩) (by simp) _⟩
    · rw [datas_snoc, hlo, recs_snoc]
    · rw [scells_snoc, List.length_append]
      exact r5
    · rw [lastE_snoc]
      exact t4
  case done =>
    rintro D xs V hD ⟨hS1, hS2⟩ ⟨⟨⟨Lo, hlo, ⟨v, hv, hrow, -⟩, hoa⟩, ht⟩, hK, hB⟩ hKD
    obtain ⟨A9, c9, rfl, hc9⟩ := own_form hrow
    rw [hS1] at hlo
    rw [hS2] at ht
    have HLO := Lib.hid hlo
    have hDw : w.heap.size ≤ D := Nat.le_trans hB3.size hD
    have d0 := hv.cell
    have d1 := ht.cell
    have HZ3 := Lib.hid hB3.size
    clear hlo hS1 hS2 z3
    gi_wp2_with fail
    refine wpIn_wide.2 ?_
    go_quiet (fail)
    have hKD1 : (V.drewN nq).heap[D]? = some (.deferred (some [])) := hKD
    have hrow1 : (V.drewN nq).ownsRow w3.heap.size 40 1 (.slice A9 Lo.length c9) Lo.length (scells Lo) := hrow
    have hoa1 : OwnAll (V.drewN nq) w3.heap.size Lo := hoa
    have hB1 : Below w.heap.size w (V.drewN nq) := ⟨hB.os, hB.tape, hB.output, hB.size, hB.block⟩
    have r3 := ownsRow_putObj hrow1 (.deferred none) hKD1 rfl
    have hoa3 := hoa1.put hKD1 (.deferred none)
    have hB3 : Below w.heap.size w ((V.drewN nq).putObj D (.deferred none)) := hB1.trans (belowK_b (w := w) (Nat.le_refl _) _ D _ _ hDw hKD1 rfl rfl)
    gi_wp2
    refine ⟨by simp, .inl ⟨_, _, rfl, run_takeDeferred hKD1, ?_⟩⟩
    exact ⟨_, results_tmp2 rfl _ _ _, A9, c9, Lo, rfl, HLO.out, own_lower r3 HZ3.out, hoa3.lower HZ3.out, hB3⟩

theorem scan_own (A : Option Addr) (c : Nat) (b : List UInt8) (hb : b.length ≤ 1048576) (hcap : b.length ≤ c) (w : World) (h : By w w.heap.size A b) :
    Calls Try.prog 25 #[.slice A b.length c] w (GivesT w (scanL b) (tot (scanL b))) :=
  callsIn_wide.1 (scanned_in A c b hb hcap w h)
theorem scan_any (A : Option Addr) (c : Nat) (b : List UInt8) (hb : b.length ≤ 1048576) (hcap : b.length ≤ c) (w : World) (h : By w w.heap.size A b) :
    Calls Try.prog 25 #[.slice A b.length c] w (GivesS w (scanL b) (tot (scanL b))) :=
  (scan_own A c b hb hcap w h).mono fun _ _ h => h.s
end Go.Proofs.Ytdeahiccgjldbaa
