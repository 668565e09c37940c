/- option.Put: the whole. -/
import Derived.Test.YtgmebonhhbdofaaPutB
import Derived.Deep.RegionLaw
namespace Go.Proofs.Ytgmebonhhbdofaa
open Go.RowKit Go.Shelf
attribute [local go_sem] Oper.semAt_some

theorem without_ends (n : Nat) (hn : 1 ≤ n) (LB RB Ba Bl Bc ob n₀ : Nat) (A : Option Addr) (c c' : Nat) (L : List OptV) (hL : L.length ≤ 100) (at_ code : Int) (w : World)
    (h1 : LB < w.heap.size) (h2 : RB < w.heap.size ∧ RB ≠ ob) (h3 : Ba < w.heap.size ∧ Ba ≠ ob) (h4 : Bl < w.heap.size ∧ Bl ≠ ob) (h5 : Bc < w.heap.size ∧ Bc ≠ ob) (hn₀ : n₀ ≤ ob) (hnM : n₀ ≤ w.heap.size)
    (b1 : Boxed w LB 22 (.slice A L.length c)) (b2 : Boxed w RB 52 (.func (.func 29) #[] #[.pointer (some ⟨Ba, 0, none⟩), .pointer (some ⟨Bl, 0, none⟩), .pointer (some ⟨Bc, 0, none⟩)]))
    (b3 : Boxed w Ba 3 (.int .i64 at_)) (b4 : Boxed w Bl 22 (.slice A L.length c')) (b5 : Boxed w Bc 3 (.int .i64 code)) (hR : Op w n₀ A L) :
    SeqEnds Fence.wide n Try.prog 39 #[.pointer (some ⟨LB, 0, none⟩), .pointer (some ⟨RB, 0, none⟩)] encP (Kq w.heap.size ob) (fun (xs : List (Pl L)) _ => xs.map Subtype.val = kept L at_ code L.length) (fun _ _ => True) 101 w := fun lp J Jx W hW hJ _ hY h0 => by
  have kb : ∀ {k : Nat} {t : TypeId} {v : Value}, Boxed w k t v → k < w.heap.size → Boxed W k t v := fun h hk => (hW.block _ hk).trans h
  exact without1_in n hn lp LB RB Ba Bl Bc w.heap.size ob n₀ A c c' L hL at_ code J Jx W hW.size h2 h3 h4 h5 hn₀ hnM hJ hY (kb b1 h1) (kb b2 h2.1) (kb b3 h3.1) (kb b4 h4.1) (kb b5 h5.1) (hR.below (hW.mono hnM)) h0

theorem _root_.Go.Boxed.below' {V V' : World} {k : Nat} {t : TypeId} {v : Value} (h : Boxed V k t v) (hb : Below V.heap.size V V') : Boxed V' k t v := (hb.block k h.lt).trans h

set_option maxRecDepth 100000 in
set_option maxHeartbeats 3000000 in
theorem put_in (A A0 : Option Addr) (c c0 : Nat) (L : List OptV) (code : Int) (data : List UInt8) (w : World) (hr : Op w w.heap.size A L) (hL : L.length ≤ 100) (hdd : ∀ x ∈ L, x.data.length ≤ 1000) (hd : By w w.heap.size A0 data) (hdl : data.length ≤ 1000) :
    CallsIn Fence.wide 3 Try.prog 18 #[.slice A L.length c, .int .i64 code, .slice A0 data.length c0] w (GivesP w (putL (absL L) code data)) := by
  obtain ⟨i0, hi, hz0, hz1, hz2⟩ := info_parts Try.infoO
  refine callsIn_of_wp_marks Try.func18 rfl trivial ?_ rfl
  simp only [Try.ntmps18, List.size_toArray, List.length_cons, List.length_nil, Nat.reduceAdd, Nat.reduceSub, Array.replicate_succ, Array.replicate_zero, List.push_toArray, List.append_toArray, List.nil_append, List.cons_append]
  obtain ⟨w3, hw3⟩ : ∃ w3, w3 = ((w.alloc (.cells #[.slice A L.length c] 22)).alloc (.cells #[.int .i64 code] 3)).alloc (.cells #[.slice A0 data.length c0] 25) := ⟨_, rfl⟩
  have hB3 : Below w.heap.size w w3 := by rw [hw3]; exact (((Below.refl _ w).alloc (Nat.le_refl _) _).alloc (by simp) _).alloc (by simp; omega) _
  have bl : Boxed w3 w.heap.size 22 (.slice A L.length c) := by rw [hw3]; exact ((Boxed.new w _ _).alloc _).alloc _
  have bc : Boxed w3 (w.heap.size + 1) 3 (.int .i64 code) := by rw [hw3]; have := (Boxed.new (w.alloc (.cells #[.slice A L.length c] 22)) 3 (.int .i64 code)).alloc (.cells #[.slice A0 data.length c0] 25); simpa using this
  have bd : Boxed w3 (w.heap.size + 1 + 1) 25 (.slice A0 data.length c0) := by rw [hw3]; have := Boxed.new ((w.alloc (.cells #[.slice A L.length c] 22)).alloc (.cells #[.int .i64 code] 3)) 25 (.slice A0 data.length c0); simpa using this
  have z3 : w3.heap.size = w.heap.size + 1 + 1 + 1 := by rw [hw3]; simp
  have HF := Lib.hid (first_any A c L code w3 (hr.later hB3) (by omega))
  have HW3 := Lib.hid hw3
  clear hw3
  gi_wp2_with fail
  rw [← HW3.out]
  refine ⟨trivial, (wide_of HF.out).mono ?_⟩
  rintro e w4 ⟨rfl, hB4⟩
  generalize hat : firstL (absL L) code = at_ at *
  have HAT := Lib.hid hat
  clear hat
  have bl4 : Boxed w4 w.heap.size 22 (.slice A L.length c) := (hB4.block _ bl.lt).trans bl
  have bc4 : Boxed w4 (w.heap.size + 1) 3 (.int .i64 code) := (hB4.block _ bc.lt).trans bc
  have bd4 : Boxed w4 (w.heap.size + 1 + 1) 25 (.slice A0 data.length c0) := (hB4.block _ bd.lt).trans bd
  have hlz : w3.heap.size ≤ w4.heap.size := hB4.size
  obtain ⟨w6, hw6⟩ : ∃ w6, w6 = (w4.alloc (.cells #[.int .i64 at_] 3)).alloc (.cells #[.slice none 0 0] 22) := ⟨_, rfl⟩
  have cl := ((bl4.alloc (.cells #[.int .i64 at_] 3)).alloc (.cells #[.slice none 0 0] 22)).cell
  have ba6 : Boxed w6 w4.heap.size 3 (.int .i64 at_) := by rw [hw6]; exact (Boxed.new w4 _ _).alloc _
  have bo6 : Boxed w6 (w4.heap.size + 1) 22 (.slice none 0 0) := by rw [hw6]; have := Boxed.new (w4.alloc (.cells #[.int .i64 at_] 3)) 22 (.slice none 0 0); simpa using this
  have bl6 : Boxed w6 w.heap.size 22 (.slice A L.length c) := by rw [hw6]; exact (bl4.alloc _).alloc _
  have bc6 : Boxed w6 (w.heap.size + 1) 3 (.int .i64 code) := by rw [hw6]; exact (bc4.alloc _).alloc _
  have bd6 : Boxed w6 (w.heap.size + 1 + 1) 25 (.slice A0 data.length c0) := by rw [hw6]; exact (bd4.alloc _).alloc _
  have z6 : w6.heap.size = w4.heap.size + 1 + 1 := by rw [hw6]; simp
  have hB6 : Below w.heap.size w w6 := by rw [hw6]; exact ((hB3.trans (hB4.mono hB3.size)).alloc (by omega) _).alloc (by simp; omega) _
  gi_wp2_with fail
  rw [← hw6]
  refine ⟨trivial, (wide_of (without_any _ _ _ _ _ _ w6)).mono ?_⟩
  rintro e w' ⟨rfl, rfl⟩
  clear cl hw6 HW3 bl bc bd bl4 bc4 bd4
  gi_wp2_with fail
  obtain ⟨fv, hfv⟩ : ∃ fv : Value, fv = .func (.func 29) #[] #[.pointer (some ⟨w4.heap.size, 0, none⟩), .pointer (some ⟨w.heap.size, 0, none⟩), .pointer (some ⟨w.heap.size + 1, 0, none⟩)] := ⟨_, rfl⟩
  rw [← hfv]
  obtain ⟨w8, hw8⟩ : ∃ w8, w8 = (w6.alloc (.cells #[.slice A L.length c] 22)).alloc (.cells #[fv] 52) := ⟨_, rfl⟩
  rw [← hw8]
  have z8 : w8.heap.size = w4.heap.size + 1 + 1 + 1 + 1 := by rw [hw8]; simp [z6]
  have hB8 : Below w.heap.size w w8 := by rw [hw8]; exact (hB6.alloc (by omega) _).alloc (by simp; omega) _
  have up : ∀ {k : Nat} {t : TypeId} {v : Value}, Boxed w6 k t v → Boxed w8 k t v := fun h => by rw [hw8]; exact (h.alloc _).alloc _
  have bL8 : Boxed w8 w6.heap.size 22 (.slice A L.length c) := by rw [hw8]; exact (Boxed.new w6 _ _).alloc _
  have bR8 : Boxed w8 (w6.heap.size + 1) 52 fv := by rw [hw8]; have := Boxed.new (w6.alloc (.cells #[.slice A L.length c] 22)) 52 fv; simpa using this
  clear hw8
  have ba8 := up ba6
  have bo8 := up bo6
  have bl8 := up bl6
  have bc8 := up bc6
  have bd8 := up bd6
  clear up ba6 bo6 bl6 bc6 bd6 hB6
  have hr8 := hr.below hB8
  have hd8 := hd.below hB8
  rw [z6] at bL8 bR8
  refine range_ends (F := Fence.wide) (α := Pl L) rfl (by omega) (gf := 39) (lb := #[.pointer (some ⟨w4.heap.size + 1 + 1, 0, none⟩), .pointer (some ⟨w4.heap.size + 1 + 1 + 1, 0, none⟩)]) (by simp [Act.eval]) trivial (enters_of Try.func39 (by kernel_rfl) rfl)
    (without_ends 2 (by omega) (w4.heap.size + 1 + 1) (w4.heap.size + 1 + 1 + 1) w4.heap.size w.heap.size (w.heap.size + 1) (w4.heap.size + 1) w.heap.size A c c L hL at_ code w8 (by omega) (by omega) (by omega) (by omega) (by omega) (by omega) (by omega) bL8 (by rw [← hfv]; exact bR8) ba8 bl8 bc8 hr8) kq_t (fun V => kq_b (Nat.le_refl _) V) ?bS ?bSp (Below.refl _ _) (fun _ => rfl)
    (PutI w w8 w8.heap.size (w4.heap.size + 1) L at_ data) (fun _ _ _ => False) (putI_own w w8 L at_ data (by omega) (Nat.le_refl _)) (fun c => ownFrom_pure _ (fun _ => False))
    ⟨⟨[], rfl, ⟨_, bo8, ⟨rfl, .inl ⟨rfl, rfl⟩⟩, trivial⟩, OwnAll.none_ _ _⟩, Kq.refl _ _ _, hB8⟩
    (fun x V => { tmps := #[.slice A L.length c, .int .i64 code, .slice A0 data.length c0, .pointer (some ⟨w.heap.size, 0, none⟩), .pointer (some ⟨w.heap.size + 1, 0, none⟩), .pointer (some ⟨w.heap.size + 1 + 1, 0, none⟩), .slice none 0 0, .pointer (some ⟨w4.heap.size, 0, none⟩), fv, .pointer (some ⟨w4.heap.size + 1, 0, none⟩), .int .i64 (x.1.1 : Int), .pointer (some ⟨V.heap.size, 0, none⟩), .slice A L.length c, .int .i64 code, .int .i64 at_, fv, .slice A L.length c, fv, .func (.func 39) #[] #[.pointer (some ⟨w4.heap.size + 1 + 1, 0, none⟩), .pointer (some ⟨w4.heap.size + 1 + 1 + 1, 0, none⟩)], .int .i64 (x.1.1 : Int), x.1.2.v, undef, undef, undef, undef, undef, undef, undef, undef, undef, undef, undef, undef, undef, undef, undef, undef, undef, undef, undef, undef], defers := [] })
    (fun x V => V.alloc (obox x.1.2)) (fun x V => World.grownBy_alloc V _ none) (fun x V hV => (Kq.refl _ _ _).grown (World.grownBy_alloc V _ none) hV (fun g e => by cases e))
    (fun x V U => U.heap[V.heap.size]? = some (.cells #[.int .i64 x.1.2.code, .slice x.1.2.ad x.1.2.data.length x.1.2.cap] 44 (0, 0)) ∧ ∀ (k : Nat) (cs : Array Value) (t : TypeId) (f : Nat × Nat), V.heap[k]? = some (Obj.cells cs t f) → U.heap[k]? = some (Obj.cells cs t f)) (fun x V => ⟨heap_alloc_new V _, fun k cs t f h => (Below.heap_alloc V _ k (Array.getElem?_eq_some_iff.1 h).1).trans h⟩) ?bG ?assign ?body ?done ?stop
  case bS => exact fun xs V l o o' h _ _ _ => h
  case bSp => exact fun xs V l o o' h _ _ _ => h
  case bG =>
    intro x V U l o o' ⟨hU, hkeep⟩ _ hlo hob
    have put : ∀ (k : Nat) (cs : Array Value) (t : TypeId) (f : Nat × Nat), U.heap[k]? = some (Obj.cells cs t f) → (U.putObj l o').heap[k]? = some (Obj.cells cs t f) := fun k cs t f hk => by
      refine (World.putObj_heap_other ?_).trans hk
      rintro rfl
      rw [hlo] at hk
      cases hk
      simp [Obj.isCells] at hob
    exact ⟨put _ _ _ _ hU, fun k cs t f h => put _ _ _ _ (hkeep k cs t f h)⟩
  case assign =>
    intro l x V K hK
    clear z3 z6 z8 hfv
    simp only [encP]
    gi_wp2
    exact hK
  case stop =>
    rintro D c pre V _ _ h _
    exact h.elim
  case body =>
    rintro l pre x V U ⟨⟨LoV, _, ⟨vV, hvV, hrowV, -⟩, _⟩, _, _⟩ ⟨⟨Lo, hlo, ⟨v, hv, hrow, -⟩, hoa⟩, hK, hB⟩ ⟨hG, hkeep⟩ hV hU hlen
    have hvv : vV = v := by
      have h1 := hkeep _ _ _ _ hvV
      unfold Boxed at hv
      rw [hv] at h1
      injection h1 with h1
      injection h1 with h1
      simpa using h1.symm
    have hgv : ∀ g, v.ownBlock = some g → g ≠ V.heap.size := fun g e => by
      rw [← hvv] at e
      have := (hrowV.lt g e).2
      omega
    clear hvv hkeep hvV hrowV
    have ca := (hK.boxed ba8 (by omega) (by omega)).cell
    have cd := (hK.boxed bd8 (by omega) (by omega)).cell
    have hMU : w8.heap.size ≤ U.heap.size := hK.1
    have hll : Lo.length = pre.length := by have := congrArg List.length hlo; rw [absL_length, List.length_map] at this; exact this
    obtain ⟨A9, c9, rfl, _⟩ := own_form hrow
    have hxd := hdd x.1.2 (List.mem_of_getElem? x.2)
    have hbyx : By U U.heap.size x.1.2.ad x.1.2.data := ((hK.by_ (hr8.data x.1.2 (List.mem_of_getElem? x.2)) (by omega) (by omega))).more (by omega)
    have hbyd : By U U.heap.size A0 data := (hK.by_ hd8 (by omega) (by omega)).more (by omega)
    have HLO := Lib.hid hlo
    have HZ : Hid (w4.heap.size + 1 < w8.heap.size ∧ w.heap.size ≤ w4.heap.size + 1 ∧ Lo.length ≤ 101) := ⟨by omega, by omega, by omega⟩
    have fin : ∀ (U0 : World) (y : OptV), y.abs = outP data at_ x.1 → Kq w8.heap.size (w4.heap.size + 1) U U0 → KeepsOthers U U0 → Below w.heap.size w U0 → U0.ownsRow w8.heap.size 44 2 (.slice A9 Lo.length c9) Lo.length (ocells Lo) → OwnAll U0 w8.heap.size Lo → Boxed U0 (w4.heap.size + 1) 22 (.slice A9 Lo.length c9) →
        ∀ (U1 : World) (A' : Option Addr) (c' : Nat) (U3 : World) (Ar : Option Addr) (cr : Nat), Own8 U1 U0.heap.size (.slice A' y.data.length c') y.data → Below U0.heap.size U0 U1 → U3.ownsRow w8.heap.size 44 2 (.slice Ar (Lo.length + 1) cr) (Lo.length + 1) (ocells Lo ++ [.int .i64 y.code, .slice A' y.data.length c']) → (U1.alloc (.cells #[.int .i64 y.code, .slice A' y.data.length c'] 44)).grownBy U3 (Value.slice A9 Lo.length c9).ownBlock →
        KeepsFrom w8.heap.size U (U3.setCell ⟨w4.heap.size + 1, 0, none⟩ (.slice Ar (Lo.length + 1) cr)) ∧ Kq w8.heap.size (w4.heap.size + 1) U (U3.setCell ⟨w4.heap.size + 1, 0, none⟩ (.slice Ar (Lo.length + 1) cr)) ∧ PutI w w8 w8.heap.size (w4.heap.size + 1) L at_ data (pre ++ [x]) (U3.setCell ⟨w4.heap.size + 1, 0, none⟩ (.slice Ar (Lo.length + 1) cr)) := by
      intro U0 y hy kq0 ko0 hB0 own0 oa0 bo0 U1 A' c' U3 Ar cr o8 hB1 hown3 hg3
      have s0 : w8.heap.size ≤ U0.heap.size := by have := kq0.1; omega
      have s1 := hB1.size
      have bo1 : Boxed U1 (w4.heap.size + 1) 22 (.slice A9 Lo.length c9) := (hB1.block _ bo0.lt).trans bo0
      have own1 := own0.kept (grown_of_below hB1) (by cases (Value.slice A9 Lo.length c9).ownBlock <;> simp)
      obtain ⟨bo3, bo4, own4, ko, hb4⟩ := bo1.appended (tmp := .cells #[.int .i64 y.code, .slice A' y.data.length c'] 44) (n₀ := w.heap.size) (by decide) (own_lower own1 (by omega)) (by omega) (by omega) (own_lower hown3 (by omega)) hg3
      have kq1 := kq0.grown (grown_of_below hB1) s0 (fun g e => by cases e)
      have kq2 := kq1.grown (World.grownBy_alloc U1 (.cells #[.int .i64 y.code, .slice A' y.data.length c'] 44) none) (by omega) (fun g e => by cases e)
      have kq3 := kq2.grown hg3 (by simp; omega) (fun g e => .inl (own1.lt g e).1)
      have kq4 := kq3.grown (grownBy_setCell' U3 (w4.heap.size + 1) (.slice Ar (Lo.length + 1) cr)) (by have := hg3.size; simp at this; omega) (fun g e => .inr (by cases e; rfl))
      have kb1 := ((Kb.refl 0 U1).alloc (Nat.zero_le _) (.cells #[.int .i64 y.code, .slice A' y.data.length c'] 44)).grown (own1.alloc _) (by decide) (Nat.zero_le _) (Nat.zero_le _) hg3
      have kb2 := kb1.set bo3 (by decide) (Nat.zero_le _) (.slice Ar (Lo.length + 1) cr)
      have oa1 : OwnAll U1 w8.heap.size (Lo ++ [⟨y.code, A', c', y.data⟩]) := (oa0.below hB1).snoc (own_lower o8 s0)
      refine ⟨((ko0.trans (KeepsOthers.of_grownBy (grown_of_below hB1) (fun j o e => by cases e))).trans ko).from _, kq4, ⟨Lo ++ [⟨y.code, A', c', y.data⟩], ?_, ⟨_, bo4, ?_, trivial⟩, oa1.kb kb2⟩, kq_t hK kq4, (hB0.trans (hB1.mono hB0.size)).trans hb4⟩
      · rw [show absL (Lo ++ [⟨y.code, A', c', y.data⟩]) = absL Lo ++ [y.abs] by simp [absL, OptV.abs], HLO.out, hy, List.map_append]; rfl
      · rw [ocells_append, List.length_append]
        exact hown3.kept (grownBy_setCell' U3 (w4.heap.size + 1) _) (.inr (bo3.not_row (by decide) hown3).symm)
    clear hlo z3 z6 z8 hfv hll
    have hz := HZ.out
    cases hq : ((x.1.1 : Int) == at_)
    · have HQ := Lib.hid (show ¬ (x.1.1 : Int) = at_ by simpa using hq)
      gi_wp2_with fail
      exact region9_in l _ _ _ U (w4.heap.size + 1) V.heap.size w8.heap.size x.1.2 A9 c9 Lo (by simp) rfl rfl hv hG hbyx hxd hrow hMU (by omega) (fun a' U1 A' c' U3 Ar cr o8 hB1 hown3 hg3 => fin U x.1.2 (by unfold outP; rw [if_neg HQ.out]) (Kq.refl _ _ _) (KeepsOthers.refl _) hB hrow hoa hv U1 A' c' U3 Ar cr o8 hB1 hown3 hg3)
    · have HQ := Lib.hid (show (x.1.1 : Int) = at_ by simpa using hq)
      have g1 := cell_of_row U V.heap.size 1 _ _ _ hG
      have f1 := frozen_of_row U V.heap.size 1 _ _ hG
      simp at g1
      have hG2 := heap_setCell_same U V.heap.size 1 _ _ (.slice A0 data.length c0) hG
      have gr := grownBy_cell U ⟨V.heap.size, 1, none⟩ (.slice A0 data.length c0)
      have hv2 := hv.kept gr (by simp; omega)
      have hrow2 := hrow.kept gr (.inr (fun e => hgv _ e rfl))
      have kb := (Kb.refl 0 U).setAny (i := 1) hG (by decide) (Nat.zero_le _) (.slice A0 data.length c0)
      have hoa2 := hoa.kb kb
      have hB2 := hB.setCell (p := ⟨V.heap.size, 1, none⟩) (by simp; omega) (.slice A0 data.length c0)
      have kq2 := (Kq.refl w8.heap.size (w4.heap.size + 1) U).grown gr hMU (fun g e => .inl (by cases e; exact hV))
      have ko2 := KeepsOthers.setCell U ⟨V.heap.size, 1, none⟩ (.slice A0 data.length c0)
      have hbyd2 : By (U.setCell ⟨V.heap.size, 1, none⟩ (.slice A0 data.length c0)) (U.setCell ⟨V.heap.size, 1, none⟩ (.slice A0 data.length c0)).heap.size A0 data := by
        refine ((kq_t hK kq2).by_ hd8 (by omega) (by omega)).more ?_
        have := hB2.size
        omega
      have hMU2 : w8.heap.size ≤ (U.setCell ⟨V.heap.size, 1, none⟩ (.slice A0 data.length c0)).heap.size := Nat.le_trans hMU kq2.1
      gi_wp2_with fail
      generalize U.setCell ⟨V.heap.size, 1, none⟩ (.slice A0 data.length c0) = U2 at *
      exact region9_in l _ _ _ U2 (w4.heap.size + 1) V.heap.size w8.heap.size ⟨x.1.2.code, A0, c0, data⟩ A9 c9 Lo (by simp) rfl rfl hv2 (by simpa using hG2) hbyd2 hdl hrow2 hMU2 (by omega) (fun a' U1 A' c' U3 Ar cr o8 hB1 hown3 hg3 => fin U2 ⟨x.1.2.code, A0, c0, data⟩ (by unfold outP; rw [if_pos HQ.out]; rfl) kq2 ko2 hB2 hrow2 hoa2 hv2 U1 A' c' U3 Ar cr o8 hB1 hown3 hg3)
  case done =>
    rintro D xs V hD hS ⟨⟨Lo, hlo, ⟨v, hv, hrow, -⟩, hoa⟩, hK, hB⟩ hKD
    have bav := hK.boxed ba8 (by omega) (by omega)
    have bcv := hK.boxed bc8 (by omega) (by omega)
    have bdv := hK.boxed bd8 (by omega) (by omega)
    have ca := bav.cell
    have cc := bcv.cell
    have cd := bdv.cell
    have hMV : w8.heap.size ≤ V.heap.size := hK.1
    have hll : Lo.length ≤ 101 := by
      have h1 := congrArg List.length hlo
      rw [absL_length, List.length_map] at h1
      have h2 := congrArg List.length hS
      rw [List.length_map] at h2
      have h3 := kept_length L at_ code L.length
      omega
    obtain ⟨A9, c9, rfl, _⟩ := own_form hrow
    have HP : Hid (putL (absL L) code data = absL Lo ++ (if at_ < 0 then [(code, data)] else [])) := by
      show _ = _
      rw [put_all, HAT.out, hlo, ← hS, List.map_map]
      rfl
    have hbyd : By V V.heap.size A0 data := (hK.by_ hd8 (by omega) (by omega)).more (by omega)
    have cv := hv.cell
    have hob : w4.heap.size + 1 < V.heap.size := by omega
    have HOB : Hid (w.heap.size ≤ w4.heap.size + 1 ∧ w.heap.size ≤ w8.heap.size ∧ w.heap.size ≤ D) := ⟨by omega, by omega, by omega⟩
    clear hlo hS z3 z6 z8 hfv
    by_cases hneg : at_ < 0
    · have hd0 : decide (at_ < 0) = true := by simpa using hneg
      have HQ := Lib.hid hneg
      clear hneg
      gi_wp2_with fail
      refine wpIn_wide.2 ?_
      have HO : Hid (Calls Try.prog 31 #[.agg #[.int .i64 code, .slice A0 data.length c0]] V.drew fun e w' => ∃ A' c', e = .returned (.agg #[.int .i64 code, .slice A' data.length c']) ∧ Own8 w' V.drew.heap.size (.slice A' data.length c') data ∧ Below V.drew.heap.size V.drew w') := owned_any ⟨code, A0, c0, data⟩ V.drew hbyd.drew (by simp only; omega)
      have fin2 : ∀ (U1 : World) (A' : Option Addr) (c' gg cap : Nat) (U3 : World), Own8 U1 V.drew.heap.size (.slice A' data.length c') data → Below V.heap.size V U1 → U1.ownsRow w8.heap.size 44 2 (.slice A9 Lo.length c9) Lo.length (ocells Lo) → Boxed U1 (w4.heap.size + 1) 22 (.slice A9 Lo.length c9) →
          U3.ownsRow w8.heap.size 44 2 (.slice (some ⟨gg, 0, none⟩) (Lo.length + 1) cap) (Lo.length + 1) (ocells Lo ++ [.int .i64 code, .slice A' data.length c']) → (U1.alloc (.cells #[.int .i64 code, .slice A' data.length c'] 44)).grownBy U3 (Value.slice A9 Lo.length c9).ownBlock → Boxed U3 (w4.heap.size + 1) 22 (.slice A9 Lo.length c9) →
          (U3.setCell ⟨w4.heap.size + 1, 0, none⟩ (.slice (some ⟨gg, 0, none⟩) (Lo.length + 1) cap)).heap[D]? = some (.deferred (some [])) ∧ GivesP w (putL (absL L) code data) (.returned (.slice (some ⟨gg, 0, none⟩) (Lo.length + 1) cap)) ((U3.setCell ⟨w4.heap.size + 1, 0, none⟩ (.slice (some ⟨gg, 0, none⟩) (Lo.length + 1) cap)).putObj D (.deferred none)) := by
        intro U1 A' c' gg cap U3 o8 hB1 own1 bo1 hown3 hg3 bo3
        have s1 := hB1.size
        have hz := HOB.out
        obtain ⟨_, bo4, own4, ko, hb4⟩ := bo1.appended (tmp := .cells #[.int .i64 code, .slice A' data.length c'] 44) (n₀ := w.heap.size) (by decide) (own_lower own1 hz.2.1) (by omega) hz.1 (own_lower hown3 hz.2.1) hg3
        have kb1 := ((Kb.refl 0 U1).alloc (Nat.zero_le _) (.cells #[.int .i64 code, .slice A' data.length c'] 44)).grown (own1.alloc _) (by decide) (Nat.zero_le _) (Nat.zero_le _) hg3
        have kb2 := kb1.set bo3 (by decide) (Nat.zero_le _) (.slice (some ⟨gg, 0, none⟩) (Lo.length + 1) cap)
        have oa1 : OwnAll U1 w8.heap.size (Lo ++ [⟨code, A', c', data⟩]) := (hoa.below hB1).snoc (own_lower o8 hMV)
        have oa2 := oa1.kb kb2
        have hKf := ko.same D _ ((KeepsOthers.of_grownBy (grown_of_below hB1) (fun j o e => by cases e)).same D _ hKD rfl) rfl
        have r4 := hown3.kept (grownBy_setCell' U3 (w4.heap.size + 1) (.slice (some ⟨gg, 0, none⟩) (Lo.length + 1) cap)) (.inr (bo3.not_row (by decide) hown3).symm)
        have r5 := row_snoc (L := Lo) (x := ⟨code, A', c', data⟩) rfl rfl r4
        have r6 := ownsRow_putObj r5 (.deferred none) hKf rfl
        have oa3 := OwnAll.booked w8.heap.size w8.heap.size _ _ D _ (.deferred none) oa2 hD hKf rfl
        have hBf : Below w.heap.size w ((U3.setCell ⟨w4.heap.size + 1, 0, none⟩ (.slice (some ⟨gg, 0, none⟩) (Lo.length + 1) cap)).putObj D (.deferred none)) := ((hB.trans (hB1.mono hB.size)).trans hb4).trans (belowK_b (w := w) (Nat.le_refl _) _ D _ _ hz.2.2 hKf rfl rfl)
        rw [List.length_append] at r6
        refine ⟨hKf, some ⟨gg, 0, none⟩, cap, Lo ++ [⟨code, A', c', data⟩], by simp, ?_, oa3.op r6, hBf⟩
        rw [HP.out, if_pos (by have := HQ.out; omega)]
        simp [absL, OptV.abs]
      refine wp_region_noPanic ?_
      go_region_law (first | (refine step_append_lies _ (by rfl) (.tmp 33) (.tmp 38) 22 (by rfl) w8.heap.size 44 i0 _ 2 32 Try.underlying22 hi hz0 hz1 hz2 rfl (by omega) (.slice A9 Lo.length c9) Lo.length (ocells Lo) (by rfl) (own1.alloc _) ⟨U1.heap.size, 0, none⟩ 1 1 [.int .i64 code, .slice A' data.length c'] (by rfl) (by rfl) (World.news_of_block (cs := #[.int .i64 code, .slice A' data.length c']) (t := 44) (fr := (0, 0)) (heap_alloc_new U1 _)) (by simp [Value.oneCell']) (by omega) (by unfold maxLen; omega) (by omega) (by simp; omega) (U1.heap.size + 1) (by simp) ?_; intro gg cap U3 hown3 hg3 hat hlt3; have b31 := (bo1.alloc (.cells #[.int .i64 code, .slice A' data.length c'] 44)).kept hg3 (bo1.not_row (by decide) own1); have c31 := b31.cell; have f31 := b31.frozen; have c32 := ((bcv1.alloc (.cells #[.int .i64 code, .slice A' data.length c'] 44)).kept hg3 (bcv1.not_row (by decide) own1)).cell; have c33 := ((bdv1.alloc (.cells #[.int .i64 code, .slice A' data.length c'] 44)).kept hg3 (bdv1.not_row (by decide) own1)).cell) | (go_simp; go_at_call 31; refine HO.out.mono ?_; rintro e U1 ⟨A', c', rfl, o8, hB1⟩; have hBV1 : Below V.heap.size V U1 := ⟨hB1.os, hB1.tape, hB1.output, hB1.size, hB1.block⟩; have bo1 := hv.below' hBV1; have bcv1 := bcv.below' hBV1; have bdv1 := bdv.below' hBV1; have own1 := hrow.kept (grown_of_below hBV1) (by cases (Value.slice A9 Lo.length c9).ownBlock <;> simp); have hU1 := hBV1.size; have cb1 := bo1.cell; have cb2 := (bo1.alloc (.cells #[.int .i64 code, .slice A' data.length c'] 44)).cell))
      all_goals
        refine NoPanic.normal ?_
        have cf := (b31.set (.slice (some ⟨gg, 0, none⟩) (Lo.length + 1) cap)).cell
        have hres := fin2 U1 A' c' gg cap U3 o8 hBV1 own1 bo1 hown3 hg3 b31
        clear b31 c31 f31 c32 c33 cb1 cb2 hown3 hg3 hat hlt3 own1 bo1 bcv1 bdv1 hBV1 hB1 o8 hU1 cv hv
        generalize U3.setCell ⟨w4.heap.size + 1, 0, none⟩ (.slice (some ⟨gg, 0, none⟩) (Lo.length + 1) cap) = Uf at *
        obtain ⟨hKf, hgv⟩ := hres
        gi_wp2
        refine ⟨by simp, .inl ⟨_, _, rfl, run_takeDeferred hKf, ?_⟩⟩
        exact ⟨.slice (some ⟨gg, 0, none⟩) (Lo.length + 1) cap, by simp [results, Try.f18, go_sem], hgv⟩
    · have hd0 : decide (at_ < 0) = false := by simpa using hneg
      have HQ := Lib.hid hneg
      clear hneg
      gi_wp2
      have r3 := ownsRow_putObj hrow (.deferred none) hKD rfl
      have hoa3 := OwnAll.booked w8.heap.size w8.heap.size Lo V D _ (.deferred none) hoa hD hKD rfl
      have hB3 : Below w.heap.size w (V.putObj D (.deferred none)) := hB.trans (belowK_b (w := w) (Nat.le_refl _) V D _ _ HOB.out.2.2 hKD rfl rfl)
      refine ⟨by simp, .inl ⟨_, _, rfl, run_takeDeferred hKD, ?_⟩⟩
      exact ⟨_, results_tmp rfl _ _ _, A9, c9, Lo, rfl, by rw [HP.out, if_neg (by have := HQ.out; omega), List.append_nil], hoa3.op r3, hB3⟩

theorem put_any (A A0 : Option Addr) (c c0 : Nat) (L : List OptV) (code : Int) (data : List UInt8) (w : World) (hr : Op w w.heap.size A L) (hL : L.length ≤ 100) (hdd : ∀ x ∈ L, x.data.length ≤ 1000) (hd : By w w.heap.size A0 data) (hdl : data.length ≤ 1000) :
    Calls Try.prog 18 #[.slice A L.length c, .int .i64 code, .slice A0 data.length c0] w (GivesP w (putL (absL L) code data)) :=
  callsIn_wide.1 (put_in A A0 c c0 L code data w hr hL hdd hd hdl)
end Go.Proofs.Ytgmebonhhbdofaa
