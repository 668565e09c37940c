/- option.Decode. -/
import Derived.Test.YtmlckjccgdmknaaOptI
namespace Go.Proofs.Ytmlckjccgdmknaa
open Go.RowKit Go.Shelf
attribute [local go_sem] Oper.semAt_some

theorem options_any (A : Option Addr) (len cap : Nat) (w : World) :
    Calls Try.prog 47 #[.slice A len cap] w fun e w' => e = .returned (.func (.func 53) #[] #[.pointer (some ⟨w.heap.size, 0, none⟩)]) ∧ w' = w.alloc (.cells #[.slice A len cap] 24) := by
  go_enter Try.func47, Try.ntmps47
  go_wp2
  go_ret
  exact ⟨rfl, rfl⟩

theorem options_ends (n : Nat) (hn : 1 ≤ n) (Bs n₀ : Nat) (A : Option Addr) (cap : Nat) (b : List UInt8) (hb : b.length ≤ 1024) (hcap : b.length ≤ cap) (w : World) (hBs : Bs < w.heap.size) (hn₀ : n₀ ≤ w.heap.size)
    (hc : w.cell? ⟨Bs, 0, none⟩ = some (.slice A b.length cap)) (hR : By w n₀ A b) :
    SeqEnds Fence.wide n Try.prog 53 #[.pointer (some ⟨Bs, 0, none⟩)] encE (Kb n₀) (AllCame b n₀) (SomeCame b) 1025 w := fun lp J Jx W hW hJ _ hY h0 =>
  options1_in n hn lp Bs n₀ A cap b hb hcap J Jx W (Nat.le_trans hn₀ hW.size) hJ hY ((hW.cell (p := ⟨Bs, 0, none⟩) hBs).trans hc) (hR.below (hW.mono hn₀)) h0

theorem boxed_put {W : World} {B : Nat} {t : TypeId} {v : Value} (h : Boxed W B t v) {D : Nat} {x : Option (List Deferred)} (hK : W.heap[D]? = some (.deferred x)) (o : Obj) : Boxed (W.putObj D o) B t v := by
  refine h.kept (grownBy_putObj' W D o) ?_
  intro e
  cases e
  unfold Boxed at h
  rw [h] at hK
  cases hK

set_option maxRecDepth 100000 in
set_option maxHeartbeats 1000000 in
theorem decode_big (A : Option Addr) (c : Nat) (b : List UInt8) (hb : 1024 < b.length) (hl : b.length ≤ 3000) (w : World) :
    Calls Try.prog 33 #[.slice A b.length c] w (GivesO w [] 2) := by
  have hd : decide ((1024 : Int) < (b.length : Int)) = true := by simp; omega
  have hB : Below w.heap.size w ((w.alloc (.cells #[.slice none 0 0] 25)).alloc (.cells #[.int .i64 2] 30)) := ((Below.refl _ _).alloc (Nat.le_refl _) _).alloc (by simp) _
  go_enter Try.func33, Try.ntmps33
  go_wp2
  exact bodyPost_ret (v := .tuple #[.slice none 0 0, .int .i64 2]) (by simp [results, Try.f33, go_sem]) rfl ⟨none, 0, [], rfl, rfl, Op.nil, hB⟩

/-- What the body of Decode keeps to. -/
def DecI (w : World) (pre : List El) (V : World) : Prop :=
  ((∀ x ∈ pre, x.2 = 0) ∧ (∃ v, Boxed V (w.heap.size + 1 + 1) 25 v ∧ V.ownsRow w.heap.size 47 2 v pre.length (ocells (pre.map Prod.fst)) ∧ True) ∧ Boxed V w.heap.size 25 (.slice none 0 0) ∧ Boxed V (w.heap.size + 1) 30 (.int .i64 0)) ∧ Below w.heap.size w V
def DecX (w : World) (c : Code) (pre : List El) (V : World) : Prop :=
  (c = .ret ∧ ∃ ini last, pre = ini ++ [last] ∧ last.2 ≠ 0 ∧ Boxed V w.heap.size 25 (.slice none 0 0) ∧ Boxed V (w.heap.size + 1) 30 (.int .i64 last.2)) ∧ Below w.heap.size w V

theorem decI_own (w : World) {B : Nat} (hB : w.heap.size ≤ B) : OwnFrom B (DecI w) :=
  OwnFrom.and (Own.from (fun s X Y row hs hg hr => ⟨hs.1, holdsRow_own (β := List El) w.heap.size (w.heap.size + 1 + 1) _ _ 2 (fun s => s.length) (fun s => ocells (s.map Prod.fst)) (fun _ _ => True) s X Y row hs.2.1 hg hr, boxed_own _ _ (fun _ => _) s X Y row hs.2.2.1 hg hr, boxed_own _ _ (fun _ => _) s X Y row hs.2.2.2 hg hr⟩) _) (ownFrom_below (Nat.le_refl _) hB)
theorem decX_own (w : World) (c : Code) {B : Nat} (hB : w.heap.size ≤ B) : OwnFrom B (DecX w c) :=
  OwnFrom.and (Own.from (fun s X Y row hs hg hr => by obtain ⟨hc, ini, last, e1, e2, e3, e4⟩ := hs; exact ⟨hc, ini, last, e1, e2, boxed_own _ _ (fun _ => _) s X Y row e3 hg hr, boxed_own _ _ (fun _ => _) s X Y row e4 hg hr⟩) _) (ownFrom_below (Nat.le_refl _) hB)

theorem two_new (w : World) (x y : Value) (t : TypeId) {g : Nat} (hg : g = w.heap.size) : ∀ j u, [x, y][j]? = some u → (w.alloc (.cells #[x, y] t)).cell? ((⟨g, 0, none⟩ : Addr).add j) = some u := by
  subst hg
  intro j u hu
  match j, hu with
  | 0, hu => simp at hu; subst hu; simp [Addr.add]
  | 1, hu => simp at hu; subst hu; simp [Addr.add]

set_option maxRecDepth 100000 in
set_option maxHeartbeats 3000000 in
theorem decode_ok (A : Option Addr) (c : Nat) (b : List UInt8) (hb : ¬ 1024 < b.length) (hcap : b.length ≤ c) (w : World) (h : By w w.heap.size A b) :
    CallsIn Fence.wide 3 Try.prog 33 #[.slice A b.length c] w (GivesO w (decR b).1 (decR b).2) := by
  obtain ⟨i0, hi, hz0, hz1, hz2⟩ := info_parts Try.infoO
  have hd : decide ((1024 : Int) < (b.length : Int)) = false := by simp; omega
  refine callsIn_of_wp_marks Try.func33 rfl trivial ?_ rfl
  simp only [Try.ntmps33, List.size_toArray, List.length_cons, List.length_nil, Nat.reduceAdd, Nat.reduceSub, Array.replicate_succ, Array.replicate_zero, List.push_toArray, List.append_toArray, List.nil_append, List.cons_append]
  gi_wp2_with fail
  refine ⟨trivial, (wide_of (options_any _ _ _ _)).mono ?_⟩
  rintro e w' ⟨rfl, rfl⟩
  gi_wp2_with fail
  obtain ⟨w1, hw1⟩ : ∃ w1, w1 = w.alloc (.cells #[.slice none 0 0] 25) := ⟨_, rfl⟩
  obtain ⟨w2, hw2⟩ : ∃ w2, w2 = w1.alloc (.cells #[.int .i64 0] 30) := ⟨_, rfl⟩
  obtain ⟨w3, hw3⟩ : ∃ w3, w3 = w2.alloc (.cells #[.slice none 0 0] 25) := ⟨_, rfl⟩
  obtain ⟨w4, hw4⟩ : ∃ w4, w4 = w3.alloc (.cells #[.slice A b.length c] 24) := ⟨_, rfl⟩
  have z1 : w1.heap.size = w.heap.size + 1 := by rw [hw1]; simp
  have z2 : w2.heap.size = w.heap.size + 1 + 1 := by rw [hw2]; simp [z1]
  have z3 : w3.heap.size = w.heap.size + 1 + 1 + 1 := by rw [hw3]; simp [z2]
  have z4 : w4.heap.size = w.heap.size + 1 + 1 + 1 + 1 := by rw [hw4]; simp [z3]
  have b0 : Boxed w4 w.heap.size 25 (.slice none 0 0) := by rw [hw4, hw3, hw2, hw1]; exact (((Boxed.new w _ _).alloc _).alloc _).alloc _
  have b1 : Boxed w4 (w.heap.size + 1) 30 (.int .i64 0) := by rw [← z1, hw4, hw3, hw2]; exact ((Boxed.new w1 _ _).alloc _).alloc _
  have b2 : Boxed w4 (w.heap.size + 1 + 1) 25 (.slice none 0 0) := by rw [← z2, hw4, hw3]; exact (Boxed.new w2 _ _).alloc _
  have b3 : Boxed w4 (w.heap.size + 1 + 1 + 1) 24 (.slice A b.length c) := by rw [← z3, hw4]; exact Boxed.new w3 _ _
  have hB4 : Below w.heap.size w w4 := by rw [hw4, hw3, hw2, hw1]; exact ((((Below.refl _ w).alloc (Nat.le_refl _) _).alloc (by simp) _).alloc (by simp; omega) _).alloc (by simp; omega) _
  rw [hw1] at hw2
  rw [hw2] at hw3
  rw [hw3] at hw4
  rw [← hw4]
  clear hw1 hw2 hw3 hw4 z1 z2 z3
  refine range_ends (F := Fence.wide) rfl (by omega) (gf := 53) (lb := #[.pointer (some ⟨w.heap.size + 1 + 1 + 1, 0, none⟩)]) (by simp [Act.eval]) trivial (enters_of Try.func53 (by kernel_rfl) rfl)
    (options_ends 2 (by omega) (w.heap.size + 1 + 1 + 1) w.heap.size A c b (by omega) hcap w4 (by omega) (by omega) b3.cell (h.below hB4)) kb_t (fun V => kb_b (by omega) V) ?bS ?bSp (Below.refl _ _) (fun _ => rfl)
    (DecI w) (DecX w) (decI_own w (by omega)) (fun c => decX_own w c (by omega))
    ⟨⟨by simp, ⟨_, b2, ⟨rfl, .inl ⟨rfl, rfl⟩⟩, trivial⟩, b0, b1⟩, hB4⟩
    (fun x V => { tmps := #[.slice A b.length c, undef, .pointer (some ⟨w.heap.size, 0, none⟩), .pointer (some ⟨w.heap.size + 1, 0, none⟩), .pointer (some ⟨w.heap.size + 1 + 1, 0, none⟩), .pointer (some ⟨V.heap.size, 0, none⟩), .int .i64 x.2, .slice A b.length c, .int .i64 (b.length : Int), .bool false, .slice A b.length c, .func (.func 53) #[] #[.pointer (some ⟨w.heap.size + 1 + 1 + 1, 0, none⟩)], x.1.v, .int .i64 x.2, undef, undef, undef, undef, undef, undef, undef, undef], defers := [] })
    (fun x V => V.alloc (obox x.1)) (fun x V => World.grownBy_alloc V _ none) (fun x V hV => (Kb.refl _ _).alloc (by omega) _)
    (fun x V U => U.heap[V.heap.size]? = some (.cells #[.int .i64 x.1.code, .slice x.1.ad x.1.data.length x.1.cap] 47 (0, 0))) (fun x V => heap_alloc_new V _) ?bG ?assign ?body ?done ?stop
  case bS => exact fun xs V l o o' ⟨L, ho, hor⟩ hl hlo hob => ⟨L, OwnAll.booked _ _ L V l o o' ho hl hlo hob, hor⟩
  case bSp => exact fun xs V l o o' h _ _ _ => h
  case bG =>
    intro x V U l o o' hU _ hlo hob
    refine (World.putObj_heap_other ?_).trans hU
    rintro rfl
    rw [hlo] at hU
    cases hU
    simp [Obj.isCells] at hob
  case assign =>
    intro l x V K hK
    simp only [encE]
    gi_wp2
    exact hK
  case body =>
    rintro l pre x V U - ⟨⟨hz, ⟨v, hv, hrow, -⟩, c0, c1⟩, hB⟩ hG hV hU hlen
    have d0 := c0.cell
    have d1 := c1.cell
    have f0 := c0.frozen
    have f1 := c1.frozen
    have dv := hv.cell
    have fv := hv.frozen
    have g0 := cell_of_row U V.heap.size 0 _ _ _ hG
    have g1 := cell_of_row U V.heap.size 1 _ _ _ hG
    simp at g0 g1
    by_cases hx : x.2 = 0
    · have hne : (x.2 != 0) = false := by simp [hx]
      have HX := Lib.hid hx
      have HZ := Lib.hid hz
      have HG := Lib.hid hG
      clear hx hz hG
      gi_wp2_with (gi_at_builtin; refine wpListIn_append_own _ rfl _ _ 25 rfl w.heap.size 47 i0 _ 2 32 Try.underlying25 hi hz0 hz1 hz2 rfl (by decide) v pre.length _ rfl (hrow.alloc _) ⟨U.heap.size, 0, none⟩ 1 1 [.int .i64 x.1.code, .slice x.1.ad x.1.data.length x.1.cap] rfl rfl (two_new _ _ _ _ rfl) (by simp [Value.oneCell']) (by unfold maxLen; omega) (by omega) (by simp; omega) ?_; intro v' w1 hown' hgrow _; obtain ⟨g', cap', rfl⟩ := ownsRow_succ hown'; obtain ⟨hv1, hv2, hr2, hk2, hb2⟩ := hv.appended (by decide) hrow hB.size (by omega) hown' hgrow; have hc1 := hv1.cell; have hf1 := hv1.frozen)
      have hown2 := hrow.alloc (.cells #[.int .i64 x.1.code, .slice x.1.ad x.1.data.length x.1.cap] 47)
      have kb1 := ((Kb.refl w.heap.size U).alloc hB.size (.cells #[.int .i64 x.1.code, .slice x.1.ad x.1.data.length x.1.cap] 47)).grown hown2 (by decide) (Nat.le_refl _) (by simp; have := hB.size; omega) hgrow
      have kb2 := kb1.set hv1 (by decide) (by omega) (.slice (some ⟨g', 0, none⟩) (pre.length + 1) cap')
      have c0' := ((c0.alloc (.cells #[.int .i64 x.1.code, .slice x.1.ad x.1.data.length x.1.cap] 47)).kept hgrow (c0.not_row (by decide) hrow)).other (B' := w.heap.size + 1 + 1) (by omega) (.slice (some ⟨g', 0, none⟩) (pre.length + 1) cap')
      have c1' := ((c1.alloc (.cells #[.int .i64 x.1.code, .slice x.1.ad x.1.data.length x.1.cap] 47)).kept hgrow (c1.not_row (by decide) hrow)).other (B' := w.heap.size + 1 + 1) (by omega) (.slice (some ⟨g', 0, none⟩) (pre.length + 1) cap')
      refine ⟨hk2.from _, kb2, ⟨fun y hy => ?_, ⟨_, hv2, ?_, trivial⟩, c0', c1'⟩, hB.trans hb2⟩
      · rcases List.mem_append.1 hy with hy | hy
        · exact HZ.out y hy
        · simp at hy; subst hy; exact HX.out
      · rw [List.map_append, ocells_append, List.length_append]
        exact hr2
    · have hne : (x.2 != 0) = true := by simpa using hx
      have HX := Lib.hid hx
      clear hx hz hG
      gi_wp2
      have k0 := (c0.set (.slice none 0 0)).other (B' := w.heap.size + 1) (by omega) (.int .i64 x.2)
      have k1 := (c1.other (B' := w.heap.size) (by omega) (.slice none 0 0)).set (.int .i64 x.2)
      exact ⟨((KeepsOthers.setCell _ _ _).trans (KeepsOthers.setCell _ _ _)).from _, ⟨rfl, pre, x, rfl, HX.out, k0, k1⟩, (hB.setCell (p := ⟨w.heap.size, 0, none⟩) (Nat.le_refl _) _).setCell (p := ⟨w.heap.size + 1, 0, none⟩) (by simp) _⟩
  case done =>
    rintro D xs V hD ⟨L, hoa, hor⟩ ⟨⟨hz, ⟨v, hv, hrow, -⟩, c0, c1⟩, hB⟩ hK
    have hfine : decL b = some (absL L) ∧ xs = fine L := by
      rcases hor with h1 | ⟨_, h2⟩
      · exact h1
      · have := hz wrong (by rw [h2]; simp)
        simp [wrong] at this
    obtain ⟨hdec, rfl⟩ := hfine
    have hmap : (fine L).map Prod.fst = L := by simp [fine, Function.comp_def]
    rw [hmap, fine_length] at hrow
    obtain ⟨A', c', rfl, _⟩ := own_form hrow
    have HD := Lib.hid (decR_some hb hdec)
    have d0 := c0.cell
    have d1 := c1.cell
    have f0 := c0.frozen
    have f1 := c1.frozen
    have dv := hv.cell
    clear hor hz hdec hmap
    gi_wp2
    have k0 := (c0.set (.slice A' L.length c')).other (B' := w.heap.size + 1) (by omega) (.int .i64 0)
    have k1 := (c1.other (B' := w.heap.size) (by omega) (.slice A' L.length c')).set (.int .i64 0)
    have c1' := c1.other (B' := w.heap.size) (by omega) (.slice A' L.length c')
    have r1 := hrow.kept (grownBy_setCell' V w.heap.size (.slice A' L.length c')) (.inr (c0.not_row (by decide) hrow).symm)
    have r2 := r1.kept (grownBy_setCell' _ (w.heap.size + 1) (.int .i64 0)) (.inr (c1'.not_row (by decide) r1).symm)
    have kb := ((Kb.refl w.heap.size V).set c0 (by decide) (Nat.le_refl _) (.slice A' L.length c')).set c1' (by decide) (by omega) (.int .i64 0)
    have hoa2 := hoa.kb kb
    have hB2 := hB.trans kb.1
    have hK2 := ((KeepsOthers.setCell V ⟨w.heap.size, 0, none⟩ (.slice A' L.length c')).trans (KeepsOthers.setCell _ ⟨w.heap.size + 1, 0, none⟩ (.int .i64 0))).same D _ hK rfl
    generalize (V.setCell ⟨w.heap.size, 0, none⟩ (.slice A' L.length c')).setCell ⟨w.heap.size + 1, 0, none⟩ (.int .i64 0) = V2 at *
    have e0 := (boxed_put k0 hK2 (.deferred none)).cell
    have e1 := (boxed_put k1 hK2 (.deferred none)).cell
    have r3 := ownsRow_putObj r2 (.deferred none) hK2 rfl
    have hoa3 := OwnAll.booked w.heap.size w.heap.size L V2 D _ (.deferred none) hoa2 (by omega) hK2 rfl
    have hB3 : Below w.heap.size w (V2.putObj D (.deferred none)) := hB2.trans (belowK_b (w := w) (Nat.le_refl _) V2 D _ _ (by omega) hK2 rfl rfl)
    refine ⟨by simp, .inl ⟨_, _, rfl, run_takeDeferred hK2, ?_⟩⟩
    rw [HD.out]
    refine ⟨.tuple #[.slice A' L.length c', .int .i64 0], ?_, A', c', L, rfl, rfl, hoa3.op r3, hB3⟩
    simp [results, Try.f33, go_sem, e0, e1]
  case stop =>
    rintro D c pre V hD hSp ⟨⟨rfl, ini, last, e1, e2, c0, c1⟩, hB⟩ hK
    have hw : decL b = none ∧ last.2 = 2 := by
      rcases hSp with ⟨L, hL⟩ | ⟨hn, L, hL⟩
      · have hm : last ∈ fine L := by rw [← hL, e1]; simp
        obtain ⟨o, _, rfl⟩ := List.mem_map.1 hm
        exact absurd rfl e2
      · rw [hL] at e1
        obtain ⟨_, h2⟩ := List.append_inj' e1 rfl
        simp at h2
        exact ⟨hn, by rw [← h2]; rfl⟩
    have HD := Lib.hid (decR_none hw.1)
    rw [hw.2] at c1
    clear hSp hw e1 e2
    gi_wp2
    have k0 := (boxed_put c0 hK (.deferred none)).cell
    have k1 := (boxed_put c1 hK (.deferred none)).cell
    have hB3 : Below w.heap.size w (V.putObj D (.deferred none)) := hB.trans (belowK_b (w := w) (Nat.le_refl _) V D _ _ (by omega) hK rfl rfl)
    refine ⟨by simp, .inl ⟨_, _, rfl, run_takeDeferred hK, ?_⟩⟩
    rw [HD.out]
    refine ⟨.tuple #[.slice none 0 0, .int .i64 2], ?_, none, 0, [], rfl, rfl, Op.nil, hB3⟩
    simp [results, Try.f33, go_sem, k0, k1]

theorem decode_any (A : Option Addr) (c : Nat) (b : List UInt8) (hl : b.length ≤ 3000) (hcap : b.length ≤ c) (w : World) (h : By w w.heap.size A b) :
    Calls Try.prog 33 #[.slice A b.length c] w (GivesO w (decR b).1 (decR b).2) := by
  by_cases hb : 1024 < b.length
  · rw [decR_big hb]
    exact decode_big A c b hb hl w
  · exact callsIn_wide.1 (decode_ok A c b hb hcap w h)
end Go.Proofs.Ytmlckjccgdmknaa
