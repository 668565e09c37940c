/- The program's box: Tick. -/
import Derived.Test.YtekladmddfibaaaOutD
import Derived.Test.YtekladmddfibaaaOutF
import Derived.Test.YtekladmddfibaaaOutH
namespace Go.Proofs.Ytekladmddfibaaa
open Go.RowKit Go.Sort Go.Maps Go.Shelf
attribute [local go_sem] Oper.semAt_some

/-- What was sent now. -/
def sentF (now : Int) (xs : List OutV) (o : OutV) : OutV := if o ∈ xs then ⟨o.m, now⟩ else o
theorem sent_f (now : Int) (xs : List OutV) (o : OutV) : (sentF now xs o).m = o.m := by unfold sentF; split <;> rfl
def nowF (x now : Int) (o : OutV) : OutV := if o.m.xid = x then ⟨o.m, now⟩ else o
theorem now_m (x now : Int) (o : OutV) : (nowF x now o).m = o.m := by unfold nowF; split <;> rfl
theorem ok_same {B : BxV} (hok : B.Ok) {o p : OutV} (ho : o ∈ B.l) (hp : p ∈ B.l) (e : o.m.xid = p.m.xid) : o = p := by
  obtain ⟨i, hi, rfl⟩ := List.getElem_of_mem ho
  obtain ⟨j, hj, rfl⟩ := List.getElem_of_mem hp
  have h := List.pairwise_iff_getElem.1 hok.rise
  rcases Nat.lt_trichotomy i j with h1 | h1 | h1
  · have := h i j hi hj h1; omega
  · subst h1; rfl
  · have := h j i hj hi h1; omega
theorem sent_snoc {B : BxV} (hok : B.Ok) (now : Int) (pre : List (Upd B.l)) (x : Upd B.l) : (B.l.map (sentF now (outs pre))).map (nowF x.1.m.xid now) = B.l.map (sentF now (outs (pre ++ [x]))) := by
  rw [List.map_map]
  refine List.map_congr_left fun o ho => ?_
  show nowF x.1.m.xid now (sentF now (outs pre) o) = _
  unfold nowF
  rw [sent_f, outs_snoc]
  by_cases h : o.m.xid = x.1.m.xid
  · rw [if_pos h]
    unfold sentF
    rw [if_pos (List.mem_append_right _ (List.mem_singleton.2 (ok_same hok ho x.2 h)))]
  · rw [if_neg h]
    unfold sentF
    have e : (o ∈ outs pre ++ [x.1]) = (o ∈ outs pre) := by
      apply propext
      rw [List.mem_append, List.mem_singleton]
      exact ⟨fun h2 => h2.resolve_right (fun e => h (by rw [e])), .inl⟩
    simp only [e]
theorem sub_all {α : Type} {s l : List α} (h : s.Sublist l) (hn : l.Nodup) (ha : ∀ x ∈ l, x ∈ s) : s = l := by
  induction h with
  | slnil => rfl
  | cons a h ih =>
    have h1 := h.subset (ha a (by simp))
    exact absurd h1 (List.nodup_cons.1 hn).1
  | cons_cons a h ih =>
    obtain ⟨h1, h2⟩ := List.nodup_cons.1 hn
    rw [ih h2 (fun x hx => (List.mem_cons.1 (ha x (List.mem_cons_of_mem _ hx))).resolve_left (fun e => h1 (e ▸ hx)))]
theorem came_b {P : Int → Nat} {l : List OutV} {now : Int} {n : Nat} (hP : ∀ o ∈ l, P o.m.xid < n) (xs : List (Upd l)) : Booked n (Came P l l now xs) := fun V j o o' h hl ho hc =>
  ⟨h.1, fun q hq hd => by
    rcases h.2 q hq hd with h1 | h1
    · exact .inl h1
    · exact .inr (h1.block (World.putObj_heap_other (by have := hP q hq; omega)))⟩

/-- What the body of Tick keeps to. -/
structure TickI (w W0 : World) (g bS bN bW : Nat) (P : Int → Nat) (B : BxV) (now : Int) (lb tb : Nat) (pre : List (Upd B.l)) (V : World) : Prop where
  row : ∃ v, Boxed V lb 37 v ∧ V.ownsRow W0.heap.size ElemM.e ElemM.m v (outs pre).length (ecells ElemM ((outs pre).map (·.m))) ∧ True
  now_ : Boxed V tb 3 (.int .i64 now)
  box : TBt V g bS bN bW P ⟨B.l.map (sentF now (outs pre)), B.w, B.xid⟩
  oth : OthT (TQ g bS bN bW P B.l) w V
  size : W0.heap.size ≤ V.heap.size
theorem tickI_own {w W0 : World} {g bS bN bW : Nat} {P : Int → Nat} {B : BxV} {now : Int} {lb tb : Nat} (hw : w.heap.size ≤ W0.heap.size) (hlt : ∀ k, TQ g bS bN bW P B.l k → k < W0.heap.size) : OwnFrom W0.heap.size (TickI w W0 g bS bN bW P B now lb tb) := by
  rintro s X Y row ⟨h1, h2, h3, h4, h5⟩ hg hr
  refine ⟨holdsRow_own (β := List (Upd B.l)) W0.heap.size lb _ _ _ (fun s => (outs s).length) (fun s => ecells ElemM ((outs s).map (·.m))) (fun _ _ => True) s X Y row h1 hg (fun r e => (hr r e).2),
    boxed_own _ _ (fun (_ : List (Upd B.l)) => (.int .i64 now)) s X Y row h2 hg (fun r e => (hr r e).2), h3.keep (KpT.of_grown hg h3.lt (fun k e hk => ?_)), ?_, Nat.le_trans h5 hg.size⟩
  · rw [tq_map _ _ (sent_f _ _)] at hk
    have := hlt k hk
    have := (hr k e).1
    omega
  · exact ⟨hg.os.trans h4.os, hg.tape.trans h4.tape, hg.output.trans h4.output, Nat.le_trans h4.size hg.size, fun k hk hn => (hg.block k (Nat.lt_of_lt_of_le hk h4.size) (fun e => by have := (hr k e.symm).1; omega)).trans (h4.block k hk hn)⟩

set_option maxRecDepth 100000 in
set_option maxHeartbeats 3000000 in
theorem otick_in {w : World} {g bS bN bW : Nat} {P : Int → Nat} {B : BxV} (now : Int) (h0 : 0 ≤ now) (h1 : now ≤ 1099511627776) (h : TBt w g bS bN bW P B) (hok : B.Ok) :
    CallsIn Fence.wide 3 Try.prog 25 #[.pointer (some ⟨g, 0, none⟩), .int .i64 now] w fun e w' => ∃ A c, e = .returned (.tuple #[.slice A (B.told now).length c, .int .i64 0]) ∧
      w'.ownsRow w.heap.size ElemM.e ElemM.m (.slice A (B.told now).length c) (B.told now).length (ecells ElemM (B.told now)) ∧ TBt w' g bS bN bW P (B.ticked now) ∧ Way (TQ g bS bN bW P B.l) w (TQ g bS bN bW P B.l) w' := by
  have HD := Lib.hid h
  have HOK := Lib.hid hok
  have HDUE := Lib.hid (fun W => odue_any g now W)
  have hc0 : decide (now < 0) = false := decide_eq_false (by omega)
  have hc1 : decide (1099511627776 < now) = false := decide_eq_false (by omega)
  have hlen := hok.len
  clear h hok
  refine callsIn_of_wp_marks Try.func25 rfl trivial ?_ rfl
  simp only [Try.ntmps25, List.size_toArray, List.length_cons, List.length_nil, Nat.reduceAdd, Nat.reduceSub, Array.replicate_succ, Array.replicate_zero, List.push_toArray, List.append_toArray, List.nil_append, List.cons_append]
  gi_wp2_with fail
  refine ⟨trivial, (wideI (HDUE.out _)).mono ?_⟩
  rintro e w' ⟨rfl, rfl⟩
  gi_wp2_with fail
  obtain ⟨w3, hw3⟩ : ∃ w3, w3 = (((w.alloc (.cells #[.int .i64 now] 3)).alloc (.cells #[.slice none 0 0] 37)).alloc (.cells #[.pointer (some ⟨g, 0, none⟩)] 24)).alloc (.cells #[.int .i64 now] 3) := ⟨_, rfl⟩
  rw [← hw3]
  have s1 : (w.alloc (.cells #[.int .i64 now] 3)).heap.size = w.heap.size + 1 := World.size_alloc _ _
  have s2 : ((w.alloc (.cells #[.int .i64 now] 3)).alloc (.cells #[.slice none 0 0] 37)).heap.size = w.heap.size + 1 + 1 := by rw [World.size_alloc, s1]
  have s3 : (((w.alloc (.cells #[.int .i64 now] 3)).alloc (.cells #[.slice none 0 0] 37)).alloc (.cells #[.pointer (some ⟨g, 0, none⟩)] 24)).heap.size = w.heap.size + 1 + 1 + 1 := by rw [World.size_alloc, s2]
  have z3 : w3.heap.size = w.heap.size + 1 + 1 + 1 + 1 := by rw [hw3, World.size_alloc, s3]
  have hB3 : Below w.heap.size w w3 := by rw [hw3]; exact ((((Below.refl _ w).alloc (Nat.le_refl _) _).alloc (by rw [s1]; omega) _).alloc (by rw [s2]; omega) _).alloc (by rw [s3]; omega) _
  have b0 : Boxed w3 w.heap.size 3 (.int .i64 now) := by rw [hw3]; exact (((Boxed.new w _ _).alloc _).alloc _).alloc _
  have b1 : Boxed w3 (w.heap.size + 1) 37 (.slice none 0 0) := by
    have := ((Boxed.new (w.alloc (.cells #[.int .i64 now] 3)) 37 (.slice none 0 0)).alloc (.cells #[.pointer (some ⟨g, 0, none⟩)] 24)).alloc (.cells #[.int .i64 now] 3)
    rw [s1] at this
    rw [hw3]; exact this
  have b2 : Boxed w3 (w.heap.size + 1 + 1) 24 (.pointer (some ⟨g, 0, none⟩)) := by
    have := (Boxed.new ((w.alloc (.cells #[.int .i64 now] 3)).alloc (.cells #[.slice none 0 0] 37)) 24 (.pointer (some ⟨g, 0, none⟩))).alloc (.cells #[.int .i64 now] 3)
    rw [s2] at this
    rw [hw3]; exact this
  have b3 : Boxed w3 (w.heap.size + 1 + 1 + 1) 3 (.int .i64 now) := by
    have := Boxed.new (((w.alloc (.cells #[.int .i64 now] 3)).alloc (.cells #[.slice none 0 0] 37)).alloc (.cells #[.pointer (some ⟨g, 0, none⟩)] 24)) 3 (.int .i64 now)
    rw [s3] at this
    rw [hw3]; exact this
  have hT3 := HD.out.later hB3
  clear hw3 s1 s2 s3
  have hgw := HD.out.glt
  have hqw : ∀ k, TQ g bS bN bW P B.l k → k < w3.heap.size := hT3.lt
  have hPw : ∀ o ∈ B.l, P o.m.xid < w3.heap.size := fun o ho => hT3.lt _ (.inr (.inr (.inr (.inr ⟨o, ho, rfl⟩))))
  have hSlt : ∀ k, (k = w.heap.size + 1 + 1 ∨ k = g ∨ k = bS) → k < w3.heap.size := by
    rintro k (e | e | e)
    · omega
    · omega
    · have := HD.out.s.lt; omega
  have hI0 : TickI w w3 g bS bN bW P B now (w.heap.size + 1) w.heap.size [] w3 := ⟨⟨_, b1, ⟨rfl, .inl ⟨rfl, rfl⟩⟩, trivial⟩, b0, by
    have e : B.l.map (sentF now (outs ([] : List (Upd B.l)))) = B.l := by
      conv => rhs; rw [← List.map_id B.l]
      refine List.map_congr_left fun o _ => ?_
      unfold sentF
      rw [if_neg (by simp [outs])]
      rfl
    rw [e]
    exact hT3, OthT.of_low hB3, Nat.le_refl _⟩
  refine range_ends (F := Fence.wide) (α := Upd B.l) rfl (by omega) (gf := 42) (lb := #[.pointer (some ⟨w.heap.size + 1 + 1, 0, none⟩), .pointer (some ⟨w.heap.size + 1 + 1 + 1, 0, none⟩)]) (by simp [Act.eval]) trivial (enters_of Try.func42 (by kernel_rfl) rfl)
    (due_ends 2 (by omega) (w.heap.size + 1 + 1) (w.heap.size + 1 + 1 + 1) g bS bN bW (fun k => k = w.heap.size + 1 + 1 ∨ k = g ∨ k = bS) P B now h0 h1 HOK.out w3 ⟨.inl rfl, .inr (.inl rfl), .inr (.inr rfl)⟩ b2 b3 hT3) kpd_t (fun V => kpd_b hSlt hPw V) ?bS ?bSp (Below.refl _ _) (fun _ => rfl)
    (TickI w w3 g bS bN bW P B now (w.heap.size + 1) w.heap.size) (fun _ _ _ => False) (tickI_own hB3.size hqw) (fun c => ownFrom_pure _ (fun _ => False)) hI0
    (fun x V => { tmps := #[.pointer (some ⟨g, 0, none⟩), .int .i64 now, undef, .pointer (some ⟨w.heap.size, 0, none⟩), .slice none 0 0, .int .i64 0, .pointer (some ⟨w.heap.size + 1, 0, none⟩), .pointer (some ⟨P x.1.m.xid, 0, none⟩), .int .i64 now, .bool false, .bool false, .int .i64 now, .bool false, .bool false, .pointer (some ⟨g, 0, none⟩), .int .i64 now, .func (.func 42) #[] #[.pointer (some ⟨w.heap.size + 1 + 1, 0, none⟩), .pointer (some ⟨w.heap.size + 1 + 1 + 1, 0, none⟩)], .pointer (some ⟨P x.1.m.xid, 0, none⟩), undef, undef, undef, undef, undef, undef, undef, undef, undef, undef, undef, undef], defers := [] })
    (fun x V => V) (fun x V => World.grownBy.refl V _) (fun x V hV => KpD.refl _) (fun x V U => True) (fun x V => trivial) ?bG ?assign ?body ?done ?stop
  case bS => exact fun xs => came_b hPw xs
  case bSp => exact fun xs V l o o' h _ _ _ => h
  case bG => exact fun x V V' l o o' h _ _ _ => trivial
  case assign =>
    intro l x V K hK
    clear z3 hI0
    simp only [encU]
    gi_wp2
    exact hK
  case stop =>
    rintro D c pre V _ _ h _
    exact h.elim
  case body =>
    rintro l pre x V U - hI - hV hU hplen
    obtain ⟨⟨v, hv, hrow, -⟩, hn, hT, hO, hsz⟩ := hI
    obtain ⟨A9, c9, rfl, -⟩ := own_form hrow
    have hlo : (outs pre).length = pre.length := by unfold outs; rw [List.length_map]
    have hpx : P x.1.m.xid < w.heap.size := (HD.out.at_ x.1 x.2).lt
    obtain ⟨t, hm⟩ : ∃ t, UBox U (P x.1.m.xid) ⟨x.1.m, t⟩ := ⟨_, by
      have h2 := hT.at_ _ (List.mem_map.2 ⟨x.1, x.2, rfl⟩)
      unfold atV at h2
      rw [sent_f] at h2
      exact h2⟩
    obtain ⟨U1, hU1⟩ : ∃ U1, U1 = U.setCell ⟨P x.1.m.xid, 11, none⟩ (.int .i64 now) := ⟨_, rfl⟩
    have hk1 : ∀ k, k ≠ P x.1.m.xid → U1.heap[k]? = U.heap[k]? := fun k hk => by rw [hU1]; exact Below.heap_setCell U ⟨P x.1.m.xid, 11, none⟩ _ k hk
    have hz1 : U1.heap.size = U.heap.size := by rw [hU1]; exact World.size_setCell _ _ _
    have hm1 : UBox U1 (P x.1.m.xid) ⟨x.1.m, now⟩ := by rw [hU1]; exact hm.mark now
    have hnl : w.heap.size + 1 ≠ P x.1.m.xid := by omega
    have hv1 : Boxed U1 (w.heap.size + 1) 37 (.slice A9 (outs pre).length c9) := (hk1 _ hnl).trans hv
    have hrow1 : U1.ownsRow w3.heap.size ElemM.e ElemM.m (.slice A9 (outs pre).length c9) (outs pre).length (ecells ElemM ((outs pre).map (·.m))) := own_keep hrow fun b hb => hk1 b (by have := hrow.lt b hb; omega)
    have u11 := hm.all.2
    have f11 := hm.free 11
    have d0 := hn.cell
    have HT := Lib.hid hT
    have HM := Lib.hid hm
    have HU1 := Lib.hid hU1
    have HO := Lib.hid hO
    have HN := Lib.hid hn
    have HV := Lib.hid hv
    have HROW := Lib.hid hrow
    have HK1 := Lib.hid hk1
    have HM1 := Lib.hid hm1
    have HV1 := Lib.hid hv1
    have HROW1 := Lib.hid hrow1
    clear hI0 hT hm hU1 hO hn hv hrow hk1 hm1 hv1 hrow1
    gi_wp2_with fail
    rw [← HU1.out]
    refine appended_in l _ _ _ U1 (w.heap.size + 1) (P x.1.m.xid) w3.heap.size (outs pre).length x.1.m A9 c9 _ ⟨by simp, rfl, rfl⟩ HV1.out.cell HV1.out HM1.out.all.1 HROW1.out (by omega) (by omega) ?_
    intro a' U3 Ar cr hown3 hg3
    obtain ⟨bo3, bo4, -, ko, hbl⟩ := Boxed.appended (W := U1.drew) (n₀ := w.heap.size) HV1.out (by decide) (own_less HROW1.out (by omega)) (by show w.heap.size ≤ U1.heap.size; omega) (by omega) (own_less hown3 (by omega)) hg3
    obtain ⟨U4, hU4⟩ : ∃ U4, U4 = U3.setCell ⟨w.heap.size + 1, 0, none⟩ (.slice Ar ((outs pre).length + 1) cr) := ⟨_, rfl⟩
    have r4 : U4.ownsRow w3.heap.size ElemM.e ElemM.m (.slice Ar ((outs pre).length + 1) cr) ((outs pre).length + 1) (ecells ElemM ((outs pre).map (·.m)) ++ ecells ElemM [x.1.m]) := by
      rw [hU4]
      exact hown3.kept (grownBy_setCell' U3 (w.heap.size + 1) _) (.inr (bo3.not_row (by decide) hown3).symm)
    have hb1 : ∀ k, k < U.heap.size → k ≠ w.heap.size + 1 → (Value.slice A9 (outs pre).length c9).ownBlock ≠ some k → U4.heap[k]? = U1.heap[k]? := fun k hk h2 h3 => by
      rw [hU4]
      refine (Below.heap_setCell U3 ⟨w.heap.size + 1, 0, none⟩ _ k h2).trans ((hg3.block k ?_ (fun e => h3 e.symm)).trans (Below.heap_alloc U1.drew _ k ?_))
      · rw [World.size_alloc]
        show k < U1.heap.size + 1
        omega
      · show k < U1.heap.size
        omega
    have hrl := HROW.out.lt
    have hb : ∀ k, k < U.heap.size → k ≠ P x.1.m.xid → k ≠ w.heap.size + 1 → (Value.slice A9 (outs pre).length c9).ownBlock ≠ some k → U4.heap[k]? = U.heap[k]? := fun k hk h1 h2 h3 => (hb1 k hk h2 h3).trans (HK1.out k h1)
    have hlow : ∀ k, k < w3.heap.size → (Value.slice A9 (outs pre).length c9).ownBlock ≠ some k := fun k hk e => by
      have := (hrl k e).1
      omega
    rw [← hU4] at bo4 ko hbl
    rw [← hU4]
    have hsz4 : U.heap.size ≤ U4.heap.size := by
      have h2 := ko.size
      have h2 : U1.heap.size ≤ U4.heap.size := h2
      omega
    have hqp : TQ g bS bN bW P B.l (P x.1.m.xid) := .inr (.inr (.inr (.inr ⟨x.1, x.2, rfl⟩)))
    clear hown3 hg3
    refine ⟨?_, ⟨hsz4, ?_, ?_, ?_⟩, ⟨⟨_, bo4, ?_, trivial⟩, ?_, ?_, ?_, by omega⟩⟩
    · have k1 : KeepsOthers U U1 := by rw [HU1.out]; exact KeepsOthers.setCell U _ _
      have k2 : KeepsOthers U1 U4 := ⟨ko.size, ko.same⟩
      exact (k1.trans k2).from _
    · rintro k hk
      have hkl := hSlt k hk
      refine hb k (by omega) ?_ ?_ (hlow k hkl)
      · rcases hk with e | e | e
        · omega
        · rw [e]; exact fun e2 => HD.out.ug x.2 e2.symm
        · rw [e]; exact fun e2 => HD.out.s.ne (HD.out.at_ x.1 x.2) e2.symm
      · rcases hk with e | e | e
        · omega
        · omega
        · have := HD.out.s.lt; omega
    · intro k cs fr hk
      refine (hb k (Array.getElem?_eq_some_iff.1 hk).1 (fun e => ?_) (fun e => ?_) (own_other HROW.out hk (by decide))).trans hk
      · have h2 := HM.out
        unfold UBox at h2
        rw [← e, hk] at h2
        injection h2 with h2
        injection h2 with _ h2
        exact absurd h2 (by decide)
      · have h2 := HV.out
        unfold Boxed at h2
        rw [← e, hk] at h2
        injection h2 with h2
        injection h2 with _ h2
        exact absurd h2 (by decide)
    · intro o ho
      have hol : P o.m.xid < w.heap.size := (HD.out.at_ o ho).lt
      by_cases hox : o.m.xid = x.1.m.xid
      · right
        rw [ok_same HOK.out ho x.2 hox]
        exact HM1.out.block (hb1 _ (by omega) (by omega) (hlow _ (by omega)))
      · left
        exact hb _ (by omega) (fun e => hox (HD.out.inj o ho x.1 x.2 e)) (by omega) (hlow _ (by omega))
    · rw [outs_snoc, List.map_append, ecells_append, List.length_append]
      exact r4
    · exact (hb w.heap.size (by omega) (by omega) (by omega) (hlow _ (by omega))).trans HN.out
    · have h2 := HT.out.mark (x := x.1.m.xid) (t := now) (nowF x.1.m.xid now) ⟨_, List.mem_map.2 ⟨x.1, x.2, rfl⟩, by rw [sent_f]⟩ (now_m _ _) (fun q _ e => by
        unfold nowF
        rw [if_pos e]
        unfold atO
        rw [if_neg (by show ¬ now < 0; omega)]) (fun q _ e => by unfold nowF; rw [if_neg e])
      rw [sent_snoc HOK.out, ← HU1.out] at h2
      refine h2.keep ?_
      rw [tq_map _ _ (sent_f _ _)]
      have hpl : ∀ k, TQ g bS bN bW P B.l k → k < w.heap.size := HD.out.lt
      exact ⟨hbl.os, hbl.tape, hbl.output, by omega, fun k hk => hb1 k (by have := hpl k hk; omega) (by have := hpl k hk; omega) (hlow k (hqw k hk))⟩
    · have h2 := HO.out
      have e1 : U1.os = U.os ∧ U1.tape = U.tape ∧ U1.output = U.output := by rw [HU1.out]; exact ⟨rfl, rfl, rfl⟩
      exact ⟨hbl.os.trans (e1.1.trans h2.os), hbl.tape.trans (e1.2.1.trans h2.tape), hbl.output.trans (e1.2.2.trans h2.output), Nat.le_trans h2.size hsz4, fun k hk hn => (hb k (by omega) (fun e => hn (e ▸ hqp)) (by omega) (hlow k (by omega))).trans (h2.block k hk hn)⟩
  case done =>
    rintro D xs V hD hC hI hKD
    obtain ⟨⟨v, hv, hrow, -⟩, -, hT, hO, hsz⟩ := hI
    have hnd : (B.l.filter (dueA now)).Nodup := List.Nodup.sublist List.filter_sublist (HOK.out.rise.imp fun {o p} e e2 => by rw [e2] at e; omega)
    have hxs : outs xs = B.l.filter (dueA now) := sub_all hC.1 hnd fun o ho => by
      obtain ⟨hol, hod⟩ := List.mem_filter.1 ho
      refine Classical.byContradiction fun hn => ?_
      rcases hC.2 o hol hod with h2 | h2
      · exact hn h2
      · have h3 := hT.at_ _ (List.mem_map.2 ⟨o, hol, rfl⟩)
        unfold sentF at h3
        rw [if_neg hn] at h3
        unfold UBox at h2 h3
        rw [h2] at h3
        injection h3 with h3
        injection h3 with h3
        have h4 : now = atO o := by
          have := congrArg (fun a : Array Value => a[11]?) h3
          simp [atV] at this
          exact this
        have h5 := of_decide_eq_true hod
        omega
    have hdue : B.l.filter (dueA now) = B.l.filter (dueO now) := List.filter_congr fun o _ => due_a h0 o
    have htold : (outs xs).map (·.m) = B.told now := by rw [hxs, hdue]; rfl
    have htick : B.l.map (sentF now (outs xs)) = B.l.map (sentO now) := List.map_congr_left fun o ho => by
      unfold sentF sentO
      rw [hxs]
      by_cases hd : dueO now o = true
      · rw [if_pos hd, if_pos (List.mem_filter.2 ⟨ho, by rw [due_a h0]; exact hd⟩)]
      · rw [if_neg hd, if_neg (fun h2 => hd (by rw [← due_a h0]; exact (List.mem_filter.1 h2).2))]
    rw [htick] at hT
    have hln : (outs xs).length = (B.told now).length := by rw [← htold, List.length_map]
    rw [htold, hln] at hrow
    obtain ⟨A9, c9, rfl, -⟩ := own_form hrow
    have d0 := hv.cell
    have hDw : w.heap.size ≤ D := by omega
    have HV := Lib.hid (own_less (ownsRow_putObj hrow (.deferred none) hKD rfl) (by omega : w.heap.size ≤ w3.heap.size))
    have HTT : Hid (TBt (V.putObj D (.deferred none)) g bS bN bW P (B.ticked now)) := Lib.hid (hT.keep ⟨rfl, rfl, rfl, by rw [World.putObj_size]; exact Nat.le_refl _, fun k hk => World.putObj_heap_other (by
      have h2 : TQ g bS bN bW P B.l k := by
        have := hk
        rw [tq_map _ _ (sent_m _)] at this
        exact this
      have := HD.out.lt k h2
      omega)⟩)
    have HOO : Hid (Way (TQ g bS bN bW P B.l) w (TQ g bS bN bW P B.l) (V.putObj D (.deferred none))) := Lib.hid ⟨⟨hO.os, hO.tape, hO.output, by rw [World.putObj_size]; exact hO.size, fun k hk hn => (World.putObj_heap_other (by omega)).trans (hO.block k hk hn)⟩, fun _ h => .inl h⟩
    clear hI0 hC hnd hxs hdue htold htick hT hO hv hrow z3 hB3 b0 b1 b2 b3 hT3
    gi_wp2
    refine ⟨by simp, .inl ⟨_, _, rfl, run_takeDeferred hKD, ?_⟩⟩
    exact ⟨_, results_tmp2 rfl _ _ _, A9, c9, rfl, HV.out, HTT.out, HOO.out⟩
end Go.Proofs.Ytekladmddfibaaa
