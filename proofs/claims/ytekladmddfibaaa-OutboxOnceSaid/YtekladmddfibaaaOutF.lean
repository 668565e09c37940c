/- The program's box: what is due, one by one (due$1). -/
import Derived.Test.YtekladmddfibaaaOutE
import Derived.Test.YtekladmddfibaaaRangeF
import Derived.BigQuiet
import Derived.BigRegionIn
import Derived.Stop.RegionWithIn
import Derived.Sort.QuietIn
import Derived.Sort.CutIn
namespace Go.Proofs.Ytekladmddfibaaa
open Go.RowKit Go.Sort Go.Maps Go.Shelf
attribute [local go_sem] Oper.semAt_some

def dueA (now : Int) (o : OutV) : Bool := decide (3 ≤ now - atO o)
theorem due_a {now : Int} (h0 : 0 ≤ now) (o : OutV) : dueA now o = dueO now o := by
  unfold dueA dueO atO
  rw [decide_eq_decide]
  split
  · constructor
    · intro _; left; assumption
    · intro _; omega
  · constructor
    · intro h; right; exact h
    · rintro (h | h)
      · omega
      · exact h
/-- What a round keeps: some blocks, all rows of numbers; an update is as it was, or was sent now. -/
structure KpD (Sx : Nat → Prop) (P : Int → Nat) (l : List OutV) (now : Int) (V V' : World) : Prop where
  size : V.heap.size ≤ V'.heap.size
  block : ∀ k, Sx k → V'.heap[k]? = V.heap[k]?
  ints : ∀ (k : Nat) (cs : Array Value) (fr : Nat × Nat), V.heap[k]? = some (.cells cs 3 fr) → V'.heap[k]? = some (.cells cs 3 fr)
  mark : ∀ o ∈ l, V'.heap[P o.m.xid]? = V.heap[P o.m.xid]? ∨ UBox V' (P o.m.xid) ⟨o.m, now⟩
section
variable {Sx : Nat → Prop} {P : Int → Nat} {l : List OutV} {now : Int} {V V' V'' : World}
theorem KpD.refl (V : World) : KpD Sx P l now V V := ⟨Nat.le_refl _, fun _ _ => rfl, fun _ _ _ h => h, fun _ _ => .inl rfl⟩
theorem kpd_t {A B C : World} (h : KpD Sx P l now A B) (k : KpD Sx P l now B C) : KpD Sx P l now A C :=
  ⟨Nat.le_trans h.size k.size, fun i hi => (k.block i hi).trans (h.block i hi), fun i cs fr hi => k.ints i cs fr (h.ints i cs fr hi), fun o ho => by
    rcases k.mark o ho with h2 | h2
    · rcases h.mark o ho with h1 | h1
      · exact .inl (h2.trans h1)
      · exact .inr (h1.block h2)
    · exact .inr h2⟩
theorem KpD.drewN (V : World) (n : Nat) : KpD Sx P l now V (V.drewN n) := ⟨Nat.le_refl _, fun _ _ => rfl, fun _ _ _ h => h, fun _ _ => .inl rfl⟩
/-- What an update holds, later. -/
theorem KpD.u (h : KpD Sx P l now V V') {o : OutV} (ho : o ∈ l) (hu : UBox V (P o.m.xid) (atV o)) : ∃ t, UBox V' (P o.m.xid) ⟨o.m, t⟩ ∧ (t = atO o ∨ t = now) := by
  rcases h.mark o ho with h1 | h1
  · exact ⟨atO o, hu.block h1, .inl rfl⟩
  · exact ⟨now, h1, .inr rfl⟩
theorem kpd_b {B : Nat} (hS : ∀ k, Sx k → k < B) (hP : ∀ o ∈ l, P o.m.xid < B) (V : World) : Booked B (KpD Sx P l now V) := fun V' j o o' h hl ho hc => by
  have hne : ∀ k, k ≠ j → (V'.putObj j o').heap[k]? = V'.heap[k]? := fun k hk => World.putObj_heap_other hk
  refine ⟨by rw [World.putObj_size]; exact h.size, fun k hk => (hne k (by have := hS k hk; omega)).trans (h.block k hk), fun k cs fr hk => ?_, fun q hq => ?_⟩
  · have h1 := h.ints k cs fr hk
    refine (hne k (fun e => ?_)).trans h1
    rw [e, ho] at h1
    injection h1 with h1
    rw [h1] at hc
    cases hc
  · have h2 := hne (P q.m.xid) (by have := hP q hq; omega)
    rcases h.mark q hq with h1 | h1
    · exact .inl (h2.trans h1)
    · exact .inr (h1.block h2)
end

/-- An update that is outstanding. -/
abbrev Upd (l : List OutV) := { o : OutV // o ∈ l }
def encU (P : Int → Nat) {l : List OutV} (x : Upd l) : Array Value := #[.pointer (some ⟨P x.1.m.xid, 0, none⟩)]
def outs {l : List OutV} (xs : List (Upd l)) : List OutV := xs.map Subtype.val
theorem outs_snoc {l : List OutV} (xs : List (Upd l)) (x : Upd l) : outs (xs ++ [x]) = outs xs ++ [x.1] := by simp [outs]
/-- What came: of what is due all that had not been sent now. -/
def Came (P : Int → Nat) (l k : List OutV) (now : Int) (xs : List (Upd l)) (V : World) : Prop := (outs xs).Sublist (k.filter (dueA now)) ∧ ∀ o ∈ k, dueA now o = true → o ∈ outs xs ∨ UBox V (P o.m.xid) ⟨o.m, now⟩
theorem Came.keep {Sx : Nat → Prop} {P : Int → Nat} {l k : List OutV} {now : Int} {xs : List (Upd l)} {V V' : World} (h : Came P l k now xs V) (hs : ∀ o ∈ k, o ∈ l) (hk : KpD Sx P l now V V') : Came P l k now xs V' :=
  ⟨h.1, fun o ho hd => by
    rcases h.2 o ho hd with h1 | h1
    · exact .inl h1
    · rcases hk.mark o (hs o ho) with h2 | h2
      · exact .inr (h1.block h2)
      · exact .inr h2⟩
/-- The numbers, as they lie. -/
def RowX (V : World) (v : Value) (xs : List Int) : Prop := ∃ (A : Option Addr) (c : Nat), v = Value.slice A xs.length c ∧ ∀ (j : Nat) (x : Int), xs[j]? = some x → ∃ (gb : Nat) (cs : Array Value) (fr : Nat × Nat), A = some ⟨gb, 0, none⟩ ∧ V.heap[gb]? = some (.cells cs 3 fr) ∧ cs[j]? = some (Value.int IntKind.i64 x)
theorem RowX.keep {Sx : Nat → Prop} {P : Int → Nat} {l : List OutV} {now : Int} {V V' : World} {v : Value} {xs : List Int} (h : RowX V v xs) (hk : KpD Sx P l now V V') : RowX V' v xs := by
  obtain ⟨A, c, hv, h1⟩ := h
  refine ⟨A, c, hv, fun j x hx => ?_⟩
  obtain ⟨gb, cs, fr, h2, h3, h4⟩ := h1 j x hx
  exact ⟨gb, cs, fr, h2, hk.ints gb cs fr h3, h4⟩
theorem RowX.of_own {w : World} {base : Nat} {v : Value} {xs : List Int} (h : w.ownsRow base 3 1 v xs.length (xs.map encZ)) : RowX w v xs := by
  rcases h.2 with ⟨rfl, hz⟩ | ⟨gb, cap, cur, rfl, hbase, hgb, r1, r2, r3, r4⟩
  · have : xs = [] := List.eq_nil_of_length_eq_zero hz
    subst this
    exact ⟨none, 0, rfl, fun j x hx => by simp at hx⟩
  · refine ⟨_, cap, rfl, fun j x hx => ⟨gb, cur, _, rfl, hgb, ?_⟩⟩
    have hj : j < xs.length := (List.getElem?_eq_some_iff.1 hx).1
    have h1 : (List.take (xs.length * 1) cur.toList)[j]? = some (Value.int IntKind.i64 x) := by
      rw [r4, List.getElem?_map, hx]
      rfl
    rw [List.getElem?_take, if_pos (by omega), Array.getElem?_toList] at h1
    exact h1
theorem fs_at {w : World} {b : Nat} {f : Int → Option Nat} (h : FS.Holds w b f) (x : Int) (h0 : 0 ≤ x) (h1 : x < 4294967296) : (Instr.lookup 66 (.map (some b)) (.int .i64 x) false).run Try.prog w = .ok (FS.valF (f x)) w :=
  h.look x (by show (Lit.int IntKind.i64 x).wf = true; simp [Lit.wf, IntKind.min, IntKind.max, IntKind.bits, IntKind.signed]; omega)

theorem yield_case {e : Ending} {A C D : Prop} (h : (e = .returned (.bool true) ∧ A ∧ C) ∨ (e = .returned (.bool false) ∧ D)) : ∃ b, e = .returned (.bool b) ∧ ((b = true ∧ A ∧ C) ∨ (b = false ∧ D)) := by
  rcases h with ⟨h1, h2⟩ | ⟨h1, h2⟩
  · exact ⟨true, h1, .inl ⟨rfl, h2⟩⟩
  · exact ⟨false, h1, .inr ⟨rfl, h2⟩⟩

set_option maxRecDepth 100000 in
set_option maxHeartbeats 2000000 in
theorem due1_in (n : Nat) (hn : 1 ≤ n) (lp bb bn g bS bN bW : Nat) (Sx : Nat → Prop) (P : Int → Nat) (B : BxV) (now : Int) (h0 : 0 ≤ now) (h1 : now ≤ 1099511627776) (hok : B.Ok) (J Jx : List (Upd B.l) → World → Prop) (W : World)
    (hS : Sx bb ∧ Sx g ∧ Sx bS) (hJa : AbidesFrom W.heap.size J)
    (hY : ∀ pre x V, J pre V → pre.length < B.l.length → YieldAt Fence.wide (n - 1) Try.prog lp (encU P x) V fun e V' => (e = .returned (.bool true) ∧ J (pre ++ [x]) V' ∧ KpD Sx P B.l now V V') ∨ (e = .returned (.bool false) ∧ Jx (pre ++ [x]) V'))
    (b1 : Boxed W bb 24 (.pointer (some ⟨g, 0, none⟩))) (b2 : Boxed W bn 3 (.int .i64 now)) (hT : TBt W g bS bN bW P B) (hj : J [] W) :
    CallsIn Fence.wide n Try.prog 42 #[.func (.yield lp) #[] #[], .pointer (some ⟨bb, 0, none⟩), .pointer (some ⟨bn, 0, none⟩)] W fun e V => (∃ v, e = .returned v) ∧ ((∃ xs, Came P B.l B.l now xs V ∧ J xs V) ∨ (∃ pre, True ∧ Jx pre V)) := by
  have c1 := b1.cell
  have c0 := hT.cS
  have HK := Lib.hid (okeys_any (some bS) W)
  have HSO := Lib.hid (osorted_any hT.s hok)
  have HT := Lib.hid hT
  have HB1 := Lib.hid b1
  have HB2 := Lib.hid b2
  have HOK := Lib.hid hok
  have HSX := Lib.hid hS
  have hlen := hok.len
  clear hT b1 b2 hok hS
  refine callsIn_of_wp Try.func42 rfl trivial ?_ rfl
  simp only [Try.ntmps42, List.size_toArray, List.length_cons, List.length_nil, Nat.reduceAdd, Nat.reduceSub, Array.replicate_succ, Array.replicate_zero, List.push_toArray, List.append_toArray, List.nil_append, List.cons_append]
  gi_wp2_with fail
  refine ⟨trivial, (wideI HK.out).mono ?_⟩
  rintro e w1 ⟨rfl, rfl⟩
  gi_wp2_with fail
  refine ⟨trivial, (wideI HSO.out).mono ?_⟩
  rintro e w2 ⟨v, rfl, hrow, hb2⟩
  have hB2 : Below W.heap.size W w2 := ((Below.refl _ W).alloc (Nat.le_refl _) _).trans (hb2.mono (Nat.le_succ _))
  obtain ⟨A, c, rfl, hR⟩ := RowX.of_own hrow
  have hxl : (xidsB B).length = B.l.length := by unfold xidsB; rw [List.length_map]
  have hRX : RowX w2 (.slice A B.l.length c) (xidsB B) := by
    rw [← hxl]
    exact ⟨A, c, rfl, hR⟩
  rw [hxl]
  have HRX := Lib.hid hRX
  have HT2 := Lib.hid (HT.out.later hB2)
  have HU2 := Lib.hid (fun (o : OutV) (ho : o ∈ B.l) => HT2.out.at_ o ho)
  have HBB := Lib.hid ((hB2.block bb HB1.out.lt).trans HB1.out : Boxed w2 bb 24 (.pointer (some ⟨g, 0, none⟩)))
  have HBN := Lib.hid ((hB2.block bn HB2.out.lt).trans HB2.out : Boxed w2 bn 3 (.int .i64 now))
  have hj2 : J [] w2 := hJa _ _ _ none hj (grown_of_belowI hB2) (fun r e => by cases e)
  clear hrow hb2 hB2 hR hxl hRX HT HB1 HB2 HK HSO c0 c1 hj
  gi_wp2_with fail
  gi_loopw [14] (fun iv V => ∃ (j : Nat) (pre : List (Upd B.l)), j ≤ B.l.length ∧ iv = .int .i64 j ∧ pre.length ≤ j ∧ J pre V ∧ Hid (KpD Sx P B.l now w2 V) ∧ Hid (Came P B.l (B.l.take j) now pre V)) (fun iv _ => B.l.length - (intOf iv).toNat)
  case atStart => exact ⟨0, [], Nat.zero_le _, rfl, Nat.le_refl _, hj2, Lib.hid (KpD.refl _), Lib.hid ⟨by simp [outs], by simp⟩⟩
  case round =>
    clear hj2
    obtain ⟨j, pre, hj, rfl, hpl, hJ, HKP, HC⟩ := hrel
    by_cases hlt : j < B.l.length
    · obtain ⟨o, ho⟩ : ∃ o, B.l[j]? = some o := ⟨_, List.getElem?_eq_getElem hlt⟩
      have hmem : o ∈ B.l := List.mem_of_getElem? ho
      obtain ⟨gb, cs, fr, rfl, hgb, hcs⟩ : ∃ (gb : Nat) (cs : Array Value) (fr : Nat × Nat), A = some ⟨gb, 0, none⟩ ∧ wr.heap[gb]? = some (.cells cs 3 fr) ∧ cs[j]? = some (Value.int IntKind.i64 o.m.xid) := by
        obtain ⟨A', c', e, h2⟩ := HRX.out.keep HKP.out
        injection e with e1 e2 e3
        subst e1
        exact h2 j o.m.xid (by unfold xidsB; rw [List.getElem?_map, ho]; rfl)
      have k0 := (cell_of_row wr gb j _ _ _ hgb).trans hcs
      have hx0 : 0 ≤ o.m.xid ∧ o.m.xid < 4294967296 := by have := HOK.out.rng o hmem; have := HOK.out.x1; omega
      have hk1 := (HKP.out.block bb HSX.out.1).trans HBB.out
      have c1 := Boxed.cell (t := 24) hk1
      have hk2 : Boxed wr bn 3 (.int .i64 now) := HKP.out.ints bn _ _ HBN.out
      have c2 := hk2.cell
      have c0 := cell_of_row wr g 0 _ _ _ ((HKP.out.block g HSX.out.2.1).trans HT2.out.box)
      simp at c0
      have hs := HT2.out.s.block (HKP.out.block bS HSX.out.2.2)
      have hlk0 := fs_at hs o.m.xid hx0.1 hx0.2
      rw [sF_iff.2 ⟨⟨o, hmem, rfl⟩, rfl⟩] at hlk0
      have hlk : (Instr.lookup 66 (.map (some bS)) (.int .i64 o.m.xid) false).run Try.prog wr = .ok (.pointer (some ⟨P o.m.xid, 0, none⟩)) wr := hlk0
      obtain ⟨t, hu, ht⟩ := HKP.out.u hmem (HU2.out o hmem)
      have hts : -3 ≤ t ∧ t ≤ 1099511627776 := by
        have h2 := HOK.out.sent o hmem
        rcases ht with e | e
        · rw [e]
          unfold atO
          split <;> omega
        · omega
      obtain ⟨ht0, ht1⟩ := hts
      have u11 := hu.all.2
      have HU := Lib.hid hu
      have HTT := Lib.hid ht
      have HO := Lib.hid ho
      have HMEM := Lib.hid hmem
      obtain ⟨pz, hpz⟩ : ∃ pz, pz = P o.m.xid := ⟨_, rfl⟩
      rw [← hpz] at hlk u11
      have HPZ := Lib.hid hpz
      obtain ⟨x, hx⟩ : ∃ x, x = o.m.xid := ⟨_, rfl⟩
      rw [← hx] at hlk k0
      clear hgb hcs hx0 hk1 hk2 hs hlk0 hu ht ho hmem hpz hx
      by_cases hd : 3 ≤ now - t
      · have hd2 : decide (3 ≤ now - t) = true := by simpa using hd
        have hJ2 : J pre wr.drew := hJa _ _ _ none hJ (grown_of_belowI ⟨rfl, rfl, rfl, Nat.le_refl _, fun _ _ => rfl⟩) (fun r e => by cases e)
        obtain ⟨fn, tmps, assign, body, hy0, hRr⟩ := hY pre ⟨o, HMEM.out⟩ _ hJ2 (by omega)
        have hy : (Instr.yield lp #[.pointer (some ⟨pz, 0, none⟩)]).run Try.prog wr.drew = .ok (.round lp fn tmps assign body) wr.drew := by rw [HPZ.out]; exact hy0
        have HRr := Lib.hid hRr
        clear hy0 hRr hJ2
        gi_wp2
        have hwr : IntKind.i64.wrap (now - t) = now - t := by rw [IntKind.wrap_i64]; omega
        gi_region_with (refine HRr.out.mono ?_; rintro e V2 hcase; obtain ⟨bo, rfl, hcase2⟩ := yield_case hcase; clear hcase)
        all_goals
          clear HRr hy hlk c0 c1 c2 k0 u11 hwr
          have HCASE := Lib.hid hcase2
          clear hcase2
          cases bo
          · have HJX : Hid (Jx (pre ++ [⟨o, HMEM.out⟩]) V2) := Lib.hid (by
              rcases HCASE.out with ⟨e, -⟩ | ⟨-, h2⟩
              · cases e
              · exact h2)
            clear HCASE
            gi_wp2
            first | go_end0 | refine bodyPost_ret (results_none rfl _ _ _) rfl ?_
            exact ⟨⟨_, rfl⟩, .inr ⟨_, trivial, HJX.out⟩⟩
          · have HJK : Hid (J (pre ++ [⟨o, HMEM.out⟩]) V2 ∧ KpD Sx P B.l now wr.drew V2) := Lib.hid (by
              rcases HCASE.out with ⟨-, h2⟩ | ⟨e, -⟩
              · exact h2
              · cases e)
            clear HCASE
            have HKP3 := Lib.hid (kpd_t (kpd_t HKP.out (KpD.drewN wr 1)) HJK.out.2)
            have HC3 : Hid (Came P B.l (B.l.take (j + 1)) now (pre ++ [⟨o, HMEM.out⟩]) V2) := Lib.hid (by
              have h2 := HC.out.keep (fun q hq => List.mem_of_mem_take hq) (kpd_t (KpD.drewN (Sx := Sx) wr 1) HJK.out.2)
              have hdue : dueA now o = true := decide_eq_true (by
                rcases HTT.out with e | e
                · rw [← e]; exact hd
                · rw [e] at hd; omega)
              rw [take_snoc_of B.l j o HO.out]
              refine ⟨?_, fun q hq hdq => ?_⟩
              · rw [outs_snoc, List.filter_append, List.filter_cons, if_pos hdue]
                exact List.Sublist.append h2.1 (List.Sublist.refl _)
              · rw [outs_snoc]
                rcases List.mem_append.1 hq with hq | hq
                · rcases h2.2 q hq hdq with h3 | h3
                  · exact .inl (List.mem_append_left _ h3)
                  · exact .inr h3
                · exact .inl (List.mem_append_right _ hq))
            gi_wp2
            go_roundw
            case rel => exact ⟨j + 1, pre ++ [⟨o, HMEM.out⟩], by omega, by go_num, by rw [List.length_append, List.length_singleton]; omega, HJK.out.1, HKP3, HC3⟩
            case measure => simp [intOf]; omega
      · have hd2 : decide (3 ≤ now - t) = false := by simpa using hd
        gi_wp2
        have hwr : IntKind.i64.wrap (now - t) = now - t := by rw [IntKind.wrap_i64]; omega
        refine wpIn_region_quiet_lit rfl (by kernel_rfl) (by kernel_rfl) ?_
        iterate 10 gi_big_quiet_step (fail)
        refine BigFrame.wpQuietIn_skip (fun _ _ _ _ => trivial) rfl ?_
        go_simp
        iterate 2 gi_big_quiet_step (fail)
        refine wpQuietIn_nil ?_
        intro nq
        have HKP2 := Lib.hid (kpd_t HKP.out (KpD.drewN wr nq))
        have hJ2 : J pre (wr.drewN nq) := hJa _ _ _ none hJ (grown_of_belowI ⟨rfl, rfl, rfl, Nat.le_refl _, fun _ _ => rfl⟩) (fun r e => by cases e)
        have HC2 : Hid (Came P B.l (B.l.take (j + 1)) now pre (wr.drewN nq)) := Lib.hid (by
          have h2 := HC.out.keep (fun q hq => List.mem_of_mem_take hq) (KpD.drewN (Sx := Sx) wr nq)
          rw [take_snoc_of B.l j o HO.out]
          refine ⟨h2.1.trans (by rw [List.filter_append]; exact List.sublist_append_left _ _), fun q hq hdq => ?_⟩
          rcases List.mem_append.1 hq with hq | hq
          · exact h2.2 q hq hdq
          · rw [List.mem_singleton.1 hq] at hdq ⊢
            rcases HTT.out with e | e
            · exact absurd (of_decide_eq_true hdq) (by rw [← e]; omega)
            · exact .inr (by rw [← e]; exact HU.out))
        clear hJ hlk c0 c1 c2 k0 u11 hwr
        gi_wp2
        go_roundw
        case rel => exact ⟨j + 1, pre, by omega, by go_num, by omega, hJ2, HKP2, HC2⟩
        case measure => simp [intOf]; omega
    · obtain rfl : j = B.l.length := by omega
      have HC2 : Hid (Came P B.l B.l now pre wr) := Lib.hid (by have h2 := HC.out; rwa [List.take_of_length_le (Nat.le_refl _)] at h2)
      gi_wp2
      first | go_end0 | refine bodyPost_ret (results_none rfl _ _ _) rfl ?_
      exact ⟨⟨_, rfl⟩, .inl ⟨pre, HC2.out, hJ⟩⟩

theorem due_ends (n : Nat) (hn : 1 ≤ n) (bb bn g bS bN bW : Nat) (Sx : Nat → Prop) (P : Int → Nat) (B : BxV) (now : Int) (h0 : 0 ≤ now) (h1 : now ≤ 1099511627776) (hok : B.Ok) (w : World) (hS : Sx bb ∧ Sx g ∧ Sx bS)
    (b1 : Boxed w bb 24 (.pointer (some ⟨g, 0, none⟩))) (b2 : Boxed w bn 3 (.int .i64 now)) (hT : TBt w g bS bN bW P B) :
    SeqEnds Fence.wide n Try.prog 42 #[.pointer (some ⟨bb, 0, none⟩), .pointer (some ⟨bn, 0, none⟩)] (encU P) (KpD Sx P B.l now) (Came P B.l B.l now) (fun _ _ => True) B.l.length w := fun lp J Jx W hW hJ _ hY hj =>
  due1_in n hn lp bb bn g bS bN bW Sx P B now h0 h1 hok J Jx W hS hJ hY ((hW.block _ b1.lt).trans b1) ((hW.block _ b2.lt).trans b2) (hT.later hW) hj
end Go.Proofs.Ytekladmddfibaaa
