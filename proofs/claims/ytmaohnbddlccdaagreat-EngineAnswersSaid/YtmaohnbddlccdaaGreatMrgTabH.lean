/- Joined texts: TabH, TabI, TabC, TabQ, TabF, TabG. -/
import Derived.Test.YtmaohnbddlccdaaGreatMrgMapG
import Derived.Test.YtmaohnbddlccdaaGreatMrgTabP
import Derived.Carry
import Derived.Test.YtmaohnbddlccdaaGreatMrgAddrL
import Derived.Test.YtmaohnbddlccdaaGreatMrgSorG
import Derived.Test.YtmaohnbddlccdaaGreatMrgAddrA
import Derived.Deep.RegionLaw

/- The program's table: a map by addresses behind a pointer: how it lies, as a list of leases. -/
section
namespace Go.Proofs.YtmaohnbddlccdaaGreat
open Go.RowKit Go.Sort Go.Maps

/-- Leases by their addresses. -/
def KL : MapKd Tryz.prog LV where
  t := 93
  k := 23
  e := 42
  q := .u32
  key := fun x => (x.addr : Int)
  val := LV.v
  zero := zeroL.v
  und := Tryz.underlying93
  uk := Tryz.underlying23
  hz := fun w => by kernel_rfl
theorem wf_u32 {n : Nat} (h : n < 4294967296) : (Lit.int .u32 (n : Int)).wf = true := by
  simp [Lit.wf, IntKind.min, IntKind.max, IntKind.bits, IntKind.signed]
  omega
theorem kl_is (L : List LV) (a : Nat) : KL.isM L (a : Int) = (L.any fun y => y.addr == a) := by
  unfold MapKd.isM
  congr 1
  funext y
  show decide (((y.addr : Nat) : Int) = (a : Int)) = _
  by_cases h : y.addr = a
  · rw [h, decide_eq_true rfl, beq_self_eq_true]
  · rw [decide_eq_false (by omega), beq_false_of_ne h]
theorem kl_find (L : List LV) (a : Nat) : KL.findM L (a : Int) = L.find? fun y => y.addr == a := by
  unfold MapKd.findM
  congr 1
  funext y
  show decide (((y.addr : Nat) : Int) = (a : Int)) = _
  by_cases h : y.addr = a
  · rw [h, decide_eq_true rfl, beq_self_eq_true]
  · rw [decide_eq_false (by omega), beq_false_of_ne h]
theorem kl_get (L : List LV) (a : Nat) : (KL.at_ L (a : Int) = (getL L a).1.v) ∧ (getL L a).2 = (if KL.isM L (a : Int) = true then 0 else 4) := by
  unfold MapKd.at_
  rw [kl_find, kl_is]
  unfold getL
  cases h : L.find? fun y => y.addr == a with
  | none =>
    refine ⟨rfl, ?_⟩
    rw [if_neg]
    intro h2
    obtain ⟨y, hy, he⟩ := List.any_eq_true.1 h2
    exact (List.find?_eq_none.1 h y hy) he
  | some x =>
    refine ⟨rfl, ?_⟩
    rw [if_pos]
    exact List.any_eq_true.2 ⟨x, List.mem_of_find?_eq_some h, List.find?_some (p := fun y : LV => y.addr == a) h⟩

/-- Block g is the program's table: it points to a map of the leases L. -/
def TT (w : World) (Q : Nat → Prop) (g : Nat) (L : List LV) : Prop :=
  ∃ b, w.heap[g]? = some (.cells #[.map (some b)] 95 (0, 0)) ∧ KL.Has w b L ∧ TabL L ∧ L.length ≤ 256 ∧ (∀ x ∈ L, x.addr < 4294967296) ∧ Q = fun k => k = g ∨ k = b

theorem kl_set {L : List LV} (hT : TabL L) (x : LV) (hr : RightL x) : (KL.isM L (x.addr : Int) = true → setL L x = (KL.putM L x, 0)) ∧ (KL.isM L (x.addr : Int) = false → setL L x = (L, 4)) := by
  rw [kl_is]
  unfold setL
  rw [if_pos hr]
  cases hk : idxT L x.addr with
  | none =>
    have := idx_none hk
    refine ⟨fun h => ?_, fun _ => rfl⟩
    obtain ⟨y, hy, he⟩ := List.any_eq_true.1 h
    exact absurd (eq_of_beq he) (this y hy)
  | some k =>
    obtain ⟨y, hy, he⟩ := idx_some hk
    refine ⟨fun _ => ?_, fun h => ?_⟩
    · rw [MapKd.putM_at (K := KL) x L k y (hT.up.imp fun h => Int.ofNat_lt.2 h) hy (congrArg Int.ofNat he)]
    · rw [List.any_eq_false] at h
      exact absurd (beq_iff_eq.2 he) (h y (List.mem_of_getElem? hy))
theorem setL_len (L : List LV) (x : LV) : (setL L x).1.length = L.length := by
  unfold setL
  split
  · split
    · rfl
    · simp
  · rfl
theorem setL_mem {L : List LV} {x y : LV} (h : y ∈ (setL L x).1) : y ∈ L ∨ y = x := by
  unfold setL at h
  split at h
  · split at h
    · exact .inl h
    · rcases List.mem_or_eq_of_mem_set h with h | h
      · exact .inl h
      · exact .inr h
  · exact .inl h
end Go.Proofs.YtmaohnbddlccdaaGreat
end

/- table.those: the leases of which a predicate holds, one by one, in the order of a map. -/
section
namespace Go.Proofs.YtmaohnbddlccdaaGreat
open Go.RowKit Go.Sort Go.Maps Go.Shelf
attribute [local go_sem] Oper.semAt_some

theorem those_any (g : Nat) (fc : FuncId) (bs : Array Value) (w : World) :
    Calls Tryz.prog 157 #[.pointer (some ⟨g, 0, none⟩), .func (.func fc) #[] bs] w fun e w' => e = .returned (.func (.func 171) #[] #[.pointer (some ⟨w.heap.size, 0, none⟩), .pointer (some ⟨w.heap.size + 1, 0, none⟩)]) ∧
      w' = (w.alloc (.cells #[.pointer (some ⟨g, 0, none⟩)] 37)).alloc (.cells #[.func (.func fc) #[] bs] 107) := by
  go_enter Tryz.func157, Tryz.ntmps157
  go_wp2
  go_ret
  exact ⟨by simp, rfl⟩

/-- A closure that tells p of leases, wherever the blocks of S lie as they lay in w. -/
def TestsL (S : Nat → Prop) (w : World) (fc : FuncId) (bs : Array Value) (p : LV → Bool) : Prop :=
  ∀ (x : LV) (W : World), w.heap.size ≤ W.heap.size → (∀ k, S k → W.heap[k]? = w.heap[k]?) → Calls Tryz.prog fc (#[x.v] ++ bs) W fun e W' => e = .returned (.bool (p x)) ∧ Below W.heap.size W W'
def encLs (x : LV) : Array Value := #[x.v]

theorem perm_step (p : LV → Bool) {L pre R1 R2 : List LV} {x : LV} (h : (pre ++ (R1 ++ x :: R2).filter p).Perm (L.filter p)) : (p x = true → ((pre ++ [x]) ++ (R1 ++ R2).filter p).Perm (L.filter p)) ∧ (p x = false → (pre ++ (R1 ++ R2).filter p).Perm (L.filter p)) := by
  constructor
  · intro hp
    refine List.Perm.trans ?_ h
    rw [List.filter_append, List.filter_append, List.filter_cons, if_pos hp, List.append_assoc]
    refine List.Perm.append_left pre ?_
    exact (List.perm_middle (l₁ := R1.filter p) (l₂ := R2.filter p) (a := x)).symm
  · intro hp
    rwa [List.filter_append, List.filter_cons, if_neg (by simp [hp]), ← List.filter_append] at h

set_option maxRecDepth 100000 in
set_option maxHeartbeats 2000000 in
theorem those1_in (n : Nat) (hn : 1 ≤ n) (lp bt bi g b : Nat) (S : Nat → Prop) (L : List LV) (fc : FuncId) (bs : Array Value) (p : LV → Bool) (w : World) (hT : TestsL S w fc bs p) (eg : ∀ args w, (callFunc fc args).run Tryz.prog w = .ok (.enter fc args) w)
    (J Jx : List LV → World → Prop)
    (hY : ∀ pre x V, J pre V → pre.length < L.length → YieldAt Fence.wide (n - 1) Tryz.prog lp (encLs x) V fun e V' => (e = .returned (.bool true) ∧ J (pre ++ [x]) V' ∧ KpI S V V') ∨ (e = .returned (.bool false) ∧ Jx (pre ++ [x]) V'))
    (W : World) (hW : w.heap.size ≤ W.heap.size) (hkp : ∀ k, S k → W.heap[k]? = w.heap[k]?) (hS : ∀ k, S k → k < w.heap.size) (s1 : S bt) (s2 : S bi) (s3 : S g) (s4 : S b) (hJa : AbidesFrom W.heap.size J)
    (b1 : Boxed w bt 37 (.pointer (some ⟨g, 0, none⟩))) (b2 : Boxed w bi 107 (.func (.func fc) #[] bs)) (hg : w.heap[g]? = some (.cells #[.map (some b)] 95 (0, 0))) (hM : KL.Has w b L) (h0 : J [] W) :
    CallsIn Fence.wide n Tryz.prog 171 #[.func (.yield lp) #[] #[], .pointer (some ⟨bt, 0, none⟩), .pointer (some ⟨bi, 0, none⟩)] W fun e V => (∃ v, e = .returned v) ∧ ((∃ xs : List LV, xs.Perm (L.filter p) ∧ J xs V) ∨ (∃ pre, True ∧ Jx pre V)) := by
  have c1 : W.cell? ⟨bt, 0, none⟩ = some (.pointer (some ⟨g, 0, none⟩)) := Boxed.cell (t := 37) ((hkp _ s1).trans b1)
  have c2 := cell_of_row W g 0 _ _ _ ((hkp _ s3).trans hg)
  simp at c2
  have HM := Lib.hid (hM.block (hkp _ s4))
  have HS := Lib.hid hS
  have HK := Lib.hid hkp
  have HB2 := Lib.hid b2
  clear hM hkp b1 hg b2
  refine callsIn_of_wp Tryz.func171 rfl trivial ?_ rfl
  simp only [Tryz.ntmps171, List.size_toArray, List.length_cons, List.length_nil, Nat.reduceAdd, Nat.reduceSub, Array.replicate_succ, Array.replicate_zero, List.push_toArray, List.append_toArray, List.nil_append, List.cons_append]
  gi_wp2_with (first
    | (gi_at_range; refine wpListIn_rangeM KL HM.out rfl _ rfl rfl ?_; intro w0 hgo hg0 hs0)
    | gi_in)
  have hk0 : ∀ k, S k → w0.heap[k]? = w.heap[k]? := fun k hk => (hg0.block k (Nat.lt_of_lt_of_le (HS.out k hk) hW) (by simp)).trans (HK.out k hk)
  have HK0 := Lib.hid hk0
  have HG0 := Lib.hid hgo
  have hz0 : w.heap.size ≤ w0.heap.size := Nat.le_trans hW hg0.size
  have hj0 : J [] w0 := hJa _ _ _ none h0 hg0 (fun r e => by cases e)
  clear hk0 hgo hg0 hs0 c1 c2 HM h0 hS
  obtain ⟨r, hr⟩ : ∃ r, r = W.heap.size := ⟨_, rfl⟩
  have HR := Lib.hid hr
  rw [← hr] at HG0 ⊢
  clear hr
  go_frame
  gi_loopw [5] (fun _ wr => ∃ R pre : List LV, KL.Goes wr b r L R ∧ (pre ++ R.filter p).Perm (L.filter p) ∧ (∀ k, S k → wr.heap[k]? = w.heap[k]?) ∧ w.heap.size ≤ wr.heap.size ∧ J pre wr) (fun _ wr => wr.rangeLeft b r)
  case atStart => exact ⟨L, [], HG0.out, .refl _, HK0.out, hz0, hj0⟩
  case round =>
    obtain ⟨R, pre, hgo, hpm, hkp, hz, hJ⟩ := hrel
    have HG := Lib.hid hgo
    have HP := Lib.hid hpm
    have HKP := Lib.hid hkp
    clear hgo hpm hkp HG0 HK0 hj0
    gi_wp2_with (first
      | (gi_at_next; refine wpListIn_nextM KL HG.out rfl _ rfl rfl ?_ ?_)
      | gi_in)
    · intro hR0
      subst hR0
      gi_wp2
      go_end0
      exact ⟨⟨_, rfl⟩, .inl ⟨pre, by simpa using HP.out, hJ⟩⟩
    · intro x R1 R2 w2 hR hgo2 hg2 hs2 hen hlt
      subst hR
      have hj2 : J pre w2 := hJa _ _ _ (some r) hJ hg2 (fun q e => by cases e; exact ⟨Nat.le_of_eq HR.out.symm, HG.out.walk⟩)
      have hen2 : (Instr.entry (.pointer (some ⟨r, 0, none⟩))).run Tryz.prog w2 = .ok (.tuple #[.int .u32 (x.addr : Int), x.v]) w2 := hen
      have hk2 : ∀ k, S k → w2.heap[k]? = w.heap[k]? := fun k hk => (hg2.block k (Nat.lt_of_lt_of_le (HS.out k hk) hz) (fun e => by have := HS.out k hk; have := HR.out; injection e with e; omega)).trans (HKP.out k hk)
      obtain ⟨w3, hw3⟩ : ∃ w3, w3 = w2.alloc (.cells #[.int .u32 (x.addr : Int), .int .i64 x.bind, .string x.cb, .int .i64 x.unt, .int .i64 x.acked, .int .i64 x.told, .int .i64 x.at_, .int .i64 x.ver] 42) := ⟨_, rfl⟩
      have hX3 : LBox w3 w2.heap.size x := by rw [hw3]; exact LBox.new w2 x
      have hB3 : Below w2.heap.size w2 w3 := by rw [hw3]; exact (Below.refl _ _).alloc (Nat.le_refl _) _
      have hk3 : ∀ k, S k → w3.heap[k]? = w.heap[k]? := fun k hk => (hB3.block k (by have := HS.out k hk; omega)).trans (hk2 k hk)
      have hG3 : KL.Goes w3 b r L (R1 ++ R2) := hgo2.kept (grown_of_belowI hB3) (by simp) (by simp)
      have hlt3 : w3.rangeLeft b r < wr.rangeLeft b r := by
        rw [MapKd.Goes.left_walks KL hgo2 (KeepsWalks.of_grownBy (grown_of_belowI hB3) (fun j o e => by cases e))]
        exact hlt
      have hj3 : J pre w3 := hJa _ _ _ none hj2 (grown_of_belowI hB3) (fun q e => by cases e)
      have c3 : w3.cell? ⟨bi, 0, none⟩ = some (.func (.func fc) #[] bs) := Boxed.cell (t := 107) ((hk3 _ s2).trans HB2.out)
      have HW3 := Lib.hid hw3
      have HX3 := Lib.hid hX3
      have HB3 := Lib.hid hB3
      have HK3 := Lib.hid hk3
      have HG3 := Lib.hid hG3
      have HL3 := Lib.hid hlt3
      have hz3 : w.heap.size ≤ w3.heap.size := by have := hB3.size; omega
      have HI := Lib.hid (hT x w3 hz3 hk3)
      have HQ := Lib.hid (perm_step p HP.out)
      have HLEN : Hid (p x = true → pre.length < L.length) := Lib.hid (fun hp => by
        have h1 := HP.out.length_eq
        rw [List.filter_append, List.filter_cons, if_pos hp] at h1
        simp at h1
        have h2 := List.length_filter_le p L
        omega)
      clear hen hw3 hX3 hB3 hk3 hG3 hlt3 hk2 hj2 hgo2 hg2 hs2 hlt HKP HG HP
      obtain ⟨c0, c1, c2, c4, c5, c6, c7, c8⟩ := HX3.out.all
      rw [HW3.out] at c0 c1 c2 c3 c4 c5 c6 c7 c8
      gi_wp2_with fail
      rw [← HW3.out]
      clear c0 c1 c2 c3 c4 c5 c6 c7 c8
      refine ⟨trivial, (wideI HI.out).mono ?_⟩
      rintro e w4 ⟨rfl, hB4⟩
      have hX4 := HX3.out.later hB4
      have hk4 : ∀ k, S k → w4.heap[k]? = w.heap[k]? := fun k hk => (hB4.block k (by have := HS.out k hk; omega)).trans (HK3.out k hk)
      have hG4 := HG3.out.kept (grown_of_belowI hB4) (by simp) (by simp)
      have hj4 : J pre w4 := hJa _ _ _ none hj3 (grown_of_belowI hB4) (fun q e => by cases e)
      have hlt4 : w4.rangeLeft b r < wr.rangeLeft b r := by
        rw [MapKd.Goes.left_walks KL HG3.out (KeepsWalks.of_grownBy (grown_of_belowI hB4) (fun j o e => by cases e))]
        exact HL3.out
      have HK4 := Lib.hid hk4
      have HG4 := Lib.hid hG4
      have HL4 := Lib.hid hlt4
      have hz4 : w.heap.size ≤ w4.heap.size := by have := hB4.size; omega
      obtain ⟨c0, c1, c2, c3, c4, c5, c6, c7⟩ := hX4.all
      clear hB4 hX4 hk4 hG4 hlt4 hj3 HI HX3 HB3 HK3 HG3 HL3 HW3
      cases hp : p x with
      | false =>
        have HQ2 := Lib.hid (HQ.out.2 hp)
        clear HQ HLEN hY hp
        gi_wp2
        refine ⟨fun _ h => (by cases h), ?_⟩
        gi_wp2
        go_roundw
        case rel => exact ⟨R1 ++ R2, pre, HG4.out, HQ2.out, HK4.out, hz4, hj4⟩
        case measure => exact HL4.out
      | true =>
        have HQ2 := Lib.hid (HQ.out.1 hp)
        obtain ⟨fn, tmps, assign, body, hy0, hRr⟩ := hY pre x w4 hj4 (HLEN.out hp)
        have hy : (Instr.yield lp #[x.v]).run Tryz.prog w4 = .ok (.round lp fn tmps assign body) w4 := hy0
        have HRr := Lib.hid hRr
        clear HQ HLEN hY hp hy0 hRr
        gi_wp2
        refine HRr.out.mono ?_
        rintro e V3 (⟨rfl, hJ3, hk3⟩ | ⟨rfl, hJx3⟩)
        · gi_wp2
          go_roundw
          case rel => exact ⟨R1 ++ R2, pre ++ [x], HG4.out.walks KL hk3.walks, HQ2.out, fun k hk => (hk3.block k hk).trans (HK4.out k hk), Nat.le_trans hz4 hk3.walks.size, hJ3⟩
          case measure =>
            rw [MapKd.Goes.left_walks KL HG4.out hk3.walks]
            exact HL4.out
        · gi_wp2
          refine bodyPost_ret (results_none rfl _ _ _) rfl ?_
          exact ⟨⟨_, rfl⟩, .inr ⟨_, trivial, hJx3⟩⟩

/-- The blocks that the iterator reads. -/
def IterS (bt bi g b : Nat) (S : Nat → Prop) : Nat → Prop := fun k => k = bt ∨ k = bi ∨ k = g ∨ k = b ∨ S k
theorem those_stops (n : Nat) (hn : 1 ≤ n) (bt bi g b : Nat) (S : Nat → Prop) (L : List LV) (fc : FuncId) (bs : Array Value) (p : LV → Bool) (w : World) (hT : TestsL S w fc bs p) (eg : ∀ args w, (callFunc fc args).run Tryz.prog w = .ok (.enter fc args) w)
    (hS : ∀ k, S k → k < w.heap.size) (b1 : Boxed w bt 37 (.pointer (some ⟨g, 0, none⟩))) (b2 : Boxed w bi 107 (.func (.func fc) #[] bs)) (hg : w.heap[g]? = some (.cells #[.map (some b)] 95 (0, 0))) (hM : KL.Has w b L) :
    SeqStopsK Fence.wide n Tryz.prog 171 #[.pointer (some ⟨bt, 0, none⟩), .pointer (some ⟨bi, 0, none⟩)] encLs (KpI (IterS bt bi g b S)) (fun xs => xs.Perm (L.filter p)) (fun _ => True) L.length w := fun lp J Jx W hW hJ _ hY h0 => by
  have hlt : ∀ k, IterS bt bi g b S k → k < w.heap.size := by
    rintro k (rfl | rfl | rfl | rfl | h)
    · exact b1.lt
    · exact b2.lt
    · exact (Array.getElem?_eq_some_iff.1 hg).1
    · exact hM.lt
    · exact hS k h
  exact those1_in n hn lp bt bi g b (IterS bt bi g b S) L fc bs p w (fun x V hz hk => hT x V hz (fun k h => hk k (.inr (.inr (.inr (.inr h)))))) eg J Jx hY W hW.size (fun k hk => hW.block k (hlt k hk)) hlt (.inl rfl) (.inr (.inl rfl)) (.inr (.inr (.inl rfl))) (.inr (.inr (.inr (.inl rfl)))) hJ b1 b2 hg hM h0
end Go.Proofs.YtmaohnbddlccdaaGreat
end

/- Orders of leases, as numbers: by address, and by (Until, address). -/
section
namespace Go.Proofs.YtmaohnbddlccdaaGreat

def cmpI (x y : Int) : Int := if x < y then -1 else if y < x then 1 else 0
def cmpA (x y : LV) : Int := cmpN x.addr y.addr
/-- Until first, and of one Until the address. -/
def cmpD (x y : LV) : Int := if cmpI x.unt y.unt = 0 then cmpN x.addr y.addr else cmpI x.unt y.unt
end Go.Proofs.YtmaohnbddlccdaaGreat
end

/- Orders of leases as the program's closures tell them: by address, and by (Until, address); a list that was sorted by one is the one list that rises. -/
section
namespace Go.Proofs.YtmaohnbddlccdaaGreat
open Go.Sort Go.Shelf

theorem cmpA_lt (x y : LV) : ltOf cmpA x y = decide (x.addr < y.addr) := by
  unfold ltOf cmpA cmpN
  by_cases h1 : x.addr < y.addr
  · simp [h1]
  · by_cases h2 : y.addr < x.addr <;> simp [h1, h2]
theorem cmpD_lt (x y : LV) : ltOf cmpD x y = decide (x.unt < y.unt ∨ (x.unt = y.unt ∧ x.addr < y.addr)) := by
  unfold ltOf cmpD cmpI cmpN
  rcases Int.lt_trichotomy x.unt y.unt with h | h | h
  · simp [h]
  · by_cases h1 : x.addr < y.addr
    · simp [h, h1]
    · by_cases h2 : y.addr < x.addr <;> simp [h, h1, h2]
  · have h1 : ¬ x.unt < y.unt := by omega
    have h2 : x.unt ≠ y.unt := by omega
    simp [h, h1, h2]
theorem swoA : SWO (ltOf cmpA) where
  irrefl x := by rw [cmpA_lt]; simp
  trans x y z h1 h2 := by rw [cmpA_lt] at *; simp at *; omega
  ntrans x y z h1 h2 := by rw [cmpA_lt] at *; simp at *; omega
theorem swoD : SWO (ltOf cmpD) where
  irrefl x := by rw [cmpD_lt]; simp
  trans x y z h1 h2 := by rw [cmpD_lt] at *; simp at *; omega
  ntrans x y z h1 h2 := by rw [cmpD_lt] at *; simp at *; omega

/-- What the sort tells of its row, as a list. -/
theorem sorted_list {α : Type} [Inhabited α] (lt : α → α → Bool) (d : Array α) (n : Nat) (hd : d.size = n) (hS : ∀ i j, 0 ≤ i → i < j → j < n → lt d[j]! d[i]! = false) : d.toList.Pairwise fun x y => lt y x = false := by
  refine List.pairwise_iff_getElem.2 fun i j hi hj hij => ?_
  have := hS i j (Nat.zero_le _) hij (by simpa [hd] using hj)
  rwa [getElem!_pos _ j (by simpa using hj), getElem!_pos _ i (by simpa using hi)] at this

/-- Sorted by address: the table's own order. -/
theorem addr_only {L l : List LV} (h : L.Pairwise fun a b => a.addr < b.addr) (hp : l.Perm L) (hs : l.Pairwise fun x y => ltOf cmpA y x = false) : l = L := by
  have hn : l.Pairwise fun a b => a.addr ≠ b.addr := (hp.symm.pairwise_iff (fun {a b} (e : a.addr ≠ b.addr) => e.symm)).1 (h.imp fun e => Nat.ne_of_lt e)
  have hl : l.Pairwise fun a b => a.addr < b.addr := by
    refine (hs.and hn).imp fun {a b} e => ?_
    obtain ⟨e1, e2⟩ := e
    rw [cmpA_lt] at e1
    simp at e1
    omega
  exact rise_unique (fun _ _ e1 e2 => by omega) hp hl h
/-- Those that are due, sorted by (Until, address), are the document's. -/
theorem due_sorted {L l : List LV} {now : Int} (h : TabL L) (hp : l.Perm (L.filter (actL now))) (hs : l.Pairwise fun x y => ltOf cmpD y x = false) : l = dueL L now := by
  have hf : (L.filter (actL now)).Pairwise fun a b => a.addr ≠ b.addr := (h.up.filter _).imp fun e => Nat.ne_of_lt e
  have hn : l.Pairwise fun a b => a.addr ≠ b.addr := (hp.symm.pairwise_iff (fun {a b} (e : a.addr ≠ b.addr) => e.symm)).1 hf
  refine due_only h hp ?_
  refine (hs.and hn).imp fun {a b} e => ?_
  obtain ⟨e1, e2⟩ := e
  rw [cmpD_lt] at e1
  simp at e1
  unfold ltD
  omega
end Go.Proofs.YtmaohnbddlccdaaGreat
end

/- The program's closures over leases: what they test, and how they compare. -/
section
namespace Go.Proofs.YtmaohnbddlccdaaGreat
open Go.RowKit Go.Sort Go.Maps Go.Shelf Go.Lib

/-! ### tests -/
theorem all1_tests (w : World) : TestsL (fun _ => False) w 162 #[] fun _ => true := by
  intro x W _ _
  show Calls Tryz.prog 162 #[x.v] W _
  go_enter Tryz.func162, Tryz.ntmps162
  go_wp2
  go_ret
  exact ⟨rfl, (Below.refl _ _).alloc (Nat.le_refl _) _⟩

theorem held_any (q : Int) (W : World) : Calls Tryz.prog 159 #[.int .i64 q] W fun e w' => e = .returned (.bool (decide (HeldL q))) ∧ W = w' := by
  by_cases h2 : q = 2
  · subst h2
    go_enter Tryz.func159, Tryz.ntmps159
    go_wp2
    go_ret
    exact ⟨rfl, rfl⟩
  by_cases h3 : q = 3
  · subst h3
    go_enter Tryz.func159, Tryz.ntmps159
    go_wp2
    go_ret
    exact ⟨rfl, rfl⟩
  by_cases h4 : q = 4
  · subst h4
    go_enter Tryz.func159, Tryz.ntmps159
    go_wp2
    go_ret
    exact ⟨rfl, rfl⟩
  have e2 : (q == 2) = false := by simpa using h2
  have e3 : (q == 3) = false := by simpa using h3
  have e4 : (q == 4) = false := by simpa using h4
  have hd : decide (HeldL q) = false := decide_eq_false (by unfold HeldL; omega)
  go_enter Tryz.func159, Tryz.ntmps159
  go_wp2
  go_ret
  rw [hd]
  exact ⟨rfl, rfl⟩

theorem of1_tests {w : World} {c : Nat} {s : ByteArray} (hc : Boxed w c 9 (.string s)) : TestsL (fun k => k = c) w 158 #[.pointer (some ⟨c, 0, none⟩)] fun y => decide (HeldL y.bind) && y.client == s.data.toList := by
  intro x W hz hk
  show Calls Tryz.prog 158 #[x.v, .pointer (some ⟨c, 0, none⟩)] W _
  have hb : Boxed (W.alloc (lbox x)) c 9 (.string s) := Boxed.alloc ((hk c rfl).trans hc) _
  have c1 := hb.cell
  have c2 := (LBox.new W x).c1
  have c3 := (LBox.new W x).c2
  have HH := Lib.hid (fun W => held_any x.bind W)
  have HE : Hid ((x.cb.toList == s.toList) = (x.client == s.data.toList)) := Lib.hid (by rw [ByteArray.toList_eq, ByteArray.toList_eq, x.cb_data])
  clear hb
  show Calls _ _ _ _ fun e w' => e = .returned (.bool (decide (HeldL x.bind) && x.client == s.data.toList)) ∧ _
  cases h : decide (HeldL x.bind) with
  | true =>
    rw [h] at HH
    clear h
    go_enter Tryz.func158, Tryz.ntmps158
    go_wp2_with (go_at_call 159; refine (HH.out _).mono ?_; rintro e w' ⟨rfl, rfl⟩)
    go_ret
    refine ⟨?_, (Below.refl _ _).alloc (Nat.le_refl _) _⟩
    rw [← HE.out]
    rfl
  | false =>
    rw [h] at HH
    clear h
    go_enter Tryz.func158, Tryz.ntmps158
    go_wp2_with (go_at_call 159; refine (HH.out _).mono ?_; rintro e w' ⟨rfl, rfl⟩)
    go_ret
    exact ⟨rfl, (Below.refl _ _).alloc (Nat.le_refl _) _⟩

/-! ### orders -/
theorem byaddr_any (x y : LV) (W : World) : Calls Tryz.prog 161 #[x.v, y.v] W fun e w' => e = .returned (.int .i64 (cmpA x y)) ∧ w' = (W.alloc (lbox x)).alloc (lbox y) := by
  have hcon := fun W' => compare_addr x.addr y.addr W'
  unfold cmpA
  generalize cmpN x.addr y.addr = r at hcon ⊢
  go_enter Tryz.func161, Tryz.ntmps161
  go_wp2_with (go_at_call 147; refine (hcon _).mono ?_; rintro e w' ⟨rfl, rfl⟩)
  go_ret
  exact ⟨rfl, rfl⟩
end Go.Proofs.YtmaohnbddlccdaaGreat
end

/- The closure by which Due puts its leases in order: by Until, and then by address. -/
section
namespace Go.Proofs.YtmaohnbddlccdaaGreat
open Go.RowKit Go.Sort Go.Maps Go.Shelf Go.Lib

theorem five_grown (W : World) (a b c d e : Obj) : ∃ os, ((((W.alloc a).alloc b).drew.alloc c).alloc d).alloc e = grow (W.drewN 1) os := by
  refine ⟨#[a, b, c, d, e], ?_⟩
  have e1 : (grow (grow W #[a]) #[b]).drew = grow (W.drewN 1) #[a, b] := by rw [grow_grow]; rfl
  rw [alloc_eq_grow, alloc_eq_grow, alloc_eq_grow, alloc_eq_grow, alloc_eq_grow, e1, grow_grow, grow_grow, grow_grow]
  rfl

end Go.Proofs.YtmaohnbddlccdaaGreat
end
