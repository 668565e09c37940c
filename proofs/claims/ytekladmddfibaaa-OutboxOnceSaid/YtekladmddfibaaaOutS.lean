/- The program's record of what was seen: News, Take, Note. -/
import Derived.Test.YtekladmddfibaaaOutB
import Derived.Test.YtekladmddfibaaaSeeM
namespace Go.Proofs.Ytekladmddfibaaa
open Go.RowKit Go.Sort Go.Maps

/-- What was noted, by addresses. -/
def FT : FnKd Try.prog Nat (Int × Bool) where
  K := {
    t := 71
    k := 29
    e := 78
    q := .u32
    key := fun p => (p.1 : Int)
    val := fun p => .agg #[.int .i64 p.2.1, .bool p.2.2]
    zero := .agg #[.int .i64 0, .bool false]
    und := Try.underlying71
    uk := Try.underlying29
    hz := fun w => by kernel_rfl }
  kof := fun a => (a : Int)
  vof := fun p => .agg #[.int .i64 p.1, .bool p.2]
  inj := fun a b h => by have h : (a : Int) = (b : Int) := h; omega
  hk := fun _ => rfl
  hv := fun _ => rfl
def tF (S : List NtV) : Nat → Option (Int × Bool) := fun a => (S.find? fun n => n.addr == a).map fun n => (n.xid, n.ok)
theorem tF_note {S : List NtV} {a : Nat} {x : Int} {ok : Bool} (h : (takeS S a x).1 = true) : tF (noteS S a x ok) = putF (tF S) a (x, ok) := by
  unfold noteS
  rw [if_pos h]
  cases hf : S.find? fun n => n.addr == a with
  | none =>
    have hn : ∀ y ∈ S, y.addr ≠ a := fun y hy => by simpa using List.find?_eq_none.1 hf y hy
    rw [(found_no hn).2]
    funext b
    unfold putF tF
    simp only
    rw [List.find?_append]
    by_cases hb : b = a
    · rw [if_pos hb, hb, hf]; simp
    · rw [if_neg hb, List.find?_cons_of_neg (by simpa using fun e => hb e.symm)]; simp
  | some n =>
    obtain ⟨hm, L1, L2, hS, hn⟩ := List.find?_eq_some_iff_append.1 hf
    have hn : ∀ y ∈ L1, y.addr ≠ a := fun y hy => by simpa using hn y hy
    have hm : n.addr = a := by simpa using hm
    have hi := (found_at (S := S) (j := L1.length) (a := a) (n := n) (by rw [hS, List.take_left' rfl]; exact hn) (by rw [hS]; simp) hm).2
    rw [hi]
    show tF (S.set L1.length ⟨a, x, ok⟩) = _
    rw [hS, List.set_append_right _ _ (Nat.le_refl _), Nat.sub_self, List.set_cons_zero]
    funext b
    unfold putF tF
    rw [List.find?_append, List.find?_append]
    by_cases hb : b = a
    · rw [if_pos hb, hb, List.find?_eq_none.2 (fun y hy => by simpa using hn y hy), List.find?_cons_of_pos (by simp)]; rfl
    · rw [if_neg hb, List.find?_cons_of_neg (by simpa using fun e => hb e.symm), List.find?_cons_of_neg (by rw [hm]; simpa using fun e => hb e.symm)]
theorem tF_take (S : List NtV) (a : Nat) (x : Int) : takeS S a x = if (tF S a).isSome && (x == ((tF S a).getD (0, false)).1) then (false, ((tF S a).getD (0, false)).2, true) else (decide (((tF S a).getD (0, false)).1 < x), false, false) := by
  unfold takeS tF
  cases S.find? fun n => n.addr == a with
  | none => simp
  | some n =>
    by_cases h : x = n.xid
    · simp [h]
    · simp [h]
theorem ft_look {w : World} {b : Nat} {f : Nat → Option (Int × Bool)} (h : FT.Holds w b f) (a : Nat) (ha : a < 4294967296) :
    (Instr.lookup 71 (.map (some b)) (.int .u32 (a : Int)) true).run Try.prog w = .ok (.tuple #[.agg #[.int .i64 ((f a).getD (0, false)).1, .bool ((f a).getD (0, false)).2], .bool (f a).isSome]) w ∧
    (Instr.lookup 71 (.map (some b)) (.int .u32 (a : Int)) false).run Try.prog w = .ok (.agg #[.int .i64 ((f a).getD (0, false)).1, .bool ((f a).getD (0, false)).2]) w := by
  have h1 := h.look_ok a (wf_u32o ha)
  have h2 := h.look a (wf_u32o ha)
  have e : FT.valF (f a) = .agg #[.int .i64 ((f a).getD (0, false)).1, .bool ((f a).getD (0, false)).2] := by cases f a <;> rfl
  rw [e] at h1 h2
  exact ⟨h1, h2⟩
theorem ft_put {w : World} {b : Nat} {f : Nat → Option (Int × Bool)} (h : FT.Holds w b f) (a : Nat) (x : Int) (ok : Bool) (ha : a < 4294967296) : ∃ w', (Instr.mapUpdate 71 (.map (some b)) (.int .u32 (a : Int)) (.agg #[.int .i64 x, .bool ok])).run Try.prog w = .ok () w' ∧ FT.Holds w' b (putF f a (x, ok)) ∧ w.grownBy w' (some b) :=
  h.put a (x, ok) (wf_u32o ha) (by show (0 : Int) ≤ (a : Int); omega) (by show (a : Int) < 4294967296; omega)

theorem field_note (n : Int) (k : Bool) (W : World) : (Instr.field 78 (.agg #[.int .i64 n, .bool k]) 0).run Try.prog W = .ok (.int .i64 n) W := by
  simp [Instr.field, run_underlying Try.underlying78, asAgg, Result.andThen, go_sem]
/-- The program's record, in the blocks Q. -/
def US (w : World) (Q : Nat → Prop) (g : Nat) (S : List NtV) : Prop := ∃ b, w.heap[g]? = some (.cells #[.map (some b)] 73 (0, 0)) ∧ FT.Holds w b (tF S) ∧ Q = fun k => k = g ∨ k = b
section
variable {w w' : World} {Q : Nat → Prop} {g : Nat} {S : List NtV}
theorem US.lt (h : US w Q g S) : ∀ k, Q k → k < w.heap.size := by
  obtain ⟨b, h1, h2, rfl⟩ := h
  rintro k (rfl | rfl)
  · exact (Array.getElem?_eq_some_iff.1 h1).1
  · exact h2.lt
theorem US.keep (h : US w Q g S) (hk : KpT Q w w') : US w' Q g S := by
  obtain ⟨b, h1, h2, rfl⟩ := h
  exact ⟨b, (hk.block g (.inl rfl)).trans h1, h2.block (hk.block b (.inr rfl)), rfl⟩
end

set_option maxRecDepth 100000 in
theorem onews_any (w : World) : Calls Try.prog 17 #[] w fun e w' => ∃ Q g, e = .returned (.pointer (some ⟨g, 0, none⟩)) ∧ US w' Q g [] ∧ Below w.heap.size w w' ∧ ∀ b, Q b → w.heap.size ≤ b := by
  have hmm := @run_makeMap Try.prog
  go_enter Try.func17, Try.ntmps17
  go_wp2
  go_ret
  have s1 : (w.alloc (.map #[] 0)).heap.size = w.heap.size + 1 := World.size_alloc _ _
  have hg := heap_alloc_new (w.alloc (.map #[] 0)) (.cells #[.map (some w.heap.size)] 73)
  rw [s1] at hg
  refine ⟨_, _, rfl, ⟨w.heap.size, hg, (FnKd.Holds.made FT w).kept (World.grownBy_alloc _ _ none) (by simp), rfl⟩, ((Below.refl _ w).alloc (Nat.le_refl _) _).alloc (by rw [s1]; omega) _, ?_⟩
  rintro b (rfl | rfl)
  · omega
  · omega

set_option maxRecDepth 100000 in
set_option maxHeartbeats 2000000 in
theorem otake_any {w : World} {Q : Nat → Prop} {g : Nat} {S : List NtV} (m : MsgV) (ha : m.addr < 4294967296) (h : US w Q g S) :
    Calls Try.prog 19 #[.pointer (some ⟨g, 0, none⟩), m.v] w fun e w' => e = .returned (.tuple #[.bool (takeS S m.addr m.xid).1, .bool (takeS S m.addr m.xid).2.1, .bool (takeS S m.addr m.xid).2.2]) ∧ Below w.heap.size w w' := by
  obtain ⟨w1, hw1⟩ : ∃ w1, w1 = w.alloc (mbox m) := ⟨_, rfl⟩
  have hB1 : Below w.heap.size w w1 := by rw [hw1]; exact (Below.refl _ _).alloc (Nat.le_refl _) _
  have HM1 : Hid (MBox w1 w.heap.size m) := Lib.hid (by rw [hw1]; exact MBox.new w m)
  have HB1 := Lib.hid hB1
  obtain ⟨b, h1, h2, -⟩ := h.keep (KpT.of_below hB1 h.lt)
  have HF := Lib.hid h2
  have HBX := Lib.hid h1
  have HW1 := Lib.hid hw1
  have HT := Lib.hid (tF_take S m.addr m.xid)
  have hlk0 := fun n k => (ft_look ((HF.out.kept (World.grownBy_alloc w1 (.cells #[.int .i64 n, .bool k] 78) none) (by simp)).drew) m.addr ha).1
  have hlk1 := (ft_look HF.out.drew m.addr ha).1
  obtain ⟨n, hn⟩ : ∃ n, n = ((tF S m.addr).getD (0, false)).1 := ⟨_, rfl⟩
  obtain ⟨k, hk⟩ : ∃ k, k = ((tF S m.addr).getD (0, false)).2 := ⟨_, rfl⟩
  obtain ⟨i, hi⟩ : ∃ i, i = (tF S m.addr).isSome := ⟨_, rfl⟩
  rw [← hn, ← hk, ← hi] at HT hlk1
  have hlk2 := hlk0 0 false
  rw [← hn, ← hk, ← hi] at hlk2
  clear hn hk hi hB1 h1 h2 h hw1 hlk0
  obtain ⟨x, hx⟩ : ∃ x, x = m.xid := ⟨_, rfl⟩
  have c0 := cell_of_row w1 g 0 _ _ _ HBX.out
  simp at c0
  have m3 := HM1.out.c3
  have m5 := HM1.out.c5
  rw [← hx] at m3 HT ⊢
  clear hx
  have hA : Below w1.heap.size w1 (w1.alloc (.cells #[.int .i64 0, .bool false] 78)) := (Below.refl _ _).alloc (Nat.le_refl _) _
  have d0 := (hA.cell (p := ⟨g, 0, none⟩) (Array.getElem?_eq_some_iff.1 HBX.out).1).trans c0
  have d3 := (hA.cell (p := ⟨w.heap.size, 3, none⟩) HM1.out.lt).trans m3
  have d5 := (hA.cell (p := ⟨w.heap.size, 5, none⟩) HM1.out.lt).trans m5
  clear hA
  have hN : Below w1.heap.size w1 (w1.alloc (.cells #[.int .i64 n, .bool k] 78)) := (Below.refl _ _).alloc (Nat.le_refl _) _
  have HN := Lib.hid (HB1.out.trans (hN.mono HB1.out.size))
  have p3 := (hN.cell (p := ⟨w.heap.size, 3, none⟩) HM1.out.lt).trans m3
  have hZ := heap_alloc_new w1 (.cells #[.int .i64 n, .bool k] 78)
  have p0 := cell_of_row _ w1.heap.size 0 _ _ _ hZ
  have p1 := cell_of_row _ w1.heap.size 1 _ _ _ hZ
  simp at p0 p1
  clear hN hZ
  cases ht : (i && x == n)
  · rw [ht, if_neg (by decide)] at HT
    have HT := Lib.hid HT.out
    cases i
    · clear ht
      go_enter Try.func19, Try.ntmps19
      go_upto_region 1 with fail
      rw [← HW1.out]
      go_upto_region 2 with fail
      go_region
      all_goals
        clear hlk1 hlk2 c0 m3 m5 d0 d3 d5
        go_wp2
        go_ret3
        rw [HT.out]
        exact ⟨rfl, HN.out.drew⟩
    · have ht : (x == n) = false := ht
      go_enter Try.func19, Try.ntmps19
      go_upto_region 1 with fail
      rw [← HW1.out]
      go_upto_region 2 with fail
      go_region
      all_goals
        clear hlk1 hlk2 c0 m3 m5 d0 d3 d5
        go_wp2
        go_ret3
        rw [HT.out]
        exact ⟨rfl, HN.out.drew⟩
  · rw [ht, if_pos rfl] at HT
    have HT := Lib.hid HT.out
    obtain ⟨rfl, ht⟩ := Bool.and_eq_true_iff.1 ht
    go_enter Try.func19, Try.ntmps19
    go_upto_region 1 with fail
    rw [← HW1.out]
    go_upto_region 2 with fail
    go_region
    all_goals
      clear hlk1 hlk2 c0 m3 m5 d0 d3 d5
      go_wp2
      go_region
    all_goals
      go_wp2
      go_ret3
      rw [HT.out]
      exact ⟨rfl, HN.out.drew.drew⟩

set_option maxRecDepth 100000 in
set_option maxHeartbeats 2000000 in
theorem onote_any {w : World} {Q : Nat → Prop} {g : Nat} {S : List NtV} (m : MsgV) (ok : Bool) (ha : m.addr < 4294967296) (h : US w Q g S) :
    Calls Try.prog 21 #[.pointer (some ⟨g, 0, none⟩), m.v, .bool ok] w fun e w' => ∃ Q', e = .returned (.tuple #[]) ∧ US w' Q' g (noteS S m.addr m.xid ok) ∧ Way Q w Q' w' := by
  obtain ⟨w1, hw1⟩ : ∃ w1, w1 = w.alloc (mbox m) := ⟨_, rfl⟩
  have hB1 : Below w.heap.size w w1 := by rw [hw1]; exact (Below.refl _ _).alloc (Nat.le_refl _) _
  have HM1 : Hid (MBox w1 w.heap.size m) := Lib.hid (by rw [hw1]; exact MBox.new w m)
  have HB1 := Lib.hid hB1
  have HU := Lib.hid (h.keep (KpT.of_below hB1 h.lt))
  obtain ⟨b, h1, h2, hQ⟩ := HU.out
  have HF := Lib.hid h2
  have HBX := Lib.hid h1
  have HW1 := Lib.hid hw1
  have HQQ := Lib.hid hQ
  have HT := Lib.hid (tF_take S m.addr m.xid)
  have HNT := Lib.hid (fun e => tF_note (S := S) (a := m.addr) (x := m.xid) (ok := ok) e)
  have hlk := (ft_look HF.out.drew m.addr ha).2
  have hfd := fun n k => field_note n k w1.drew
  obtain ⟨n, hn⟩ : ∃ n, n = ((tF S m.addr).getD (0, false)).1 := ⟨_, rfl⟩
  obtain ⟨k, hk⟩ : ∃ k, k = ((tF S m.addr).getD (0, false)).2 := ⟨_, rfl⟩
  rw [← hn, ← hk] at HT hlk
  clear hn hk hB1 h1 h2 h hw1 hQ
  obtain ⟨x, hx⟩ : ∃ x, x = m.xid := ⟨_, rfl⟩
  have c0 := cell_of_row w1 g 0 _ _ _ HBX.out
  simp at c0
  have m3 := HM1.out.c3
  have m5 := HM1.out.c5
  rw [← hx] at m3 HT HNT ⊢
  have hnew : (takeS S m.addr x).1 = decide (n < x) := by
    rw [HT.out]
    split
    · rename_i e
      obtain ⟨-, e⟩ := Bool.and_eq_true_iff.1 e
      have : x = n := by simpa using e
      rw [this]; simp
    · rfl
  rw [hnew] at HNT
  by_cases hlt : n < x
  rotate_left
  · have hd : decide (n < x) = false := by simpa using hlt
    have HI : Hid (noteS S m.addr x ok = S) := Lib.hid (by unfold noteS; rw [hnew, hd]; rfl)
    clear hnew hlt hx HT HNT
    go_enter Try.func21, Try.ntmps21
    go_upto_region 1 with fail
    rw [← HW1.out]
    go_upto_region 2 with fail
    go_region
    all_goals
      go_wp2
      first | go_end0 | refine bodyPost_ret (results_none rfl _ _ _) rfl ?_
      rw [HI.out]
      exact ⟨Q, rfl, HU.out.keep ⟨rfl, rfl, rfl, Nat.le_refl _, fun _ _ => rfl⟩, Way.of_below HB1.out.drew⟩
  · have hd : decide (n < x) = true := by simpa using hlt
    have HI := Lib.hid (HNT.out hd)
    have hwf := wf_u32o ha
    obtain ⟨w2, k2, hF2, hg2⟩ := ft_put HF.out.drew.drew m.addr x ok ha
    have HF2 := Lib.hid hF2
    have HG2 := Lib.hid hg2
    clear hnew hlt hx HT HNT hF2 hg2 hwf
    go_enter Try.func21, Try.ntmps21
    go_upto_region 1 with fail
    rw [← HW1.out]
    go_upto_region 2 with fail
    go_region
    all_goals
      clear hlk
      go_wp2
      go_region
    all_goals
      go_wp2
      first | go_end0 | refine bodyPost_ret (results_none rfl _ _ _) rfl ?_
      have hgb := HF.out.ne HBX.out
      have hb1 := HB1.out
      refine ⟨Q, rfl, ⟨b, (HG2.out.block g (Array.getElem?_eq_some_iff.1 HBX.out).1 (fun e => hgb (Option.some.inj e))).trans HBX.out, by rw [HI.out]; exact HF2.out, HQQ.out⟩, ⟨?_, fun _ h => .inl h⟩⟩
      refine OthT.trans' (OthT.of_low HB1.out.drew.drew) (fun _ h => .inl h) (OthT.grown HG2.out (by rw [HQQ.out]; exact .inr rfl) : OthT Q w1.drew.drew w2)
end Go.Proofs.Ytekladmddfibaaa
