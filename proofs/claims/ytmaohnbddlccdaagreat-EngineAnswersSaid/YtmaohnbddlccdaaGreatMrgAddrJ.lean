/- addr.joined: a walk. -/
import Derived.Test.YtmaohnbddlccdaaGreatMrgAddrA
import Derived.StillTailTactics
import Derived.BigQuiet
import Derived.Deep.QuietTactic
import Derived.Maps.AppendAt
import Derived.Deep.RegionWith
import Derived.RangeFuncBox
namespace Go.Proofs.YtmaohnbddlccdaaGreat
open Go.RowKit

theorem Tryz.infoR : (Tryz.prog.info? 89).map (fun i => (i.zero, i.size, i.bytes)) = some (some (.agg #[.int .u32 0, .int .u32 0]), 2, 8) := by kernel_rfl

theorem atwo_new (w : World) (x y : Value) (t : TypeId) {g : Nat} (hg : g = w.heap.size) : ∀ j u, [x, y][j]? = some u → (w.alloc (.cells #[x, y] t)).cell? ((⟨g, 0, none⟩ : Addr).add j) = some u := by
  subst hg
  intro j u hu
  match j, hu with
  | 0, hu => simp at hu; subst hu; simp [Addr.add]
  | 1, hu => simp at hu; subst hu; simp [Addr.add]

theorem _root_.Go.RowKit.Below.drewN' {B : Nat} {a w : World} (h : Below B a w) (n : Nat) : Below B a (w.drewN n) := ⟨h.os, h.tape, h.output, h.size, h.block⟩

theorem own_cell {w : World} {base : Nat} {e : TypeId} {g n cap : Nat} {l : List (Nat × Nat)} (h : w.ownsRow base e 2 (.slice (some ⟨g, 0, none⟩) n cap) n (rcells l)) (i : Nat) (x : Nat × Nat) (hx : l[i]? = some x) :
    base ≤ g ∧ g < w.heap.size ∧ w.cell? ⟨g, i * 2, none⟩ = some (.int .u32 x.1) ∧ w.cell? ⟨g, i * 2 + 1, none⟩ = some (.int .u32 x.2) ∧ w.frozen? ⟨g, i * 2, none⟩ = false ∧ w.frozen? ⟨g, i * 2 + 1, none⟩ = false := by
  rcases h.2 with ⟨h0, _⟩ | ⟨g', cap', cur, hv, hb, hh, _, _, _, ht⟩
  · simp at h0
  obtain rfl : g = g' := by injection hv with hv; injection hv with hv; injection hv
  have hlt : g < w.heap.size := by
    rcases Nat.lt_or_ge g w.heap.size with hlt | hge
    · exact hlt
    · rw [Array.getElem?_eq_none hge] at hh; cases hh
  have hc : ∀ j u, (rcells l)[j]? = some u → w.cell? ⟨g, j, none⟩ = some u := by
    intro j u hu
    rw [← ht, List.getElem?_take] at hu
    split at hu
    · simp only [World.cell?, hh]
      simpa using hu
    · cases hu
  obtain ⟨h1, h2⟩ := rcells_at l i x hx
  exact ⟨hb, hlt, hc _ _ h1, hc _ _ h2, by simp [World.frozen?, hh], by simp [World.frozen?, hh]⟩

theorem nil_or_snoc {α : Type} (l : List α) : l = [] ∨ ∃ pre p, l = pre ++ [p] := by
  by_cases h : l = []
  · exact .inl h
  · exact .inr ⟨l.dropLast, l.getLast h, (List.dropLast_concat_getLast h).symm⟩

theorem rcells_set_last (pre : List (Nat × Nat)) (p : Nat × Nat) (q : Nat) : (rcells (pre ++ [p])).set (pre.length * 2 + 1) (.int .u32 q) = rcells (pre ++ [(p.1, q)]) := by
  rw [rcells_append, rcells_append, List.set_append_right _ _ (by rw [rcells_length]; omega), rcells_length, show pre.length * 2 + 1 - pre.length * 2 = 1 by omega]
  rfl

/-- Nothing is nil. -/
def NilIf (l : List (Nat × Nat)) (v : Value) : Prop := l = [] → v = .slice none 0 0

theorem joinStep_ne (out : List (Nat × Nat)) (r : Nat × Nat) : joinStep out r ≠ [] := by
  unfold joinStep
  split
  · simp
  · split <;> simp

/-- A range pushed behind. -/
theorem push_row {w1 : World} {B n : Nat} {v' : Value} {out m : List (Nat × Nat)} {x : Nat × Nat} {cs : List Value} (hn : n = out.length + 1) (hcs : cs = rcells out ++ [.int .u32 x.1, .int .u32 x.2]) (h : w1.ownsRow B 89 2 v' n cs) (hm : m = out ++ [x]) :
    w1.ownsRow B 89 2 v' m.length (rcells m) := by
  subst hm hn hcs
  rw [rcells_append, List.length_append]
  exact h

set_option maxRecDepth 100000 in
set_option maxHeartbeats 1000000 in
theorem joined_any (A : Option Addr) (c : Nat) (l : List (Nat × Nat)) (w : World) (hr : Rg w w.heap.size A l) (hsz : l.length * 8 ≤ 140737488351232) :
    Calls Tryz.prog 95 #[.slice A l.length c] w fun e w' => ∃ v', e = .returned v' ∧ w'.ownsRow w.heap.size 89 2 v' (joinL l).length (rcells (joinL l)) ∧ Below w.heap.size w w' := by
  obtain ⟨i0, hi, hz0, hz1, hz2⟩ := info_parts Tryz.infoR
  go_enter Tryz.func95, Tryz.ntmps95
  go_wp2
  go_loopw [3, 9] (fun v i wr => ∃ k : Nat, k ≤ l.length ∧ i = .int .i64 k ∧ wr.ownsRow w.heap.size 89 2 v (joinL (l.take k)).length (rcells (joinL (l.take k))) ∧ Below w.heap.size w wr ∧ NilIf (joinL (l.take k)) v) (fun _ i _ => l.length - (intOf i).toNat)
  case atStart => exact ⟨0, Nat.zero_le _, rfl, ⟨rfl, Or.inl ⟨rfl, rfl⟩⟩, Below.refl _ _, fun _ => rfl⟩
  case round =>
    obtain ⟨k, hk, rfl, hown, hB, hnil⟩ := hrel
    by_cases hlt : k < l.length
    · obtain ⟨x, hx⟩ : ∃ x, l[k]? = some x := ⟨_, List.getElem?_eq_getElem hlt⟩
      have hw32 := hr.w32
      obtain ⟨b, o, rfl, hb, hc1, hc2⟩ := (hr.below hB).at_ k x hx
      generalize hout : joinL (l.take k) = out at hown hnil
      have ho32 : W32 out := by rw [← hout]; exact joinL_w32 (hw32.take k)
      have hol : out.length ≤ k := by rw [← hout]; have := joinL_len (l.take k); simp at this; omega
      have hnext : joinL (l.take (k + 1)) = joinStep out x := by rw [take_snoc_of l k x hx, joinL_snoc, hout]
      have HN := Lib.hid hnext
      have hxx := hw32 x (List.mem_of_getElem? hx)
      clear hnext hout hx hr hw32
      rcases nil_or_snoc out with rfl | ⟨pre, p, rfl⟩
      · obtain rfl : u3 = .slice none 0 0 := hnil rfl
        go_wp2
        go_quiet (fail)
        have hsz1 := hB.size
        go_wp2_with (at_builtin; refine wpList_append_own _ rfl _ _ 25 rfl w.heap.size 89 i0 _ 2 8 Tryz.underlying25 hi hz0 hz1 hz2 rfl (by decide) (.slice none 0 0) 0 [] rfl ⟨rfl, Or.inl ⟨rfl, rfl⟩⟩ ⟨wr.heap.size + 1, 0, none⟩ 1 1 [.int .u32 x.1, .int .u32 x.2] rfl rfl (atwo_new _ _ _ _ (by simp)) (by simp [Value.oneCell']) (by decide) (by decide) (by simp; omega) ?_; intro v' w1 hown' hgrow _; obtain ⟨g', cap', rfl⟩ := ownsRow_succ hown')
        go_roundw
        case rel =>
          have hN : joinL (l.take (k + 1)) = [] ++ [x] := by rw [HN.out]; rfl
          refine ⟨k + 1, by omega, by go_num, push_row (out := []) (x := x) rfl rfl (by simpa [rcells] using hown') hN, ?_, fun h => ?_⟩
          · exact ((((hB.alloc hsz1 _).drewN' nq).alloc (by simp; omega) _).grown hgrow (by simp; omega) (by simp [Value.ownBlock]))
          · rw [hN] at h; simp at h
        case measure => simp [intOf]; omega
      · rw [show (pre ++ [p]).length = pre.length + 1 by simp] at hown hol
        obtain ⟨g, cap, rfl⟩ := ownsRow_succ hown
        obtain ⟨hg0, hg1, hp1, hp2, hf1, hf2⟩ := own_cell hown pre.length p (by simp)
        have hp := ho32 p (by simp)
        have hsz1 := hB.size
        have hj : joinStep (pre ++ [p]) x = if reachesB p.2 x.1 then pre ++ [(p.1, max p.2 x.2)] else pre ++ [p] ++ [x] := by simp [joinStep]
        rw [hj] at HN
        clear hj hnil
        generalize hm : pre.length = m at *
        have HM := Lib.hid hm
        clear hm
        obtain ⟨w2, hw2⟩ : ∃ w2, w2 = wr.alloc (.cells #[.int .u32 x.1, .int .u32 x.2] 89) := ⟨_, rfl⟩
        have hown2 : w2.ownsRow w.heap.size 89 2 (.slice (some ⟨g, 0, none⟩) (m + 1) cap) (m + 1) (rcells (pre ++ [p])) := by rw [hw2]; exact hown.alloc _
        have hB2 : Below w.heap.size w w2 := by rw [hw2]; exact hB.alloc hsz1 _
        obtain ⟨-, hg2, hp1', hp2', hf1', hf2'⟩ := own_cell hown2 m p (by have := HM.out; subst this; simp)
        have hz2 : w2.heap.size = wr.heap.size + 1 := by rw [hw2]; simp
        have hx1 : w2.cell? ⟨wr.heap.size, 0, none⟩ = some (.int .u32 x.1) := by rw [hw2]; simp
        have hx2 : w2.cell? ⟨wr.heap.size, 1, none⟩ = some (.int .u32 x.2) := by rw [hw2]; simp
        have hzl : wr.heap.size < w2.heap.size := by omega
        have HW := Lib.hid hw2
        have HZ := Lib.hid hz2
        clear hw2 hz2 hown hp1 hp2 hf1 hf2
        have hwr : IntKind.i64.wrap (m : Int) = m := IntWalk.i64_in _ (by omega)
        have hmm : (m : Int) < (m : Int) + 1 := by omega
        cases hre : reachesB p.2 x.1
        · go_wp2
          rw [← HW.out]
          go_still_tail 10, (by kernel_rfl)
          change wpList _ _ _ _ _ (World.drew _)
          go_wp2_with (first | (go_at_call 143; refine (reaches_any _ _ _ _ (by omega) (by omega)).mono ?_; rintro e w' ⟨rfl, rfl⟩) | (at_builtin; refine wpList_append_own _ rfl _ _ 25 rfl w.heap.size 89 i0 _ 2 8 Tryz.underlying25 hi hz0 hz1 hz2 rfl (by decide) _ (m + 1) (rcells (pre ++ [p])) rfl ((hown2.alloc _).alloc _) ⟨w2.heap.size + 1, 0, none⟩ 1 1 [.int .u32 x.1, .int .u32 x.2] rfl rfl (atwo_new _ _ _ _ (by simp)) (by simp [Value.oneCell']) (by unfold maxLen; omega) (by omega) (by simp; omega) ?_; intro v' w1 hown' hgrow _; obtain ⟨g', cap', rfl⟩ := ownsRow_succ hown'))
          go_roundw
          case rel =>
            have hN : joinL (l.take (k + 1)) = (pre ++ [p]) ++ [x] := by rw [HN.out, hre]; rfl
            refine ⟨k + 1, by omega, by go_num, push_row (n := m + 1 + 1) (out := pre ++ [p]) (x := x) (by have := HM.out; simp [this]) rfl (by simpa using hown') hN, ?_, fun h => ?_⟩
            · exact ((((hB2.alloc (by omega) _).drew).alloc (by simp; omega) _).grown hgrow (by simp; omega) (fun k e => by cases e; exact hg0))
            · rw [hN] at h; simp at h
          case measure => simp [intOf]; omega
        · go_wp2
          rw [← HW.out]
          go_still_tail 10, (by kernel_rfl)
          change wpList _ _ _ _ _ (World.drew _)
          go_wp2_with (go_at_call 143; refine (reaches_any _ _ _ _ (by omega) (by omega)).mono ?_; rintro e w' ⟨rfl, rfl⟩)
          obtain ⟨w3, hw3⟩ : ∃ w3, w3 = (w2.alloc (.cells #[.int .u32 p.1, .int .u32 p.2] 89)).drew := ⟨_, rfl⟩
          rw [← hw3]
          have hown3 : w3.ownsRow w.heap.size 89 2 (.slice (some ⟨g, 0, none⟩) (m + 1) cap) (m + 1) (rcells (pre ++ [p])) := by rw [hw3]; exact hown2.alloc _
          have hB3 : Below w.heap.size w w3 := by rw [hw3]; exact (hB2.alloc (by omega) _).drew
          have hy1 : w3.cell? ⟨wr.heap.size, 1, none⟩ = some (.int .u32 x.2) := by rw [hw3]; exact (World.cell?_alloc_lt w2 _ ⟨wr.heap.size, 1, none⟩ hzl).trans hx2
          obtain ⟨-, hg3, hq1, hq2, hq3, hq4⟩ := own_cell hown3 m p (by have := HM.out; subst this; simp)
          clear hw3 hown2 hB2 hp1' hp2' hf1' hf2' hx1 hx2
          go_still_tail 14, (by kernel_rfl)
          change wpList _ _ _ _ _ (World.drew _)
          have hmx : (if p.2 < x.2 then (x.2 : Int) else (p.2 : Int)) = ((max p.2 x.2 : Nat) : Int) := by split <;> omega
          rw [hmx]
          clear hmx
          obtain ⟨q, hq⟩ : ∃ q, max p.2 x.2 = q := ⟨_, rfl⟩
          rw [hq]
          have HQ := Lib.hid hq
          clear hq hwr hmm
          go_wp2
          go_roundw
          case rel =>
            have hN : joinL (l.take (k + 1)) = pre ++ [(p.1, q)] := by rw [HN.out, hre, ← HQ.out]; rfl
            refine ⟨k + 1, by omega, by go_num, ?_, ?_, fun h => ?_⟩
            · rw [hN]
              have h := (hown3.stored (m * 2 + 1) (.int .u32 q)).1
              rw [show (rcells (pre ++ [p])).set (m * 2 + 1) (.int .u32 q) = rcells (pre ++ [(p.1, q)]) by have := HM.out; subst this; exact rcells_set_last pre p q] at h
              rw [show (pre ++ [(p.1, q)]).length = m + 1 by have := HM.out; simp [this]]
              exact h
            · exact (hB3.setCell (p := ⟨g, m * 2 + 1, none⟩) hg0 _).drew
            · rw [hN] at h; simp at h
          case measure => simp [intOf]; omega
    · have hkl : k = l.length := by omega
      subst hkl
      go_wp2
      go_ret
      rw [List.take_length] at hown
      exact ⟨_, rfl, hown, hB⟩
end Go.Proofs.YtmaohnbddlccdaaGreat
