/- addr.sorted: slices.Clone and slices.SortFunc. -/
import Derived.Test.YtmaohnbddlccdaaGreatMrgAddrJ
import Derived.Test.YtmaohnbddlccdaaGreatShelfS
import Derived.Shelf.SlSortCmp.WholeK
import Derived.Shelf.SlSortCmp.NoneTotal
namespace Go.Proofs.YtmaohnbddlccdaaGreat
open Go.RowKit Go.Sort Go.Lib Go.Shelf

def encRg (x : Nat × Nat) : List Value := [.int .u32 x.1, .int .u32 x.2]

theorem ltR (x y : Nat × Nat) : ltOf (fun x y : Nat × Nat => cmpN x.1 y.1) x y = decide (x.1 < y.1) := by
  unfold ltOf cmpN
  by_cases h1 : x.1 < y.1
  · simp [h1]
  · by_cases h2 : y.1 < x.1 <;> simp [h1, h2]

theorem swoR : SWO (ltOf fun x y : Nat × Nat => cmpN x.1 y.1) where
  irrefl x := by rw [ltR]; simp
  trans x y z h1 h2 := by rw [ltR] at *; simp at *; omega
  ntrans x y z h1 h2 := by rw [ltR] at *; simp at *; omega

theorem cmpLaysR (blk off size : Nat) (w : World) : CmpLays Tryz.prog 146 #[] encRg 2 (fun x y => cmpN x.1 y.1) blk off size w :=
  fun _ _ _ _ x y => closure_any x y _

theorem below_sortWorldK {α : Type} [Inhabited α] (enc : α → List Value) (k : Nat) (w : World) (blk off n : Nat) (d : Array α) (os : Array Obj) {B : Nat} (hB : B ≤ blk) (hs : B ≤ w.heap.size) : RowKit.Below B w (sortWorldK enc k w blk off n d os) := by
  refine ⟨rfl, rfl, rfl, ?_, fun j hj => ?_⟩
  · simp [sortWorldK, grow, putRowK, putRow, mapBlock]
  · show ((w.heap.modify blk _) ++ os)[j]? = _
    rw [Array.getElem?_append_left (by simp; omega), Array.getElem?_modify, if_neg (by omega)]

/-- Sorted by Low. -/
def SortedLow (l : List (Nat × Nat)) : Prop := l.Pairwise fun x y => x.1 ≤ y.1

set_option maxRecDepth 100000 in
set_option maxHeartbeats 1000000 in
theorem aclone_any (A : Option Addr) (c : Nat) (l : List (Nat × Nat)) (w : World) (hr : Rg w w.heap.size A l) (hsz : l.length * 8 ≤ 140737488351232) :
    Calls Tryz.prog 144 #[.slice A l.length c] w fun e w' => ∃ p cap, e = .returned (.slice p l.length cap) ∧ w'.ownsRow w.heap.size 89 2 (.slice p l.length cap) l.length (rcells l) ∧ RowKit.Below w.heap.size w w' := by
  obtain ⟨i0, hi, hz0, hz1, hz2⟩ := info_parts Tryz.infoR
  have q : ∀ (w : World) (a : Option Addr) (n c n' c' : Nat), (binOp .eql 25 (.slice a n c) (.slice none n' c')).run Tryz.prog w = .ok (.bool a.isNone) w := fun w a n c n' c' => Lib.run_eql_slice_nil w _ _ a n c n' c' Tryz.underlying25
  cases A with
  | none =>
    have hl : l = [] := by
      cases l with
      | nil => rfl
      | cons x r => obtain ⟨b, o, h, _⟩ := hr.at_ 0 x rfl; cases h
    subst hl
    go_enter Tryz.func144, Tryz.ntmps144
    go_wp2
    go_ret
    exact ⟨none, 0, rfl, ⟨rfl, .inl ⟨rfl, rfl⟩⟩, RowKit.Below.refl _ _⟩
  | some ad =>
    have HC := Lib.hid (fun o => (hr.keep (w' := w.alloc o) fun p hp => World.cell?_alloc_lt w o p hp).cells)
    clear hr
    go_enter Tryz.func144, Tryz.ntmps144
    go_wp2_with (at_builtin; refine wpList_append_own _ rfl _ _ 25 rfl w.heap.size 89 i0 _ 2 8 Tryz.underlying25 hi hz0 hz1 hz2 rfl (by decide) _ 0 [] rfl (World.ownsRow_made w #[] 0 (Nat.le_refl _) (Nat.zero_le _) (by simp)) ad l.length c (rcells l) rfl (rcells_length l) (HC.out _) (rcells_one l) (by unfold maxLen; omega) (by omega) (by simp) ?_; intro v' w1 hown' hgrow _)
    go_ret
    have hB : RowKit.Below w.heap.size w w1 := ((RowKit.Below.refl w.heap.size w).alloc (Nat.le_refl _) _).grown hgrow (by simp) (fun k e => by cases e; exact Nat.le_refl _)
    rw [Nat.zero_add, List.nil_append] at hown'
    rcases hown'.2 with ⟨rfl, h0⟩ | ⟨g, cap, cur, rfl, _⟩
    · exact ⟨none, 0, by rw [h0]; rfl, by rw [h0] at hown' ⊢; exact hown', hB⟩
    · exact ⟨_, _, rfl, hown', hB⟩

theorem getD_arr (l : List (Nat × Nat)) (i : Nat) (h : i < l.length) : l.toArray[i]! = l[i] := by
  rw [getElem!_pos _ i (by simpa using h)]; simp

theorem sort_any (B : Nat) (p : Option Addr) (cap : Nat) (l : List (Nat × Nat)) (w : World) (h32 : W32 l) (hown : w.ownsRow B 89 2 (.slice p l.length cap) l.length (rcells l)) (hsz : l.length * 8 ≤ 140737488351232) (hB : B ≤ w.heap.size) :
    Calls Tryz.prog 145 #[.slice p l.length cap, .func (.func 146) #[] #[]] w fun e w' => e = .returned (.tuple #[]) ∧ ∃ l', l'.Perm l ∧ SortedLow l' ∧ Rg w' w'.heap.size p l' ∧ RowKit.Below B w w' := by
  by_cases hl : l = []
  · subst hl
    have hcon := AnyF.slices_SortFunc_none Tryz.sortL p cap (.func (.func 146) #[] #[]) w
    refine hcon.mono ?_
    rintro e w' ⟨rfl, rfl⟩
    exact ⟨rfl, [], .refl _, .nil, ⟨h32, fun i x h => by simp at h⟩, RowKit.Below.refl _ _⟩
  · have hpos : 0 < l.length := List.length_pos_iff.2 hl
    rcases hown.2 with ⟨_, h0⟩ | ⟨g, cap', cur, hv, hg, hh, _⟩
    · omega
    have hp : p = some ⟨g, 0, none⟩ := by injection hv
    subst hp
    have hgl : g < w.heap.size := by
      rcases Nat.lt_or_ge g w.heap.size with hlt | hge
      · exact hlt
      · rw [Array.getElem?_eq_none hge] at hh; cases hh
    have hH : HoldsK encRg 2 w g 0 l.toArray := by
      intro t ht
      rw [size_flatK] at ht
      simp at ht
      rw [get_flatK _ _ _ _ (by simpa using ht), getD_arr l (t / 2) (by omega)]
      obtain ⟨_, _, h1, h2, h3, h4⟩ := own_cell hown (t / 2) _ (List.getElem?_eq_getElem (by omega))
      rcases Nat.mod_two_eq_zero_or_one t with hm | hm
      · rw [hm, show (0 + t) = t / 2 * 2 by omega]
        exact ⟨h1, h3⟩
      · rw [hm, show (0 + t) = t / 2 * 2 + 1 by omega]
        exact ⟨h2, h4⟩
    have eg : ∀ args w, (callFunc 146 args).run Tryz.prog w = .ok (.enter 146 args) w := enters_of Tryz.func146 (by kernel_rfl) rfl
    have hcon := AnyQ.slices_SortFunc Tryz.sortL 2 Tryz.isAgg89 Tryz.sizeOf89 encRg (fun _ => rfl) (fun x v hv => by simp [encRg] at hv; rcases hv with rfl | rfl <;> rfl) (fun x y => cmpN x.1 y.1) swoR 146 #[] g 0 cap l.toArray w eg (cmpLaysR g 0 l.toArray.size w) hH hgl (by simp; omega)
    rw [List.size_toArray] at hcon
    refine hcon.mono ?_
    rintro e w' ⟨rfl, d', n, os, hP, hS, rfl⟩
    have hds : d'.size = l.length := by have := hP.1; simpa using this
    have hperm : d'.toList.Perm l := by
      have h2 := hP.2.2
      simp at h2
      rwa [List.take_of_length_le (by simp [hds])] at h2
    have h32' : W32 d'.toList := fun x hx => h32 x (hperm.mem_iff.1 hx)
    refine ⟨rfl, d'.toList, hperm, ?_, ⟨h32', fun i x hx => ⟨g, 0, rfl, lt_sortWorldK _ _ _ _ _ _ _ _ hgl, ?_⟩⟩, below_sortWorldK _ _ _ _ _ _ _ _ hg hB⟩
    · refine List.pairwise_iff_getElem.2 fun i j hi hj hij => ?_
      have := hS i j (Nat.zero_le _) hij (by simpa [hds] using hj)
      rw [ltR, getElem!_pos _ j (by simpa using hj), getElem!_pos _ i (by simpa using hi)] at this
      simp at this
      simpa using this
    · have hH' := holdsK_sortWorldK encRg 2 w g 0 n l.toArray d' os hgl hH (by simpa using hds)
      have hi : i < d'.size := by have := (List.getElem?_eq_some_iff.1 hx).1; simpa using this
      have hxe : d'[i]! = x := by
        have := (List.getElem?_eq_some_iff.1 hx).2
        rw [getElem!_pos _ i hi]
        simpa using this
      have c0 := (hH'.cell (c := 0) hi (by decide)).1
      have c1 := (hH'.cell (c := 1) hi (by decide)).1
      rw [hxe] at c0 c1
      exact ⟨c0, c1⟩

set_option maxHeartbeats 1000000 in
theorem sorted_any (A : Option Addr) (c : Nat) (l : List (Nat × Nat)) (w : World) (hr : Rg w w.heap.size A l) (hsz : l.length * 8 ≤ 140737488351232) :
    Calls Tryz.prog 96 #[.slice A l.length c] w fun e w' => ∃ l' p cap, e = .returned (.slice p l'.length cap) ∧ l'.Perm l ∧ SortedLow l' ∧ Rg w' w'.heap.size p l' ∧ RowKit.Below w.heap.size w w' := by
  have h32 := hr.w32
  have HC := Lib.hid (aclone_any A c l w hr hsz)
  clear hr
  go_enter Tryz.func96, Tryz.ntmps96
  go_wp2_with fail
  refine HC.out.mono ?_
  rintro e w1 ⟨p, cap, rfl, hown, hB⟩
  have HS := Lib.hid (sort_any w.heap.size p cap l w1 h32 hown hsz hB.size)
  clear hown
  go_wp2_with fail
  refine HS.out.mono ?_
  rintro e w2 ⟨rfl, l', hP, hS, hR, hB2⟩
  go_wp2
  go_ret
  exact ⟨l', p, cap, by rw [hP.length_eq]; rfl, hP, hS, hR, hB.trans hB2⟩

end Go.Proofs.YtmaohnbddlccdaaGreat
