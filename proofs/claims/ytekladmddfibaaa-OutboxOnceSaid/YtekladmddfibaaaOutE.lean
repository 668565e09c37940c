/- The program's box: the numbers of what is outstanding, in order (maps.Keys, slices.Sorted); due. -/
import Derived.Test.YtekladmddfibaaaOutB
import Derived.Test.YtekladmddfibaaaMapI
import Derived.Test.YtekladmddfibaaaShelfK
namespace Go.Proofs.Ytekladmddfibaaa
open Go.RowKit Go.Sort Go.Maps Go.Shelf

/-- slices.Sort's two contracts. -/
theorem sortsI (m : Nat) : AnyZI.SortsIn Try.prog Try.sortedI_ren Fence.wide m :=
  ⟨fun blk off cap ss W hH hblk hsz => callsIn_wide.2 (AnyM.slices_Sort_int Try.sortI blk off cap ss W hH hblk hsz),
   fun p cap W => callsIn_wide.2 (AnyM.slices_Sort_int_none Try.sortI p cap W)⟩
theorem okeys_any (mb : Option Nat) (W : World) : Calls Try.prog 44 #[.map mb] W fun e w' => e = .returned (.func (.func 51) #[] #[.pointer (some ⟨W.heap.size, 0, none⟩)]) ∧ w' = W.alloc (.cells #[.map mb] 66) :=
  callsIn_wide.1 (AnyZI.keys_in Try.keysU Fence.wide 5 trivial rfl mb W)

/-- The numbers of what is outstanding, in order. -/
def xidsB (B : BxV) : List Int := B.l.map fun o => o.m.xid
theorem xids_sorted {B : BxV} (hok : B.Ok) : (xidsB B).mergeSort (fun x y => decide (x ≤ y)) = xidsB B := by
  refine List.mergeSort_of_pairwise (List.pairwise_map.2 (hok.rise.imp fun {o p} e => ?_))
  exact decide_eq_true (Int.le_of_lt e)
theorem fs_keys {B : BxV} {P : Int → Nat} (hok : B.Ok) {S : List (Int × Nat)} (hu : FS.K.Up S) (hm : ∀ k x, sF B.l P k = some x ↔ (k, x) ∈ S) : (S.map Prod.fst).Perm (xidsB B) := by
  refine (List.perm_ext_iff_of_nodup (FnKd.keys_nodup hu) (List.pairwise_map.2 (hok.rise.imp fun {o p} e => Int.ne_of_lt e))).2 fun x => ?_
  rw [List.mem_map, List.mem_map]
  constructor
  · rintro ⟨p, hp, rfl⟩
    exact (sF_iff.1 ((hm p.1 p.2).2 hp)).1
  · rintro ⟨o, ho, rfl⟩
    exact ⟨(o.m.xid, P o.m.xid), (hm _ _).1 (sF_iff.2 ⟨⟨o, ho, rfl⟩, rfl⟩), rfl⟩

set_option maxHeartbeats 1000000 in
theorem osorted_any {w : World} {b : Nat} {P : Int → Nat} {B : BxV} (h : FS.Holds w b (sF B.l P)) (hok : B.Ok) :
    Calls Try.prog 43 #[.func (.func 51) #[] #[.pointer (some ⟨w.heap.size, 0, none⟩)]] (w.alloc (.cells #[.map (some b)] 66)) fun e w' => ∃ v, e = .returned v ∧
      w'.ownsRow (w.alloc (.cells #[.map (some b)] 66)).heap.size 3 1 v (xidsB B).length ((xidsB B).map encZ) ∧ Below (w.heap.size + 1) (w.alloc (.cells #[.map (some b)] 66)) w' := by
  obtain ⟨S, hS, hR, hm⟩ := h.ex
  have hp := fs_keys hok hS.2 hm
  have hlen : S.length ≤ 1073741824 := by
    have h1 := hp.length_eq
    rw [List.length_map] at h1
    unfold xidsB at h1
    rw [List.length_map] at h1
    rw [h1]
    exact hok.len
  have hown := (hS.alloc (.cells #[.map (some b)] 66)).1
  have hsz := FS.K.size_dat S
  have hseq : SeqGives Fence.wide 2 Try.prog 51 #[.pointer (some ⟨w.heap.size, 0, none⟩)] encZ (fun ss => ss.Perm (intKeys (FS.K.dat S))) (Maps.size (FS.K.dat S)) (w.alloc (.cells #[.map (some b)] 66)) :=
    AnyZI.keys_gives (ρ := Try.keysU_ren) { Try.keysU with } Fence.wide _ trivial rfl (by omega) w.heap.size b S.length (FS.K.dat S) _ (by simp) (by simp) hown
  have cS := AnyZI.sorted_in Try.sortedI Fence.wide 5 trivial trivial trivial trivial rfl (by omega) (sortsI _) (enters_of Try.func50 (by kernel_rfl) rfl) 51 #[.pointer (some ⟨w.heap.size, 0, none⟩)] trivial (enters_of Try.func51 (by kernel_rfl) rfl) _ _ (by rw [hsz]; unfold maxLen; omega) (by rw [hsz]; omega) _ hseq
  refine (callsIn_wide.1 cS).mono ?_
  rintro e w' ⟨v, ss, rfl, hss, hrow, -, hb⟩
  have hk : intKeys (FS.K.dat S) = S.map Prod.fst := by
    show (S.map FS.K.ent).map _ = _
    rw [List.map_map]
    rfl
  rw [hk] at hss
  have e1 : ss.mergeSort (fun x y => decide (x ≤ y)) = xidsB B := by
    rw [← xids_sorted hok]
    exact mergeSort_of_perm_i (hss.trans hp)
  have e2 : ss.length = (xidsB B).length := (hss.trans hp).length_eq
  rw [e1, e2] at hrow
  refine ⟨v, rfl, hrow, ?_⟩
  have e3 : (w.alloc (.cells #[.map (some b)] 66)).heap.size = w.heap.size + 1 := World.size_alloc _ _
  rw [e3] at hb
  exact hb

theorem odue_any (g : Nat) (now : Int) (w : World) :
    Calls Try.prog 37 #[.pointer (some ⟨g, 0, none⟩), .int .i64 now] w fun e w' => e = .returned (.func (.func 42) #[] #[.pointer (some ⟨w.heap.size, 0, none⟩), .pointer (some ⟨w.heap.size + 1, 0, none⟩)]) ∧
      w' = (w.alloc (.cells #[.pointer (some ⟨g, 0, none⟩)] 24)).alloc (.cells #[.int .i64 now] 3) := by
  go_enter Try.func37, Try.ntmps37
  go_wp2
  go_ret
  exact ⟨by simp, rfl⟩
end Go.Proofs.Ytekladmddfibaaa
