/- slices.SortFunc at leases, for any closure that tells a strict weak order. -/
import Derived.Test.YtmaohnbddlccdaaGreatMrgTabH
import Derived.Test.YtmaohnbddlccdaaGreatMrgTabP
import Derived.Test.YtmaohnbddlccdaaGreatShelfL
namespace Go.Proofs.YtmaohnbddlccdaaGreat
open Go.RowKit Go.Sort Go.Lib Go.Shelf

instance inhabitedLS : Inhabited LV := ⟨⟨0, 0, [], 0, 0, 0, 0, 0⟩⟩
/-- What is asked of a closure that tells an order of leases. -/
def TellsL (fc : FuncId) (bs : Array Value) (cf : LV → LV → Int) : Prop :=
  ∀ (x y : LV) (W : World), Calls Tryz.prog fc (#[x.v, y.v] ++ bs) W fun e w' => e = .returned (.int .i64 (cf x y)) ∧ ∃ q os', w' = grow (W.drewN q) os'

set_option maxRecDepth 100000 in
set_option maxHeartbeats 1000000 in
theorem sortLs_any {w0 w : World} {p : Option Addr} {c : Nat} {l : List LV} {fc : FuncId} {bs : Array Value} {cf : LV → LV → Int} (hs : SWO (ltOf cf)) (eg : ∀ args w, (callFunc fc args).run Tryz.prog w = .ok (.enter fc args) w) (ht : TellsL fc bs cf)
    (h : RowE ElemL w0 w (.slice p l.length c) l) (hl : l.length * 72 ≤ 140737488351232) :
    Calls Tryz.prog 173 #[.slice p l.length c, .func (.func fc) #[] bs] w fun e w' => e = .returned (.tuple #[]) ∧ ∃ l', l'.Perm l ∧ (l'.Pairwise fun x y => ltOf cf y x = false) ∧ RowE ElemL w0 w' (.slice p l'.length c) l' := by
  by_cases h0 : l = []
  · subst h0
    have hcon := AnyF.slices_SortFunc_none Tryz.sortLs p c (.func (.func fc) #[] bs) w
    refine hcon.mono ?_
    rintro e w' ⟨rfl, rfl⟩
    exact ⟨rfl, [], .refl _, .nil, h⟩
  · have hpos : 0 < l.length := List.length_pos_iff.2 h0
    obtain ⟨g, rfl, hlo, hg, hH⟩ := h.holds hpos
    have hcon := AnyQ.slices_SortFunc Tryz.sortLs 8 Tryz.isAgg42 Tryz.sizeOf42 ElemL.cells ElemL.len (fun x v hv => ElemL.one x v hv) cf hs fc bs g 0 c l.toArray w eg (fun m os dk _ x y => ht x y _) hH hg (by simp; omega)
    rw [List.size_toArray] at hcon
    refine hcon.mono ?_
    rintro e w' ⟨rfl, d', n, os, hP, hS, rfl⟩
    have hds : d'.size = l.length := by have := hP.1; simpa using this
    have hperm : d'.toList.Perm l := by
      have h2 := hP.2.2
      simp at h2
      rwa [List.take_of_length_le (by simp [hds])] at h2
    exact ⟨rfl, d'.toList, hperm, sorted_list (ltOf cf) d' l.length hds hS, h.sorted n d' os hds⟩
end Go.Proofs.YtmaohnbddlccdaaGreat
