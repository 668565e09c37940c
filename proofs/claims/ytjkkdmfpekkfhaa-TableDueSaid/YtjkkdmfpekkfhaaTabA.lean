/- lessorlaw12.made, awake. -/
import Derived.Test.YtjkkdmfpekkfhaaTabK
namespace Go.Proofs.Ytjkkdmfpekkfhaa
open Go.RowKit Go.Sort

/-- What made answers: two pointers that are nil, or two tables of the same leases. -/
def GivesM (T : World → (Nat → Prop) → Nat → List LV → Prop) (l : List (Nat × Nat)) (ls : List LV) (w : World) (e : Ending) (w' : World) : Prop :=
  (∃ ol code, code ≠ 0 ∧ PoolRes l ol code ∧ e = .returned (.tuple #[.pointer none, .pointer none, .bool true]) ∧ Below w.heap.size w w') ∨
  (∃ ol P g gr v L, PoolRes l ol 0 ∧ e = .returned (.tuple #[.pointer (some ⟨g, 0, none⟩), .pointer (some ⟨gr, 0, none⟩), .bool true]) ∧ Hid (L = runT (newL (addrsOf ol)) ls) ∧ Two2 T w w' P g gr v L L)

set_option maxRecDepth 100000 in
set_option maxHeartbeats 4000000 in
theorem made_any {T : World → (Nat → Prop) → Nat → List LV → Prop} (K : TabK T) (A A2 : Option Addr) (c c2 : Nat) (l : List (Nat × Nat)) (ls : List LV) (w : World) (hR : Rg w w.heap.size A l) (hl : l.length ≤ 1000) (hE : El ElemL w w.heap.size A2 ls) (hls : ls.length ≤ 200) (ha : ∀ x ∈ ls, x.addr < 4294967296) :
    Calls Try.prog 10 #[.slice A l.length c, .slice A2 ls.length c2] w (GivesM T l ls w) := by
  have HK := Lib.hid K
  have HE := Lib.hid hE
  have HA := Lib.hid ha
  have HR := Lib.hid hR
  have HN := Lib.hid (K.new A c l w hR hl)
  clear hE ha hR K
  go_enter Try.func10, Try.ntmps10
  go_wp2_with fail
  refine HN.out.mono ?_
  rintro e w1 ⟨ol, code, hres, hB1, hn⟩
  have HRES := Lib.hid hres
  have HB1 := Lib.hid hB1
  have HRN := Lib.hid (rnew_any A c l w1 ((HR.out.below hB1).more hB1.size) hl)
  clear hres hB1 HN
  rcases hn with ⟨hc, rfl⟩ | ⟨rfl, P, g, L, rfl, HL, ht, hlo⟩
  · go_wp2_with fail
    refine HRN.out.mono ?_
    rintro e w2 ⟨om, code2, hres2, hB2, hn2⟩
    obtain ⟨rfl, rfl⟩ := res_agree HRES.out hres2
    have HB2 := Lib.hid (HB1.out.trans (hB2.mono HB1.out.size))
    clear hres2 hB2
    rcases hn2 with ⟨_, rfl⟩ | ⟨h0, _⟩
    · have HC := Lib.hid hc
      have hd : (code != code) = false := by simp
      clear hc
      by_cases hz : (0 : Int) < (ls.length : Int)
      · go_wp2
        go_loop [11, 12] (fun i _ => i = .int .i64 0) (fun _ _ => 0)
        case atStart => rfl
        case round =>
          obtain rfl := hrel
          go_wp2
          all_goals
            go_ret3
            exact .inl ⟨ol, code, HC.out, HRES.out, rfl, HB2.out⟩
      · have hz' : decide ((0 : Int) < (ls.length : Int)) = false := decide_eq_false hz
        clear hz
        go_wp2
        go_loop [11, 12] (fun i _ => i = .int .i64 0) (fun _ _ => 0)
        case atStart => rfl
        case round =>
          obtain rfl := hrel
          go_wp2
          all_goals
            go_ret3
            exact .inl ⟨ol, code, HC.out, HRES.out, rfl, HB2.out⟩
    · exact absurd h0 hc
  · have HT := Lib.hid ht
    have HLO := Lib.hid hlo
    clear ht hlo
    go_wp2_with fail
    refine HRN.out.mono ?_
    rintro e w2 ⟨om, code2, hres2, hB2, hn2⟩
    obtain ⟨rfl, rfl⟩ := res_agree HRES.out hres2
    rcases hn2 with ⟨hc, _⟩ | ⟨_, gr, v, L2, rfl, HL2, hr⟩
    · exact absurd rfl hc
    have HTWO : Hid (Two2 T w w2 P g gr v L L) := Lib.hid (by
      have e : L2 = L := by rw [HL2.out, HL.out]
      rw [e] at hr
      have hsz := HB1.out.size
      exact ⟨HK.out.later HT.out hB2, ⟨hr.box, hr.row.base HB1.out, by have := hr.lo; omega⟩, fun hk => by have h1 := HK.out.lt HT.out _ hk; have h2 := hr.lo; omega, fun k hv hk => by have h1 := HK.out.lt HT.out _ hk; have h2 := (hr.row.lt k hv).1; omega, HLO.out⟩)
    clear hres2 hB2 hr HL2
    go_wp2
    go_loopw [11, 12] (fun i _ wr => ∃ (j : Nat) (P' : Nat → Prop) (L' : List LV), j ≤ ls.length ∧ i = .int .i64 j ∧ Hid (L' = runT L (ls.take j)) ∧ Hid (Two2 T w wr P' g gr v L' L')) (fun i _ _ => ls.length - (intOf i).toNat)
    case atStart => exact ⟨0, P, L, Nat.zero_le _, rfl, Lib.hid rfl, HTWO⟩
    case round =>
      obtain ⟨j, P', L', hj, rfl, HL', HW⟩ := hrel
      by_cases hlt : j < ls.length
      · obtain ⟨x, hx⟩ : ∃ x, ls[j]? = some x := ⟨_, List.getElem?_eq_getElem hlt⟩
        have HX := Lib.hid hx
        have h200 : (j : Int) < 200 := by omega
        obtain ⟨b, o, rfl, hb, x0, x1, x2, x3, x4, x5, x6, x7⟩ := (HE.out.below HW.out.low).at8 j x hx
        have HS := Lib.hid (HK.out.set x HW.out.t (HA.out x (List.mem_of_getElem? hx)))
        have HRN2 : Hid (runT L (ls.take (j + 1)) = (setL L' x).1) := Lib.hid (by rw [take_snoc_of ls j x hx, runT_snoc, ← HL'.out])
        obtain ⟨r, hr⟩ : ∃ r, r = setL L' x := ⟨_, rfl⟩
        rw [← hr] at HS HRN2
        have HR2 := Lib.hid hr
        clear hx hr
        go_wp2_with fail
        refine HS.out.mono ?_
        rintro e w4 ⟨P2, rfl, hT4, hO4, hP4⟩
        have HT4 := Lib.hid (HW.out.first hT4 hO4 hP4)
        have HRS := Lib.hid (rset_any x HT4.out.r (Nat.le_trans (HK.out.few HW.out.t) (by omega)))
        rw [← HR2.out] at HRS
        clear x0 x1 x2 x3 x4 x5 x6 x7
        obtain ⟨b', o', e8, _, x0, x1, x2, x3, x4, x5, x6, x7⟩ := (HE.out.below HT4.out.low).at8 j x HX.out
        injection e8 with e8
        injection e8 with e81 e82
        subst e81 e82
        have hd : (r.2 != r.2) = false := by simp
        clear hT4 hO4 hP4 HS
        go_wp2_with fail
        refine HRS.out.mono ?_
        rintro e w5 ⟨rfl, hR5, hg5⟩
        have HT5 := Lib.hid (HT4.out.second HK.out hR5 hg5)
        clear x0 x1 x2 x3 x4 x5 x6 x7 hR5 hg5
        go_wp2
        go_roundw
        case rel => exact ⟨j + 1, P2, r.1, by omega, by go_num, Lib.hid HRN2.out.symm, HT5⟩
        case measure => simp [intOf]; omega
      · obtain rfl : j = ls.length := by omega
        have HLF : Hid (L' = runT (newL (addrsOf ol)) ls) := Lib.hid (by rw [HL'.out, List.take_of_length_le (Nat.le_refl _), HL.out])
        go_wp2
        go_ret3
        exact .inr ⟨ol, P', g, gr, v, L', HRES.out, rfl, HLF, HW.out⟩

theorem three_pool {ol : List (Nat × Nat)} {code : Int} (h : PoolRes [(1, 3)] ol code) : code = 0 ∧ addrsOf ol = [1, 2, 3] := by
  have hc : code = 0 := by
    rcases h with ⟨⟨x, hx, hb⟩, _⟩ | ⟨l', hv, hp, hs, ⟨hm, _, _⟩ | ⟨_, _, hc⟩⟩
    · simp at hx
      subst hx
      omega
    · exfalso
      have h1 : l' = [(1, 3)] := List.perm_singleton.1 hp
      subst h1
      revert hm
      decide
    · exact hc
  subst hc
  refine ⟨rfl, ?_⟩
  obtain ⟨hcan, _, hmem⟩ := pool_ok h
  have h3 : addrsOf [(1, 3)] = [1, 2, 3] := by decide
  have hs := hcan.sorted
  have hle : (addrsOf ol).Perm [1, 2, 3] := by
    refine (List.perm_ext_iff_of_nodup (hs.imp fun h => Nat.ne_of_lt h) (by decide)).2 fun a => ?_
    rw [hmem a, h3]
  exact rise_unique (lt := fun a b : Nat => a < b) (fun _ _ h k => by omega) hle hs (by decide)

set_option maxRecDepth 100000 in
set_option maxHeartbeats 2000000 in
theorem tawake_any {T : World → (Nat → Prop) → Nat → List LV → Prop} (K : TabK T) (w : World) :
    Calls Try.prog 8 #[] w fun e w' => e = .returned (.bool true) ∧ Below w.heap.size w w' := by
  obtain ⟨w1, hw1⟩ : ∃ w1, w1 = w.alloc (.cells #[.int .u32 1, .int .u32 3] 60) := ⟨_, rfl⟩
  have hB1 : Below w.heap.size w w1 := by rw [hw1]; exact (Below.refl _ _).alloc (Nat.le_refl _) _
  have hRg : Rg w1 w1.heap.size (some ⟨w.heap.size, 0, none⟩) [(1, 3)] := by
    have hh : w1.heap[w.heap.size]? = some (.cells #[.int .u32 1, .int .u32 3] 60 (0, 0)) := by rw [hw1]; exact heap_alloc_new w _
    refine ⟨fun x hx => by simp at hx; subst hx; decide, fun i x hx => ?_⟩
    match i, hx with
    | 0, hx =>
      simp at hx
      subst hx
      exact ⟨w.heap.size, 0, rfl, (Array.getElem?_eq_some_iff.1 hh).1, (cell_of_row _ _ 0 _ _ _ hh).trans rfl, (cell_of_row _ _ 1 _ _ _ hh).trans rfl⟩
    | i + 1, hx => simp at hx
  have HN := Lib.hid (K.new (some ⟨w.heap.size, 0, none⟩) 1 [(1, 3)] w1 hRg (by decide))
  have HB1 := Lib.hid hB1
  have HW1 := Lib.hid hw1
  have HK := Lib.hid K
  clear hw1 hB1 hRg K
  go_enter Try.func8, Try.ntmps8
  go_wp2_with fail
  rw [← HW1.out]
  refine HN.out.mono ?_
  rintro e w2 ⟨ol, code, hres, hB2, hn⟩
  obtain ⟨rfl, hks⟩ := three_pool hres
  rcases hn with ⟨hc, _⟩ | ⟨_, P, g, L, rfl, HL, ht, hlo⟩
  · exact absurd rfl hc
  have HB2 := Lib.hid (HB1.out.trans (hB2.mono HB1.out.size))
  have hS : setL L (bareL 2 1 0) = ([bareL 1 0 0, bareL 2 1 0, bareL 3 0 0], 0) := by
    rw [show L = newL [1, 2, 3] from by rw [HL.out, hks]]
    decide +kernel
  have HS := HK.out.set (bareL 2 1 0) ht (by decide)
  rw [hS] at HS
  have HS := Lib.hid HS
  have HLO : Hid (∀ k, P k → w.heap.size ≤ k) := Lib.hid (fun k hk => Nat.le_trans HB1.out.size (hlo k hk))
  clear hres hB2 hks ht hlo hS HL HN
  go_wp2_with fail
  refine HS.out.mono ?_
  rintro e w4 ⟨P', rfl, hT4, hO4, -⟩
  have HB4 := Lib.hid (hO4.below HLO.out HB2.out)
  have HF := Lib.hid (HK.out.fst 1 hT4)
  rw [show fstV (fstL [bareL 1 0 0, bareL 2 1 0, bareL 3 0 0] 1) = .tuple #[.int .u32 2, .bool true] from rfl] at HF
  have HT4 := Lib.hid hT4
  clear hT4 hO4 HS
  go_wp2_with fail
  refine HF.out.mono ?_
  rintro e w5 ⟨rfl, hB5⟩
  have HC := Lib.hid (HK.out.cnt 0 (HK.out.later HT4.out hB5))
  rw [show (cntL [bareL 1 0 0, bareL 2 1 0, bareL 3 0 0] 0 : Nat) = 2 from rfl] at HC
  have HB5 := Lib.hid (HB4.out.trans (hB5.mono HB4.out.size))
  clear hB5 HF
  go_wp2_with fail
  refine HC.out.mono ?_
  rintro e w6 ⟨rfl, hB6⟩
  go_wp2
  go_ret
  exact ⟨by simp, HB5.out.trans (hB6.mono HB5.out.size)⟩
end Go.Proofs.Ytjkkdmfpekkfhaa
