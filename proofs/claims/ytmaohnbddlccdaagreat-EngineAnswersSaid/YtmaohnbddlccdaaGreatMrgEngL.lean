/- Joined texts: EngL, EngI, EngK. -/
import Derived.Test.YtmaohnbddlccdaaGreatMrgEngZ
import Derived.Test.YtmaohnbddlccdaaGreatMrgTabN

/- lessorlaw20: made. -/
section
namespace Go.Proofs.YtmaohnbddlccdaaGreat
open Go.RowKit Go.Sort

theorem pool_few {l : List (Nat × Nat)} (h : ∀ x ∈ l, x.1 ≤ x.2) : l.length ≤ (addrsOf l).length := by
  induction l with
  | nil => simp
  | cons x l ih =>
    have h1 := h x (by simp)
    have h2 := ih fun y hy => h y (List.mem_cons_of_mem x hy)
    unfold addrsOf at h2 ⊢
    rw [List.flatMap_cons, List.length_append, seg_length, List.length_cons]
    omega
theorem runT_addrs (L ls : List LV) : (runT L ls).map LV.addr = L.map LV.addr := by
  unfold runT
  induction ls generalizing L with
  | nil => rfl
  | cons x ls ih => rw [List.foldl_cons, ih, setL_addrs]

/-- What made answers: two pointers that are nil, or two tables of the same leases. -/
def GivesME (T : World → (Nat → Prop) → Nat → List LV → Prop) (l : List (Nat × Nat)) (ls : List LV) (w : World) (e : Ending) (w' : World) : Prop :=
  (∃ ol code, code ≠ 0 ∧ RefRes l ol code ∧ e = .returned (.tuple #[.pointer none, .pointer none]) ∧ Below w.heap.size w w') ∨
  (∃ ol P g gr v L, RefRes l ol 0 ∧ e = .returned (.tuple #[.pointer (some ⟨g, 0, none⟩), .pointer (some ⟨gr, 0, none⟩)]) ∧ Hid (L = runT (newL (addrsOf ol)) ls) ∧ Two2 T w w' P g gr v L L)
theorem tabA_of {T : World → (Nat → Prop) → Nat → List LV → Prop} {w : World} {P : Nat → Prop} {g : Nat} {L ls : List LV} {l ol : List (Nat × Nat)} (hr : RefRes l ol 0) (hL : L = runT (newL (addrsOf ol)) ls) (h : T w P g L) : TabA T w ol (some ⟨g, 0, none⟩) (some L) := by
  obtain ⟨hc, hn⟩ := ref_can hr rfl
  have h1 := pool_few hc.val
  refine .yes g P L h (fun y hy => ?_) (by omega)
  have h2 : y.addr ∈ L.map LV.addr := List.mem_map_of_mem hy
  rw [hL, runT_addrs, new_addrs] at h2
  rwa [List.take_of_length_le (by omega)]

set_option maxRecDepth 100000 in
set_option maxHeartbeats 4000000 in
theorem emade_any {T : World → (Nat → Prop) → Nat → List LV → Prop} (K : TabK T) (x : SiteV) (A2 : Option Addr) (c2 : Nat) (ls : List LV) (w : World) (hR : Rg w w.heap.size x.plA x.pl) (hl : x.pl.length ≤ 1000) (hE : El ElemL w w.heap.size A2 ls) (hls : ls.length ≤ 100) (ha : ∀ x ∈ ls, x.addr < 4294967296) :
    Calls Tryz.prog 10 #[x.v, .slice A2 ls.length c2] w (GivesME T x.pl ls w) := by
  obtain ⟨w0, hw0⟩ : ∃ w0, w0 = w.alloc (.cells x.cells 27) := ⟨_, rfl⟩
  have hB : Below w.heap.size w w0 := by rw [hw0]; exact (Below.refl _ _).alloc (Nat.le_refl _) _
  have hX : SBox w0 w.heap.size x := by rw [hw0]; exact Bx.new _ _ _
  have HX := Lib.hid hX
  have HB := Lib.hid hB
  have HW0 := Lib.hid hw0
  have HK := Lib.hid K
  have HE := Lib.hid hE
  have HA := Lib.hid ha
  have HR := Lib.hid ((hR.below hB).more hB.size)
  have HN := Lib.hid (K.new x.plA x.plC x.pl w0 HR.out hl)
  have c11 := hX.at_ 11
  clear hE ha hR K hw0 hB hX
  go_enter Tryz.func10, Tryz.ntmps10
  go_upto_region 1 with fail
  rw [← HW0.out]
  go_wp2_with fail
  refine HN.out.mono ?_
  rintro e w1 ⟨ol, code, hres, hB1, hn⟩
  have HRES := Lib.hid hres
  have HB1 := Lib.hid hB1
  have HRN := Lib.hid (rtnew_any x.plA x.plC x.pl w1 ((HR.out.below hB1).more hB1.size) hl)
  clear hres hB1 HN c11
  have c11 := (HX.out.later HB1.out).at_ 11
  rcases hn with ⟨hc, rfl⟩ | ⟨rfl, P, g, L, rfl, HL, ht, hlo⟩
  · go_wp2_with fail
    refine HRN.out.mono ?_
    rintro e w2 ⟨om, code2, hres2, hB2, hn2⟩
    obtain ⟨rfl, rfl⟩ := res_agree HRES.out hres2
    have HB2 := Lib.hid (HB.out.trans ((HB1.out.trans (hB2.mono HB1.out.size)).mono HB.out.size))
    have HRR := Lib.hid hres2
    clear hres2 hB2 c11
    rcases hn2 with ⟨_, rfl⟩ | ⟨h0, _⟩
    · have HC := Lib.hid hc
      clear hc
      by_cases hz : (0 : Int) < (ls.length : Int)
      · go_wp2
        go_loop [10] (fun i => i = .int .i64 0) (fun _ => 0)
        case atStart => rfl
        case round =>
          obtain rfl := hrel
          go_wp2
          all_goals
            go_ret2
            exact .inl ⟨ol, code, HC.out, HRR.out, rfl, HB2.out⟩
      · have hz' : decide ((0 : Int) < (ls.length : Int)) = false := decide_eq_false hz
        clear hz
        go_wp2
        go_loop [10] (fun i => i = .int .i64 0) (fun _ => 0)
        case atStart => rfl
        case round =>
          obtain rfl := hrel
          go_wp2
          all_goals
            go_ret2
            exact .inl ⟨ol, code, HC.out, HRR.out, rfl, HB2.out⟩
    · exact absurd h0 hc
  · have HT := Lib.hid ht
    have HLO := Lib.hid hlo
    clear ht hlo
    go_wp2_with fail
    refine HRN.out.mono ?_
    rintro e w2 ⟨om, code2, hres2, hB2, hn2⟩
    obtain ⟨rfl, rfl⟩ := res_agree HRES.out hres2
    have HRR := Lib.hid hres2
    rcases hn2 with ⟨hc, _⟩ | ⟨_, gr, v, L2, rfl, HL2, hr⟩
    · exact absurd rfl hc
    have HTWO : Hid (Two2 T w w2 P g gr v L L) := Lib.hid (by
      have e : L2 = L := by rw [HL2.out, HL.out]
      rw [e] at hr
      have hsz := HB1.out.size
      have hs0 := HB.out.size
      have hb01 : Below w.heap.size w w1 := HB.out.trans (HB1.out.mono HB.out.size)
      exact ⟨HK.out.later HT.out hB2, ⟨hr.box, hr.row.base hb01, by have := hr.lo; omega⟩, fun hk => by have h1 := HK.out.lt HT.out _ hk; have h2 := hr.lo; omega, fun k hv hk => by have h1 := HK.out.lt HT.out _ hk; have h2 := (hr.row.lt k hv).1; omega, fun k hk => Nat.le_trans hs0 (HLO.out k hk)⟩)
    clear hres2 hB2 hr HL2 c11
    go_wp2
    go_loopw [10] (fun i wr => ∃ (j : Nat) (P' : Nat → Prop) (L' : List LV), j ≤ ls.length ∧ i = .int .i64 j ∧ Hid (L' = runT L (ls.take j)) ∧ Hid (Two2 T w wr P' g gr v L' L')) (fun i _ => ls.length - (intOf i).toNat)
    case atStart => exact ⟨0, P, L, Nat.zero_le _, rfl, Lib.hid rfl, HTWO⟩
    case round =>
      obtain ⟨j, P', L', hj, rfl, HL', HW⟩ := hrel
      by_cases hlt : j < ls.length
      · obtain ⟨y, hx⟩ : ∃ y, ls[j]? = some y := ⟨_, List.getElem?_eq_getElem hlt⟩
        have HXX := Lib.hid hx
        have hg : decide ((j : Int) < (ls.length : Int)) = true := by simp; omega
        obtain ⟨b, o, rfl, hb, x0, x1, x2, x3, x4, x5, x6, x7⟩ := (HE.out.below HW.out.low).at8 j y hx
        have HS := Lib.hid (HK.out.set y HW.out.t (HA.out y (List.mem_of_getElem? hx)))
        have HRN2 : Hid (runT L (ls.take (j + 1)) = (setL L' y).1) := Lib.hid (by rw [take_snoc_of ls j y hx, runT_snoc, ← HL'.out])
        obtain ⟨r, hr⟩ : ∃ r, r = setL L' y := ⟨_, rfl⟩
        rw [← hr] at HS HRN2
        have HR2 := Lib.hid hr
        clear hx hr
        go_wp2_with fail
        refine HS.out.mono ?_
        rintro e w4 ⟨P2, rfl, hT4, hO4, hP4⟩
        have HT4 := Lib.hid (HW.out.first hT4 hO4 hP4)
        have HRS := Lib.hid (rset_any y HT4.out.r (Nat.le_trans (HK.out.few HW.out.t) (by omega)))
        rw [← HR2.out] at HRS
        clear x0 x1 x2 x3 x4 x5 x6 x7
        obtain ⟨b', o', e8, _, x0, x1, x2, x3, x4, x5, x6, x7⟩ := (HE.out.below HT4.out.low).at8 j y HXX.out
        injection e8 with e8
        injection e8 with e81 e82
        subst e81 e82
        clear hT4 hO4 hP4 HS
        go_wp2_with fail
        refine HRS.out.mono ?_
        rintro e w5 ⟨rfl, hR5, hg5⟩
        have HT5 := Lib.hid (HT4.out.second HK.out hR5 hg5)
        clear x0 x1 x2 x3 x4 x5 x6 x7 hR5 hg5
        go_wp2
        go_roundw
        case rel => exact ⟨j + 1, P2, r.1, by omega, by go_num, Lib.hid HRN2.out.symm, HT5⟩
        case measure => simp [intOf]; omega
      · have hg : decide ((j : Int) < (ls.length : Int)) = false := decide_eq_false (by omega)
        go_wp2
        go_ret2
        refine .inr ⟨ol, P', g, gr, v, L', HRR.out, rfl, Lib.hid ?_, HW.out⟩
        rw [HL'.out, List.take_of_length_le (by omega), HL.out]
end Go.Proofs.YtmaohnbddlccdaaGreat
end

/- lessorlaw20: site, long. -/
section
namespace Go.Proofs.YtmaohnbddlccdaaGreat
open Go.RowKit Go.Sort

theorem rowS : RowT 27 13 := ⟨by kernel_rfl, by kernel_rfl⟩
/-- The law's own site. -/
def lawS (id : Int) (A : Option Addr) : SiteV := ⟨id, 10, 4, 9, 100, 1000, 256, 4602678819172646912, 4591870180066957722, 4602678819172646912, 4606056518893174784, A, 1, [(1, 6)], 10000⟩

set_option maxRecDepth 100000 in
set_option maxHeartbeats 2000000 in
theorem site_any (id : Int) (w : World) :
    Calls Tryz.prog 16 #[.int .i64 id] w fun e w' => ∃ A, e = .returned (lawS id A).v ∧ Rg w' w'.heap.size A [(1, 6)] ∧ Below w.heap.size w w' := by
  obtain ⟨w0, hw0⟩ : ∃ w0, w0 = w.alloc (.cells #[.int .i64 0, .int .i64 0, .int .i64 0, .int .u32 0, .int .i64 0, .int .i64 0, .int .i64 0, .float .f64 0, .float .f64 0, .float .f64 0, .float .f64 0, .slice none 0 0, .int .i64 0] 27) := ⟨_, rfl⟩
  have hb : Below w.heap.size w w0 := by rw [hw0]; exact (Below.refl _ _).alloc (Nat.le_refl _) _
  have hZ : Bx w0 w.heap.size 27 #[.int .i64 0, .int .i64 0, .int .i64 0, .int .u32 0, .int .i64 0, .int .i64 0, .int .i64 0, .float .f64 0, .float .f64 0, .float .f64 0, .float .f64 0, .slice none 0 0, .int .i64 0] := by rw [hw0]; exact Bx.new _ _ _
  have HS : Hid (w0.heap.size = w.heap.size + 1) := Lib.hid (by rw [hw0]; simp)
  have HZ := Lib.hid (hZ.alloc (.cells #[.int .u32 1, .int .u32 6] 89))
  have HB := Lib.hid (hb.alloc hb.size (.cells #[.int .u32 1, .int .u32 6] 89))
  have HA : Hid ((w0.alloc (.cells #[.int .u32 1, .int .u32 6] 89)).heap[w0.heap.size]? = some (.cells #[.int .u32 1, .int .u32 6] 89 (0, 0))) := Lib.hid (heap_alloc_new w0 _)
  have HW0 := Lib.hid hw0
  clear hw0 hb hZ
  go_enter Tryz.func16, Tryz.ntmps16
  go_upto_region 1 with fail
  rw [← HW0.out]
  go_wp2_with (first | (refine wp_storeR rowS rfl _ _ rfl w.heap.size (lawS id (some ⟨w0.heap.size, 0, none⟩)).cells rfl rfl HZ.out rfl rfl rfl ?_))
  have HX := Lib.hid (HZ.out.set (lawS id (some ⟨w0.heap.size, 0, none⟩)).cells)
  refine bodyPost_ret (v := (lawS id (some ⟨w0.heap.size, 0, none⟩)).v) (results_R rowS rfl rfl HX.out rfl) rfl ⟨_, rfl, ?_, HB.out.trans (below_setRow _ _ _ (Nat.le_refl _))⟩
  have hA : ((w0.alloc (.cells #[.int .u32 1, .int .u32 6] 89)).setRow w.heap.size (lawS id (some ⟨w0.heap.size, 0, none⟩)).cells).heap[w0.heap.size]? = some (.cells #[.int .u32 1, .int .u32 6] 89 (0, 0)) := by
    rw [setRow_other _ _ _ _ (by have := HS.out; omega)]
    exact HA.out
  refine ⟨?_, ?_⟩
  · intro x hx
    simp at hx
    subst hx
    decide
  · intro i x hx
    have hi : i = 0 := by
      have := (List.getElem?_eq_some_iff.1 hx).1
      simp at this
      omega
    subst hi
    simp at hx
    subst hx
    exact ⟨w0.heap.size, 0, rfl, (Array.getElem?_eq_some_iff.1 hA).1, cell_of_row _ _ 0 _ _ _ hA, cell_of_row _ _ 1 _ _ _ hA⟩

/-- A case, as it lies. -/
structure CaseV where
  s : Int
  now : Int
  entry : Int
  p : NO.PktV
abbrev CaseV.cells (c : CaseV) : Array Value := #[.int .i64 c.s, .int .i64 c.now, .int .i64 c.entry, .int .i64 c.p.op, .int .u32 (c.p.xid : Int), .int .i64 c.p.secs, .int .i64 c.p.flags, .int .u32 (c.p.ci : Int), .int .u32 (c.p.yi : Int), .int .u32 (c.p.si : Int), .int .u32 (c.p.gi : Int), .slice c.p.hwA c.p.hw.length c.p.hwC, .slice c.p.opA c.p.L.length c.p.opC]
abbrev CaseV.v (c : CaseV) : Value := .agg c.cells
/-- Is there more than a test should have? -/
def elongB (x : SiteV) (ls : List LV) (c : CaseV) : Bool := (ls.any fun y => decide (100 < y.client.length)) || !NO.pfewB c.p || decide (100 < ls.length) || decide (20 < x.pl.length)

set_option maxRecDepth 100000 in
set_option maxHeartbeats 2000000 in
theorem elong_any (x : SiteV) (A2 : Option Addr) (c2 : Nat) (ls : List LV) (c : CaseV) (w : World) (h : El ElemL w w.heap.size A2 ls) (hp : NO.Pk w w.heap.size c.p) (hlm : c.p.L.length ≤ 9223372036854775807) (hdm : ∀ y ∈ c.p.L, y.data.length ≤ 9223372036854775807) (hhm : c.p.hw.length ≤ 9223372036854775807) (hl : x.pl.length ≤ 9223372036854775807) (hls : ls.length ≤ 9223372036854775807) :
    Calls Tryz.prog 9 #[x.v, .slice A2 ls.length c2, c.v] w fun e w' => e = .returned (.bool (elongB x ls c)) ∧ Below w.heap.size w w' := by
  obtain ⟨w0, hw0⟩ : ∃ w0, w0 = (w.alloc (.cells x.cells 27)).alloc (.cells c.cells 34) := ⟨_, rfl⟩
  have hs : (w.alloc (.cells x.cells 27)).heap.size = w.heap.size + 1 := by simp
  have hB : Below w.heap.size w w0 := by rw [hw0]; exact ((Below.refl _ _).alloc (Nat.le_refl _) _).alloc (by simp) _
  have hX : SBox w0 w.heap.size x := by rw [hw0]; exact (Bx.new _ _ _).alloc _
  have hC : Bx w0 (w.heap.size + 1) 34 c.cells := by rw [hw0, ← hs]; exact Bx.new _ _ _
  have HF := Lib.hid (NO.pfew_any c.p w0 (hp.later hB) hlm hdm hhm)
  have HE := Lib.hid (h.later hB)
  have HX := Lib.hid hX
  have HB := Lib.hid hB
  have HW0 := Lib.hid hw0
  have k3 := hC.at_ 3
  have k4 := hC.at_ 4
  have k5 := hC.at_ 5
  have k6 := hC.at_ 6
  have k7 := hC.at_ 7
  have k8 := hC.at_ 8
  have k9 := hC.at_ 9
  have k10 := hC.at_ 10
  have k11 := hC.at_ 11
  have k12 := hC.at_ 12
  clear hw0 hs hB hX hC h hp hdm
  obtain ⟨B, hBB⟩ : ∃ B, B = elongB x ls c := ⟨_, rfl⟩
  rw [← hBB]
  unfold elongB at hBB
  have HLB := Lib.hid hBB
  clear hBB
  generalize NO.pfewB c.p = fw at *
  go_enter Tryz.func9, Tryz.ntmps9
  go_upto_region 1 with fail
  rw [← HW0.out]
  go_wp2_with fail
  refine HF.out.mono ?_
  rintro e w1 ⟨rfl, hw1⟩
  have hb1 : Below w0.heap.size w0 w1 := by rw [hw1]; exact (Below.refl _ _).alloc (Nat.le_refl _) _
  have HE1 := Lib.hid (HE.out.later hb1)
  have HX1 := Lib.hid (HX.out.later hb1)
  have HB1 := Lib.hid (HB.out.trans (hb1.mono HB.out.size))
  clear hb1 hw1 HF k3 k4 k5 k6 k7 k8 k9 k10 k11 k12
  go_wp2
  go_loop [8] (fun i => ∃ j : Nat, j ≤ ls.length ∧ i = .int .i64 j ∧ Hid (∀ y ∈ ls.take j, y.client.length ≤ 100)) (fun i => ls.length - (intOf i).toNat)
  case atStart => exact ⟨0, Nat.zero_le _, rfl, Lib.hid (by simp)⟩
  case round =>
    obtain ⟨j, hj, rfl, HN⟩ := hrel
    by_cases hlt : j < ls.length
    · have hg : decide ((j : Int) < (ls.length : Int)) = true := by simp; omega
      obtain ⟨y, hy⟩ : ∃ y, ls[j]? = some y := ⟨_, List.getElem?_eq_getElem hlt⟩
      obtain ⟨b, o, rfl, hb, -, -, c02, -⟩ := HE1.out.at8 j y hy
      have HY := Lib.hid hy
      have HCB := Lib.hid y.cb_size
      clear hy
      by_cases he : 100 < y.client.length
      · have hd : decide ((100 : Int) < (y.cb.size : Int)) = true := by rw [HCB.out]; simp; omega
        have hBt : B = true := by
          rw [HLB.out, List.any_eq_true.2 ⟨y, List.mem_of_getElem? HY.out, decide_eq_true he⟩]
          rfl
        subst hBt
        clear he
        go_wp2
        go_ret
        exact ⟨rfl, HB1.out⟩
      · have hd : decide ((100 : Int) < (y.cb.size : Int)) = false := by rw [HCB.out]; simp; omega
        have HN2 : Hid (∀ z ∈ ls.take (j + 1), z.client.length ≤ 100) := Lib.hid (by
          intro z hz
          rw [take_snoc_of ls j y HY.out, List.mem_append, List.mem_singleton] at hz
          rcases hz with hz | rfl
          · exact HN.out z hz
          · omega)
        clear he
        go_wp2
        go_round
        case rel => exact ⟨j + 1, by omega, by go_num, HN2⟩
        case measure => simp [intOf]; omega
    · have hg : decide ((j : Int) < (ls.length : Int)) = false := decide_eq_false (by omega)
      have HA : Hid ((ls.any fun y => decide (100 < y.client.length)) = false) := Lib.hid (by
        rw [List.any_eq_false]
        intro y hy
        have := HN.out y (by rwa [List.take_of_length_le (by omega)])
        simp
        omega)
      have k11 := HX1.out.at_ 11
      have HLC : Hid (B = (!fw || decide (100 < ls.length) || decide (20 < x.pl.length))) := Lib.hid (by rw [HLB.out, HA.out]; rfl)
      clear HA HLB
      cases fw
      · have hBt : B = true := by rw [HLC.out]; rfl
        subst hBt
        go_wp2
        go_ret
        exact ⟨rfl, HB1.out⟩
      · by_cases h1 : 100 < ls.length
        · have hd : decide ((100 : Int) < (ls.length : Int)) = true := by simp; omega
          have hBt : B = true := by rw [HLC.out, decide_eq_true h1]; rfl
          subst hBt
          clear h1
          go_wp2
          go_ret
          exact ⟨rfl, HB1.out⟩
        · have hd : decide ((100 : Int) < (ls.length : Int)) = false := by simp; omega
          have hBt : B = decide ((20 : Int) < (x.pl.length : Int)) := by
            rw [HLC.out, decide_eq_false h1, Bool.not_true, Bool.false_or, Bool.false_or, decide_eq_decide]
            omega
          subst hBt
          clear h1
          go_wp2
          go_ret
          exact ⟨rfl, HB1.out⟩
end Go.Proofs.YtmaohnbddlccdaaGreat
end

/- engine, pure: replies are small; what the law's own call comes to. -/
section
namespace Go.Proofs.YtmaohnbddlccdaaGreat
open Go.RowKit Go.Sort

/-- Few options, all short. -/
def Small (p : NO.PktA) : Prop := p.opts.length ≤ 5 ∧ ∀ o ∈ p.opts, o.2.length ≤ 4
theorem opt_small (code n : Int) : (optE code n 4).2.length ≤ 4 ∧ (optE code n 1).2.length ≤ 4 := by
  unfold optE NO.bytR
  constructor
  · show (if _ then _ else _ : List UInt8 × Int).1.length ≤ 4
    split
    · show (NO.beL n.toNat (4 : Int).toNat).length ≤ 4
      rw [NO.beL_length]
      decide
    · simp
  · show (if _ then _ else _ : List UInt8 × Int).1.length ≤ 4
    split
    · show (NO.beL n.toNat (1 : Int).toNat).length ≤ 4
      rw [NO.beL_length]
      decide
    · simp
theorem zero_small : Small zeroPA := ⟨by simp [zeroPA], fun o h => by simp [zeroPA] at h⟩
theorem reply_small (x : SiteV) (p : NO.PktA) (kind : Int) : Small (replyE x p kind []) := by
  refine ⟨by simp [replyE], fun o h => ?_⟩
  simp [replyE] at h
  rcases h with rfl | rfl
  · exact (opt_small _ _).2
  · exact (opt_small _ _).1
theorem prom_small (x : SiteV) (p : NO.PktA) (kind : Int) (a : Nat) (n : Int) : Small (promE x p kind a n) := by
  refine ⟨by simp [promE, replyE, moreE], fun o h => ?_⟩
  simp [promE, replyE, moreE] at h
  rcases h with rfl | rfl | rfl | rfl | rfl
  · exact (opt_small _ _).2
  all_goals exact (opt_small _ _).1
theorem offer_small (x : SiteV) (L : List LV) (s now entry : Int) (p : NO.PktA) : Small (offerE x L s now entry p).reply := by
  unfold offerE
  split
  · exact zero_small
  · split
    · exact zero_small
    · split
      · exact zero_small
      · exact prom_small _ _ _ _ _
theorem request_small (x : SiteV) (L : List LV) (s now entry : Int) (p : NO.PktA) : Small (requestE x L s now entry p).reply := by
  unfold requestE
  split
  · exact zero_small
  · split
    · exact prom_small _ _ _ _ _
    · split
      · exact zero_small
      · exact reply_small _ _ _
theorem answer_small (x : SiteV) (ok fair : Bool) (Lo : Option (List LV)) (s now entry : Int) (p : NO.PktA) : Small (answerE x ok fair Lo s now entry p).reply := by
  unfold answerE
  split
  · exact zero_small
  · split
    · unfold kindE
      split
      · exact offer_small _ _ _ _ _ _
      · split
        · exact request_small _ _ _ _ _ _
        · split
          · unfold declineE; split <;> exact zero_small
          · split
            · unfold releaseE; split <;> exact zero_small
            · split
              · exact reply_small _ _ _
              · exact zero_small
    · exact zero_small
/-- The options of an answer in memory. -/
theorem small_mem {a : AnW} {X : AnsV} (h : a.abs = X) (hs : Small X.reply) : a.p.L.length ≤ 1000 ∧ ∀ y ∈ a.p.L, y.data.length ≤ 1000 := by
  have e : NO.absL a.p.L = X.reply.opts := by rw [← h]; rfl
  refine ⟨?_, fun y hy => ?_⟩
  · have h1 := hs.1
    rw [← e, NO.absL, List.length_map] at h1
    omega
  · have h2 := hs.2 y.abs (by rw [← e]; exact List.mem_map_of_mem hy)
    have h3 : y.data.length ≤ 4 := h2
    omega

def awP : NO.PktA := ⟨1, 7, 0, 0, 0, 0, 0, 0, [3], [(53, [1])]⟩
def awL : List LV := newL [1, 2, 3, 4, 5, 6]
theorem six_ref : RefRes [(1, 6)] [(1, 6)] 0 := by
  refine .inr ⟨by simp, .inr ⟨⟨by simp, by simp⟩, fun a => Iff.rfl, by decide, rfl⟩⟩
theorem six_addrs : addrsOf [(1, 6)] = [1, 2, 3, 4, 5, 6] := by decide
theorem awake_is (A : Option Addr) : answerE (lawS 0 A) true true (some awL) 1 5 0 awP = sentA (promE (lawS 0 A) awP 2 1 10) := by
  have h1 : (true = true ∧ NC.ServesI 1 ∧ witB 5 0 1099511627776 = true ∧ true = true ∧ awP.op = 1) := ⟨rfl, .inl rfl, rfl, rfl, rfl⟩
  have h2 : NO.kindA awP = 1 := by decide
  have h3 : mineE (lawS 0 A) (NO.clientA awP) = true := by
    unfold mineE
    rw [if_neg (show ¬ (lawS 0 A).id = 1 from (by decide : ¬ (0 : Int) = 1))]
    have := NB.bkN_lt (NO.clientA awP)
    have e : (lawS 0 A).first = 256 := rfl
    rw [e]
    exact decide_eq_true (by omega)
  have h4 : pickE (NO.clientA awP) (mayE (lawS 0 A) 1 5 0) awL (NO.askA awP) = some (bareL 1 0 0) := by rfl
  have h5 : longE (lawS 0 A) awP 5 (bareL 1 0 0) = 10 := by rfl
  unfold answerE
  show (if _ then kindE (lawS 0 A) awL 1 5 0 awP else noA) = _
  rw [if_pos h1]
  unfold kindE
  rw [if_pos h2]
  unfold offerE
  rw [if_neg (by rw [h3]; rintro ⟨_, h⟩; cases h), h4]
  show (if longE (lawS 0 A) awP 5 (bareL 1 0 0) < 1 then noA else _) = _
  rw [h5]
  rfl
theorem awake_kind (A : Option Addr) : NO.kindA (promE (lawS 0 A) awP 2 1 10) = 2 := by rfl
end Go.Proofs.YtmaohnbddlccdaaGreat
end
