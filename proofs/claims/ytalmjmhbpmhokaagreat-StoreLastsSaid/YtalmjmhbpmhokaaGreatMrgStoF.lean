/- Joined texts: StoF, StoG. -/
import Derived.Test.YtalmjmhbpmhokaaGreatMrgStoC
import Derived.Test.YtalmjmhbpmhokaaGreatMrgStoD
import Derived.Test.YtalmjmhbpmhokaaGreatMrgWalP
import Derived.Deep.RegionHeld3
import Derived.Lib.QuietBelow

/- The document's store: Compact. -/
section
namespace Go.Proofs.YtalmjmhbpmhokaaGreat
open Go.RowKit Go.Sort Go.Shelf
attribute [local go_sem ↓] run_eqlL run_neqL run_guardL

section
variable {w : World} {P : Nat → Prop} {S L g D : Nat} {v : Value} {s : DS} {k : Kn}

set_option maxRecDepth 100000 in
set_option maxHeartbeats 4000000 in
theorem rscompact_any (h : SAt TR StR MT RT w P S L g D v s k) :
    Calls Tryz.prog 45 #[ptr S] w (AnsS TR StR MT RT w (SF S L D v P) S D ((compW s (recsK k)).1, (compW s (recsK k)).2, k)) := by
  have c2 := h.c2
  have c3 := h.c3
  have hw : IntKind.u8.wrap k.st = k.st := by
    rw [u8_wrap k.st h.st.1, UInt8.toNat_ofNat']
    have := h.st
    omega
  have HROW : Hid (∀ W : World, Row W (W.alloc (.cells #[.int .u8 83, .int .u8 k.st] 5)) (.slice (some ⟨W.heap.size, 0, none⟩) 2 2) (recS k.st)) :=
    Lib.hid (fun W => rowN W (recS k.st) (by simp [recS]) #[.int .u8 83, .int .u8 k.st] (recS_cells h.st.1 hw))
  have HF := Lib.hid (fun W => rlife_any k.lf h.lf.1 h.lf.2 W)
  have H := Lib.hid h
  have HT := Lib.hid (fun W (hb : Below w.heap.size w W) => h.later tr_fr hb)
  have HCC : Hid (∀ W, Below w.heap.size w W → W.cell? ⟨S, 2, none⟩ = some (.int .i64 k.st) ∧ W.cell? ⟨S, 3, none⟩ = some (.int .i64 k.lf)) := Lib.hid (fun W hb => ⟨(h.later tr_fr hb).c2, (h.later tr_fr hb).c3⟩)
  obtain ⟨u, hu, -, h256, h32, -⟩ := h.t
  obtain ⟨A8, c8, rfl, -, -, -⟩ := hu.read
  have HLD : Hid (∀ W, Below w.heap.size w W → W.cell? ⟨S, 1, none⟩ = some (ptr g) ∧ W.cell? ⟨g, 0, none⟩ = some (.slice A8 k.L.length c8) ∧ El ElemL W W.heap.size A8 k.L) := Lib.hid (fun W hb => by
    refine ⟨(h.later tr_fr hb).c1, (hb.cell (p := ⟨g, 0, none⟩) hu.lt).trans (cell_of_row w g 0 _ _ _ hu.box), ?_⟩
    have he : El ElemL w w.heap.size A8 k.L := El.of_own hu.row.own
    exact (he.below hb).more hb.size)
  have HA8 : Hid (∀ x ∈ k.L, RightL x ∧ x.addr < 4294967296) := Lib.hid (fun x hx => ⟨(tr_fr.tab h.t).right x hx, h32 x hx⟩)
  clear h hu h32
  go_enter Tryz.func45, Tryz.ntmps45
  go_upto_region 1 with fail
  go_cut [3] (fun s3 wx => ∃ A c x y, s3 = .slice A 2 c ∧ RowS w wx s3 [x, y] ∧ x.data = recS k.st ∧ y.data = recF k.lf)
  case first =>
    go_region_held3 (fun w' => w'.cell? ⟨S, 2, none⟩ = some (.int .i64 k.st) ∧ w'.cell? ⟨S, 3, none⟩ = some (.int .i64 k.lf))
      (first | exact HCC.out _ (Below.refl _ _).drew | exact HCC.out _ ((Below.refl _ _).alloc (Nat.le_refl _) _).drew | exact HCC.out _ hBb | exact HCC.out _ (hBb.alloc hBb.size _) | exact HCC.out _ ((hBb.alloc hBb.size _).alloc (hBb.alloc hBb.size _).size _))
      (first
        | (go_at_call 85; refine (HF.out _).mono ?_; rintro e w4 ⟨A4, k4, rfl, hk4, hR4⟩; have hBb : Below w.heap.size w w4 := (by first | exact wayB hR4.low | exact wayA hR4.low)))
    all_goals
      go_wp2_with fail
      go_meet
      first
        | (have hR3 := (HROW.out w.drew).later hR4.low; exact ⟨_, _, ⟨some ⟨w.heap.size, 0, none⟩, 2, recS k.st⟩, ⟨A4, k4, recF k.lf⟩, rfl, RowS.lit2 (x := ⟨some ⟨w.heap.size, 0, none⟩, 2, recS k.st⟩) (y := ⟨A4, k4, recF k.lf⟩) hR3.own (own_lower hR4.own (by simp)) hBb, rfl, rfl⟩)
        | (have hR3 := HROW.out w4
           have hy : Own8 (w4.alloc (.cells #[.int .u8 83, .int .u8 k.st] 5)) w.heap.size (SlV.v ⟨A4, k4, recF k.lf⟩) (recF k.lf) := (hR4.later hR3.low).own
           have hx : Own8 (w4.alloc (.cells #[.int .u8 83, .int .u8 k.st] 5)) w.heap.size (SlV.v ⟨some ⟨w4.heap.size, 0, none⟩, 2, recS k.st⟩) (recS k.st) := own_lower hR3.own hBb.size
           have hl := RowS.lit2 hx hy (hBb.alloc hBb.size _)
           rw [show (w4.alloc (.cells #[.int .u8 83, .int .u8 k.st] 5)).heap.size = w4.heap.size + 1 from Array.size_push _] at hl
           exact ⟨_, _, ⟨some ⟨w4.heap.size, 0, none⟩, 2, recS k.st⟩, ⟨A4, k4, recF k.lf⟩, rfl, hl, rfl, rfl⟩)
  case rest =>
    obtain ⟨A3, k3, x1, y1, rfl, hR3, hx1, hy1⟩ := hcut
    rename_i wc
    have HR3 := Lib.hid hR3
    have HX1 := Lib.hid hx1
    have HY1 := Lib.hid hy1
    clear hR3 hx1 hy1 c2 c3
    go_wp2_with fail
    go_loopw [3, 4] (fun u i wr => ∃ (j : Nat) (A' : Option Addr) (c' : Nat) (d : List SlV), j ≤ k.L.length ∧ i = .int .i64 j ∧ u = .slice A' d.length c' ∧ Hid (RowS w wr (.slice A' d.length c') d) ∧ Hid (datas d = recS k.st :: recF k.lf :: (keptL (k.L.take j)).map recL) ∧ d.length ≤ j + 2) (fun _ i _ => k.L.length - (intOf i).toNat)
    case atStart => exact ⟨0, A3, k3, [x1, y1], Nat.zero_le _, rfl, rfl, HR3, Lib.hid (by simp [datas, HX1.out, HY1.out, keptL]), by simp⟩
    case round =>
      obtain ⟨j, A', c', d, hj, rfl, rfl, HROW2, HD, hdl⟩ := hrel
      obtain ⟨s1, g0, hel⟩ := HLD.out wr HROW2.out.low
      by_cases hlt : j < k.L.length
      · obtain ⟨x, hx⟩ : ∃ x, k.L[j]? = some x := ⟨_, List.getElem?_eq_getElem hlt⟩
        obtain ⟨b, o, rfl, hb, b0, b1, b2, b3, b4, b5, b6, b7⟩ := hel.at8 j x hx
        have HX := Lib.hid hx
        have HLT := Lib.hid hlt
        have HKS := Lib.hid (keptL_snoc (k.L.take j) x)
        obtain ⟨q, hq⟩ : ∃ q, q = bareL x.addr 0 0 := ⟨_, rfl⟩
        have CB : Hid (∀ d os, _) := Lib.hid (fun d os => Calls.regrown_of (show Calls Tryz.prog 76 #[.int .u32 (x.addr : Int), .int .i64 0, .int .i64 0] (grow (redrawn wr d) os) fun e w' => e = .returned q.v ∧ Below (grow (redrawn wr d) os).heap.size (grow (redrawn wr d) os) w' by rw [hq]; exact rbare_any x.addr 0 0 (grow (redrawn wr d) os)))
        rw [← hq] at HKS
        have HEQ := Lib.hid (eqL_of x q)
        have s1r := fun (d : Nat) (os : Array Obj) => cell_regrown (d := d) (os := os) s1
        have g0r := fun (d : Nat) (os : Array Obj) => cell_regrown (d := d) (os := os) g0
        have b0r := fun (d : Nat) (os : Array Obj) => cell_regrown (d := d) (os := os) b0
        have b1r := fun (d : Nat) (os : Array Obj) => cell_regrown (d := d) (os := os) b1
        have b2r := fun (d : Nat) (os : Array Obj) => cell_regrown (d := d) (os := os) b2
        have b3r := fun (d : Nat) (os : Array Obj) => cell_regrown (d := d) (os := os) b3
        have b4r := fun (d : Nat) (os : Array Obj) => cell_regrown (d := d) (os := os) b4
        have b5r := fun (d : Nat) (os : Array Obj) => cell_regrown (d := d) (os := os) b5
        have b6r := fun (d : Nat) (os : Array Obj) => cell_regrown (d := d) (os := os) b6
        have b7r := fun (d : Nat) (os : Array Obj) => cell_regrown (d := d) (os := os) b7
        clear hx hel hq
        go_wp2_with fail
        refine wp_region_quiet_below (by kernel_rfl) (by kernel_rfl) ?_
        repeat (quiet_step ((go_at_call 76; exact CB.out _ _)))
        refine wpQuiet_nil ?_
        intro _ hw'
        obtain ⟨⟨dq, osq⟩, hw''⟩ := hw'
        subst hw''
        clear s1r g0r b0r b1r b2r b3r b4r b5r b6r b7r b0 b1 b2 b3 b4 b5 b6 b7 s1 g0
        have HLW := Lib.hid (below_regrown wr dq osq)
        obtain ⟨w6, hw6⟩ : ∃ w6, w6 = grow (redrawn wr dq) osq := ⟨_, rfl⟩
        rw [← hw6] at HLW ⊢
        have HROW6 := Lib.hid (HROW2.out.later HLW.out)
        obtain ⟨s1, g0, hel⟩ := HLD.out w6 HROW6.out.low
        obtain ⟨b', o', e8, _, b0, b1, b2, b3, b4, b5, b6, b7⟩ := hel.at8 j x HX.out
        injection e8 with e8
        injection e8 with e81 e82
        subst e81 e82
        clear hel hw6
        rw [HEQ.out]
        by_cases hbare : x = q
        · have hd0 : decide (x = q) = true := decide_eq_true hbare
          have HD2 : Hid (datas d = recS k.st :: recF k.lf :: (keptL (k.L.take (j + 1))).map recL) := Lib.hid (by
            rw [take_snoc_of k.L j x HX.out, HKS.out, if_pos hbare, List.append_nil]
            exact HD.out)
          rw [hd0]
          clear hd0 hbare
          go_wp2_with fail
          go_roundw
          case rel => exact ⟨j + 1, A', c', d, by omega, by go_num, rfl, HROW6, HD2, by omega⟩
          case measure => simp [intOf]; omega
        · have hd0 : decide (x = q) = false := decide_eq_false hbare
          have HD2 : Hid (recS k.st :: recF k.lf :: (keptL (k.L.take (j + 1))).map recL = datas d ++ [recL x]) := Lib.hid (by
            rw [take_snoc_of k.L j x HX.out, HKS.out, if_neg hbare, HD.out]
            simp)
          rw [hd0]
          clear hd0 hbare
          have HLR := Lib.hid (fun W => rbytes_any x (HA8.out x (List.mem_of_getElem? HX.out)).2 (HA8.out x (List.mem_of_getElem? HX.out)).1 W)
          go_wp2_with fail
          refine (HLR.out _).mono ?_
          rintro e w7 ⟨A7, c7, rfl, hc7, hrow7⟩
          have HROW7 := Lib.hid (HROW6.out.later hrow7.low)
          have HO7 : Hid (Own8 w7 w.heap.size (SlV.v ⟨A7, c7, recL x⟩) (recL x)) := Lib.hid (own_lower hrow7.own (HROW6.out.low.size))
          clear hrow7
          go_wp2_with (at_builtin; refine wpList_rowSg rfl (.tmp 52) (.tmp 64) rfl rfl HROW7.out ⟨A7, c7, recL x⟩ HO7.out rfl (by omega) ?_; intro v8 w8 hr8 hg8; have hr8 := Lib.hid hr8; have hg8 := Lib.hid hg8)
          obtain ⟨A9, c9, rfl, hc9, _⟩ := hr8.out.form
          go_roundw
          case rel =>
            refine ⟨j + 1, A9, c9, d ++ [⟨A7, c7, recL x⟩], by omega, by go_num, by rw [List.length_append], hr8, Lib.hid (by rw [datas_snoc, HD2.out]), by rw [List.length_append, List.length_singleton]; omega⟩
          case measure => simp [intOf]; omega
      · obtain rfl : j = k.L.length := by omega
        obtain ⟨A9, c9, e9, hc9, hls⟩ := HROW2.out.form
        injection e9 with e9 _ e10
        subst e9 e10
        have HS9 := Lib.hid (HT.out wr HROW2.out.low)
        have c0 := HS9.out.c0
        have HCOM := Lib.hid (rcompact_any (c := c') HS9.out.d HS9.out.ok HS9.out.l hls (by omega))
        have HDD : Hid (datas d = recsK k) := Lib.hid (by rw [HD.out, List.take_of_length_le (Nat.le_refl _)]; rfl)
        rw [HDD.out] at HCOM
        clear hls hel
        go_wp2_with fail
        refine HCOM.out.mono ?_
        rintro e w9 ⟨rfl, hd⟩
        obtain ⟨v1, h1, hw1⟩ := HS9.out.did tr_fr hd (comp_ok HS9.out.ok _)
        have HH : Hid (Upd TR StR MT RT w (SF S L D v P) S D w9 (compW s (recsK k)).2 k) := Lib.hid ⟨_, Sd.at_ h1, (Way.of_below HROW2.out.low).trans hw1⟩
        clear hd h1 hw1
        go_wp2
        go_ret
        exact ⟨rfl, HH.out⟩
end
end Go.Proofs.YtalmjmhbpmhokaaGreat
end

/- The document's store: Open. -/
section
namespace Go.Proofs.YtalmjmhbpmhokaaGreat
open Go.RowKit Go.Sort Go.Shelf

section
variable {w : World} {Q : Nat → Prop} {D : Nat} {s : DS}

/-- A new table of the document's, as a table. -/
theorem tr_new {w w1 : World} {g : Nat} {v : Value} {L : List LV} {l ol : List (Nat × Nat)} (hw : ∀ x ∈ l, x.2 < 4294967296) (hres : RefRes l ol 0) (h : RTb w w1 g v L) (hL : L = newL (addrsOf ol)) : TR w1 (fun k => k = g ∨ v.ownBlock = some k) g L ∧ ∀ b, (b = g ∨ v.ownBlock = some b) → w.heap.size ≤ b := by
  obtain ⟨hcan, hlen⟩ := ref_can hres rfl
  have hmem : ∀ a ∈ addrsOf ol, a < 4294967296 := by
    rcases hres with ⟨_, _, h⟩ | ⟨_, ⟨_, _, h⟩ | ⟨_, hm, _, _⟩⟩
    · cases h
    · cases h
    · intro a ha
      obtain ⟨x, hx, h1, h2⟩ := mem_addrs.1 ((hm a).1 ha)
      have := hw x hx
      omega
  subst hL
  refine ⟨⟨v, h.nul, new_tab hcan.sorted, by unfold newL; rw [List.length_map]; exact hlen, ?_, rfl⟩, ?_⟩
  · intro x hx
    have hm : x.addr ∈ (newL (addrsOf ol)).map LV.addr := List.mem_map.2 ⟨x, hx, rfl⟩
    rw [new_addrs] at hm
    exact hmem _ hm
  · rintro b (rfl | hb)
    · exact h.lo
    · exact (h.row.lt b hb).1

set_option maxRecDepth 100000 in
set_option maxHeartbeats 4000000 in
theorem rsopen_any (h : Dk RT w Q D s) (A : Option Addr) (c : Nat) (l : List (Nat × Nat)) (hr : Rg w w.heap.size A l) (hl : l.length ≤ 1000) :
    Calls Tryz.prog 14 #[ptr D, .slice A l.length c] w fun e w' => ∃ ol code, RefRes l ol code ∧ OpensS TR StR MT RT w Q D s ol code e w' := by
  obtain ⟨v, hd, ho, rfl⟩ := h
  have HD := Lib.hid hd
  have HO := Lib.hid ho
  have HN := Lib.hid (rtnew_any A c l w hr hl)
  have HW32 : Hid (∀ x ∈ l, x.2 < 4294967296) := Lib.hid (fun x hx => (hr.w32 x hx).2)
  clear hd ho hr hl
  go_enter Tryz.func14, Tryz.ntmps14
  go_wp2_with fail
  refine HN.out.mono ?_
  rintro e w1 ⟨ol, code, hres, hB1, (⟨hc, rfl⟩ | ⟨rfl, g, u, M, rfl, HM, hT0⟩)⟩
  · have HC := Lib.hid hc
    have HRES := Lib.hid hres
    have HB1 := Lib.hid hB1
    have d0 : (code != 0) = true := by simpa using hc
    clear hc hres hB1
    go_wp2
    go_ret2
    exact ⟨ol, code, HRES.out, .inl ⟨HC.out, rfl, HB1.out⟩⟩
  have HRES := Lib.hid hres
  have HB1 := Lib.hid hB1
  obtain ⟨hT, hP⟩ := tr_new HW32.out hres hT0 HM.out
  obtain ⟨P, hPP⟩ : ∃ P : Nat → Prop, P = fun k => k = g ∨ u.ownBlock = some k := ⟨_, rfl⟩
  rw [← hPP] at hT
  have hP : ∀ b, P b → w.heap.size ≤ b := fun b hb => hP b (by rw [hPP] at hb; exact hb)
  have HT := Lib.hid hT
  have HP : Hid (∀ b, P b → ¬ DF D v b) := Lib.hid (fun b hb hD => by
    have h1 := hP b hb
    rcases hD with rfl | hD
    · have := HD.out.dlt; omega
    · have := (HD.out.ob b hD).2; omega)
  have HP1 := Lib.hid hP
  have HD1 := Lib.hid (HD.out.below hB1)
  have HOP := Lib.hid (rwopen_any HD1.out HO.out)
  have HOK : Hid (openW s).2.Ok := Lib.hid (open_ok HO.out)
  obtain ⟨r, hr⟩ : ∃ r, r = openW s := ⟨_, rfl⟩
  rw [← hr] at HOP HOK
  have HR := Lib.hid hr
  clear hres hB1 hT hP hr hPP hT0
  go_wp2_with fail
  refine HOP.out.mono ?_
  rintro e w2 ⟨hd2, (⟨h0, L, rfl, hL, hLn⟩ | ⟨h0, rfl⟩)⟩
  rotate_left
  · have H0 := Lib.hid h0
    have HD2 := Lib.hid hd2
    have d0 : (r.1 != 0) = true := by simpa using h0
    clear h0 hd2
    go_wp2
    go_ret2
    refine ⟨ol, 0, HRES.out, .inr (.inl ⟨rfl, by rw [← HR.out]; exact H0.out, by rw [← HR.out]; rfl, ?_⟩)⟩
    obtain ⟨v', k1, k2⟩ := did_way HD2.out
    rw [← HR.out]
    exact ⟨_, ⟨v', k1, HOK.out, rfl⟩, (Way.of_below HB1.out).trans k2⟩
  obtain ⟨v2, hd2', hw2⟩ := did_way hd2
  have hlo := hL.oth hd2' (by decide) (by decide)
  have hT2 := tr_fr.keep HT.out (hw2.kp (tr_fr.lt HT.out) HP.out)
  have HS0 := Lib.hid (SAt.new (sty := StR) tr_fr hd2' HOK.out hL hT2 (hw2.apart (tr_fr.lt HT.out) HP.out) (fun hp => by have := tr_fr.lt HT.out L hp; omega) (fun hD => by
    rcases hD with e | e
    · exact hlo.2.1 e
    · exact hlo.2.2 e))
  obtain ⟨W3, hW3⟩ : ∃ W3, W3 = w2.alloc (.cells #[ptr L, ptr g, .int .i64 0, .int .i64 0] StR) := ⟨_, rfl⟩
  rw [← hW3] at HS0
  have HL0 : Hid (M = newL (addrsOf ol)) := HM
  have hway : Way (DF D v) w (SF w2.heap.size L D v2 P) W3 := by
    have hb3 : Below w2.heap.size w2 W3 := by rw [hW3]; exact (Below.refl _ _).alloc (Nat.le_refl _) _
    refine ⟨((Way.of_below (Q := DF D v) HB1.out).trans (hw2.trans (Way.of_below hb3))).oth, ?_⟩
    have z1 := HB1.out.size
    have z2 := hw2.size
    rintro b (rfl | rfl | hb | hb)
    · exact .inr (by omega)
    · exact .inr (by omega)
    · rcases hw2.new b hb with h1 | h1
      · exact .inl h1
      · exact .inr (by omega)
    · exact .inr (HP1.out b hb)
  have HWAY := Lib.hid hway
  have HH0 := Lib.hid h0
  have l0 := HS0.out.l.cell
  have HW3 := Lib.hid hW3
  have HREC := rrecords_any HS0.out.d HS0.out.ok HS0.out.l
  obtain ⟨rs, hrs⟩ : ∃ rs, rs = scanL r.2.bs := ⟨_, rfl⟩
  rw [← hrs] at HREC
  have HRS := Lib.hid hrs
  have HREC := Lib.hid HREC
  have HGO : Hid (∀ b ∈ rs, GoodF b) := Lib.hid (by rw [hrs]; exact (scan_back _).1)
  obtain ⟨S0, hS0⟩ : ∃ S0, S0 = w2.heap.size := ⟨_, rfl⟩
  rw [← hS0] at HS0 HWAY
  have HSS := Lib.hid hS0
  clear hd2' hw2 hlo hT2 hL hLn hway h0 hW3 hrs hd2 hS0
  go_upto_region 8 with fail
  rw [← HW3.out, ← HSS.out]
  go_wp2_with fail
  refine HREC.out.mono ?_
  rintro e w4 ⟨A4, c4, K4, rfl, hK4, hrow4⟩
  have HS4 := Lib.hid (HS0.out.later tr_fr hrow4.low)
  have HK4 := Lib.hid hK4
  have HLS := Lib.hid (fun W Q' (hw : Way (SF S0 L D v2 P) w4 Q' W) => hrow4.way rfl hw (HS0.out.lt tr_fr))
  have HLow4 := Lib.hid hrow4.low
  clear hK4 hrow4 l0
  have hcr : K4.length ≤ 9223372036854775807 := by
    have h1 := scan_len r.2.bs
    have h2 := HOK.out.len
    have h3 := HOK.out.r1
    have h4 := congrArg List.length HK4.out
    rw [datas_length, HRS.out] at h4
    omega
  go_wp2_with fail
  go_loopw [12] (fun i wr => ∃ (j : Nat) (Q' : Nat → Prop), j ≤ K4.length ∧ i = .int .i64 j ∧ Hid (Sd TR StR MT RT wr Q' S0 D r.2 (knK (addrsOf ol) (rs.take j))) ∧ Hid (Way (SF S0 L D v2 P) w4 Q' wr)) (fun i _ => K4.length - (intOf i).toNat)
  case atStart =>
    refine ⟨0, _, Nat.zero_le _, rfl, Lib.hid (Sd.at_ (P := P) (L := L) (g := g) (v := v2) ?_), Lib.hid (Way.refl _ _)⟩
    have hh := HS4.out
    rw [HL0.out] at hh
    exact hh
  case round =>
    obtain ⟨j, Q', hj, rfl, HSD, HWY⟩ := hrel
    by_cases hlt : j < K4.length
    · obtain ⟨x, hx⟩ : ∃ x, K4[j]? = some x := ⟨_, List.getElem?_eq_getElem hlt⟩
      have hls := HLS.out wr Q' HWY.out
      have hxm := List.mem_of_getElem? hx
      obtain ⟨b, o, rfl, _, hc1⟩ := hls.at_ j x hx
      obtain ⟨P2, L2, g2, v3, hsat, hq⟩ := HSD.out
      have hrx : rs[j]? = some x.data := by rw [← HK4.out]; exact datas_at hx
      have HAP := Lib.hid (rdo_any (c := x.cap) hsat (hls.data x hxm) (hls.caps x hxm) (HGO.out x.data (List.mem_of_getElem? hrx)))
      have HSN : Hid (knK (addrsOf ol) (rs.take (j + 1)) = doK (knK (addrsOf ol) (rs.take j)) x.data) := Lib.hid (by rw [take_snoc_of rs j x.data hrx, knK_snoc])
      rw [← HSN.out] at HAP
      have HQQ := Lib.hid hq
      clear hls hxm hx hsat hq hrx
      go_wp2_with fail
      refine HAP.out.mono ?_
      rintro e w5 ⟨rfl, Q5, hs5, hw5⟩
      have HS5 := Lib.hid hs5
      have HW5 : Hid (Way (SF S0 L D v2 P) w4 Q5 w5) := Lib.hid (HWY.out.trans (by rw [HQQ.out]; exact hw5))
      clear hs5 hw5
      go_wp2_with fail
      go_roundw
      case rel => exact ⟨j + 1, Q5, by omega, by go_num, HS5, HW5⟩
      case measure => simp [intOf]; omega
    · obtain rfl : j = K4.length := by omega
      have HTK : Hid (rs.take K4.length = rs) := Lib.hid (by rw [← HK4.out, List.take_of_length_le (by rw [datas_length]; exact Nat.le_refl _)])
      go_wp2_with fail
      go_ret2
      refine ⟨ol, 0, HRES.out, .inr (.inr ⟨rfl, by rw [← HR.out]; exact HH0.out, S0, rfl, ?_⟩)⟩
      rw [← HR.out, ← HRS.out]
      have hsd := HSD.out
      rw [HTK.out] at hsd
      exact ⟨Q', hsd, HWAY.out.trans ((Way.of_below HLow4.out).trans HWY.out)⟩
end
end Go.Proofs.YtalmjmhbpmhokaaGreat
end
