/- Joined texts: StoC, StoW, StoO. -/
import Derived.Test.YtalmjmhbpmhokaaGreatMrgStoB
import Derived.Test.YtalmjmhbpmhokaaGreatMrgWalP
import Derived.Test.YtalmjmhbpmhokaaGreatMrgTabP
import Derived.Deep.DeepCutAuto
import Derived.Deep.RegionWith
import Derived.Deep.RegionHeld3

/- The store of the code: Compact. -/
section
namespace Go.Proofs.YtalmjmhbpmhokaaGreat
open Go.RowKit Go.Sort Go.Shelf
attribute [local go_sem ↓] run_eqlL run_neqL run_guardL

/-- Records as they are appended: what lay is kept but for their own row. -/
theorem wpList_rowSg {w0 w1 : World} {ops : Array Oper} {rest : List Oper} {o : Oper} {a : Act} {Q : Exit → Act → World → Prop} (hgd : o.guard = none) (s x : Operand)
    (ho : o.op = .call { callee := .builtin .append, args := #[s, x], argTypes := #[56, 56] }) {v : Value} {L : List SlV} (hs : a.eval s = v) (h : RowS w0 w1 v L)
    (x0 : SlV) (hx0 : Own8 w1 w0.heap.size x0.v x0.data) (hx : a.eval x = .slice (some ⟨w1.heap.size, 0, none⟩) 1 1) (hsz : L.length ≤ 1048576)
    (hk : ∀ v' w', RowS w0 w' v' (L ++ [x0]) → (w1.alloc (.cells #[x0.v] 49)).grownBy w' v.ownBlock → wpList Tryz.prog ops Q rest (a.put o.dst v') w') :
    wpList Tryz.prog ops Q (o :: rest) a (w1.alloc (.cells #[x0.v] 49)) := by
  obtain ⟨i, hi, hz0, hz1, hz2⟩ := info_parts Tryz.infoS
  have hb1 := h.low.alloc h.low.size (.cells #[x0.v] 49)
  refine wpList_append_own _ hgd s x _ ho w0.heap.size 49 i _ 1 24 Tryz.underlying56 hi hz0 hz1 hz2 rfl (by decide) v L.length _ hs (h.own.alloc _) ⟨w1.heap.size, 0, none⟩ 1 1 [x0.v] hx rfl (World.news_of_block (cs := #[x0.v]) (t := 49) (fr := (0, 0)) (heap_alloc_new w1 _)) (by simp [Value.oneCell']) (by unfold maxLen; omega) (by omega) hb1.size ?_
  intro v' w' hown' hg _
  refine hk v' w' ⟨?_, ?_, own_below hb1 hb1.size (h.own.alloc _) hg⟩ hg
  · rw [List.length_append, scells_snoc]
    exact hown'
  · exact ((h.all.snoc hx0).below ((Below.refl _ w1).alloc (Nat.le_refl _) _)).grown (h.own.alloc _) (by decide) hg

/-- Two records, laid as a row. -/
theorem RowS.lit2 {w w2 : World} {x y : SlV} (h1 : Own8 w2 w.heap.size x.v x.data) (h2 : Own8 w2 w.heap.size y.v y.data) (hB : Below w.heap.size w w2) : RowS w (w2.alloc (.cells #[x.v, y.v] 49)) (.slice (some ⟨w2.heap.size, 0, none⟩) 2 2) [x, y] := by
  have h := World.ownsRow_lit (base := w.heap.size) (e := 49) (size := 1) w2 #[x.v, y.v] 2 hB.size (by unfold maxLen; omega) rfl
  refine ⟨h, ?_, hB.alloc hB.size _⟩
  have ha : OwnAll w2 w.heap.size [x, y] := fun z hz => by
    rcases List.mem_cons.1 hz with rfl | hz
    · exact h1
    · obtain rfl := List.mem_singleton.1 hz
      exact h2
  exact ha.below ((Below.refl _ w2).alloc (Nat.le_refl _) _)
theorem RowS.drew' {w0 w : World} {v : Value} {L : List SlV} (h : RowS w0 w v L) : RowS w0 w.drew v L := h.drewN 1
/-- Leases in a row of their own, made since, whatever else was changed. -/
def OwnE (w0 w : World) (u : Value) (l : List LV) : Prop := w.ownsRow w0.heap.size ElemL.e ElemL.m u l.length (ecells ElemL l)
theorem OwnE.later {w0 w w' : World} {u : Value} {l : List LV} (h : OwnE w0 w u l) (hb : Below w.heap.size w w') : OwnE w0 w' u l := h.kept (grownBy_of_below hb) (by cases u.ownBlock <;> simp)
theorem OwnE.el {w0 w : World} {A : Option Addr} {c : Nat} {l : List LV} (h : OwnE w0 w (.slice A l.length c) l) : El ElemL w w.heap.size A l := El.of_own h
theorem OwnE.grown {w0 w1 w w' : World} {u v : Value} {l : List LV} {L : List SlV} (h : OwnE w1 w u l) (ho : RowS w0 w v L) (hg : w.grownBy w' v.ownBlock) : OwnE w1 w' u l := h.kept hg (own_apart h ho.own (by decide))
theorem keptL_snoc (L : List LV) (x : LV) : keptL (L ++ [x]) = keptL L ++ (if x = bareL x.addr 0 0 then [] else [x]) := by
  unfold keptL
  rw [List.filter_append]
  congr 1
  by_cases h : x = bareL x.addr 0 0
  · rw [if_pos h, List.filter_cons_of_neg (by simpa using h)]
    rfl
  · rw [if_neg h, List.filter_cons_of_pos (by simpa using h)]
    rfl

section
variable {T : TabT} {w : World} {P : Nat → Prop} {S L g D : Nat} {v : Value} {s : DS} {k : Kn}

set_option maxRecDepth 100000 in
set_option maxHeartbeats 4000000 in
theorem scompact_any (K : TabK T) (h : SAt T StT LT DT w P S L g D v s k) :
    Calls Tryz.prog 25 #[ptr S] w (AnsS T StT LT DT w (SF S L D v P) S D ((compW s (recsK k)).1, (compW s (recsK k)).2, k)) := by
  have c2 := h.c2
  have c3 := h.c3
  have HS := Lib.hid (fun W => srec_any k.st h.st.1 W)
  have HF := Lib.hid (fun W => frec_any k.lf h.lf.1 W)
  have H := Lib.hid h
  have HK := Lib.hid K
  have HT := Lib.hid (fun W (hb : Below w.heap.size w W) => h.later K.fr hb)
  have HCC : Hid (∀ W, Below w.heap.size w W → W.cell? ⟨S, 2, none⟩ = some (.int .i64 k.st) ∧ W.cell? ⟨S, 3, none⟩ = some (.int .i64 k.lf)) := Lib.hid (fun W hb => ⟨(h.later K.fr hb).c2, (h.later K.fr hb).c3⟩)
  clear h K
  go_enter Tryz.func25, Tryz.ntmps25
  go_upto_region 1 with fail
  go_cut [3] (fun s3 wx => ∃ A c x y, s3 = .slice A 2 c ∧ RowS w wx s3 [x, y] ∧ x.data = recS k.st ∧ y.data = recF k.lf)
  case first =>
    go_region_held3 (fun w' => w'.cell? ⟨S, 2, none⟩ = some (.int .i64 k.st) ∧ w'.cell? ⟨S, 3, none⟩ = some (.int .i64 k.lf))
      (first | exact HCC.out _ (Below.refl _ _).drew | exact HCC.out _ hBa | exact HCC.out _ hBb | exact HCC.out _ (hBb.alloc hBb.size _) | exact HCC.out _ (hBa.alloc hBa.size _))
      (first
        | (go_at_call 57; refine (HS.out _).mono ?_; rintro e w3 ⟨A3, k3, rfl, hk3, hR3⟩; have hBa : Below w.heap.size w w3 := wayB hR3.low)
        | (go_at_call 57; refine (HS.out _).mono ?_; rintro e w3 ⟨A3, k3, rfl, hk3, hR3⟩; have hBa : Below w.heap.size w w3 := hBb.trans (hR3.low.mono hBb.size))
        | (go_at_call 58; refine (HF.out _).mono ?_; rintro e w4 ⟨A4, k4, rfl, hk4, hR4⟩; have hBb : Below w.heap.size w w4 := wayB hR4.low)
        | (go_at_call 58; refine (HF.out _).mono ?_; rintro e w4 ⟨A4, k4, rfl, hk4, hR4⟩; have hBb : Below w.heap.size w w4 := hBa.trans (hR4.low.mono hBa.size)))
    all_goals
      go_wp2_with fail
      go_meet
      have hR3' := hR3.later hR4.low
      exact ⟨_, _, ⟨A3, k3, recS k.st⟩, ⟨A4, k4, recF k.lf⟩, rfl, RowS.lit2 (x := ⟨A3, k3, recS k.st⟩) (y := ⟨A4, k4, recF k.lf⟩) hR3'.own (own_lower hR4.own hBa.size) hBb, rfl, rfl⟩
  case rest =>
    obtain ⟨A3, k3, x1, y1, rfl, hR3, hx1, hy1⟩ := hcut
    rename_i wc
    have HR3 := Lib.hid hR3
    have HX1 := Lib.hid hx1
    have HY1 := Lib.hid hy1
    have HS3 := Lib.hid (HT.out wc hR3.low)
    have c1 := HS3.out.c1
    have HALL := Lib.hid (HK.out.all HS3.out.t)
    clear hR3 hx1 hy1 c2 c3
    go_wp2_with fail
    refine HALL.out.mono ?_
    rintro e w4 ⟨A8, c8, l8, rfl, HL8, hR8, hc8⟩
    have HR8 := Lib.hid hR8
    have HR4 := Lib.hid (HR3.out.later hR8.low)
    have h256 : l8.length ≤ 256 := by rw [HL8.out]; exact HK.out.few H.out.t
    have HA8 : Hid (∀ x ∈ l8, RightL x ∧ x.addr < 4294967296) := Lib.hid (by rw [HL8.out]; exact fun x hx => ⟨(HK.out.tab H.out.t).right x hx, HK.out.w32 H.out.t x hx⟩)
    clear hR8 c1
    go_wp2_with fail
    go_loopw [3, 5, 6, 7, 25] (fun u _ _ _ i wr => ∃ (j : Nat) (A' : Option Addr) (c' : Nat) (d : List SlV), j ≤ l8.length ∧ i = .int .i64 j ∧ u = .slice A' d.length c' ∧ Hid (RowS w wr (.slice A' d.length c') d) ∧ Hid (datas d = recS k.st :: recF k.lf :: (keptL (l8.take j)).map recL) ∧ Hid (OwnE wc wr (.slice A8 l8.length c8) l8) ∧ d.length ≤ j + 2) (fun _ _ _ _ i _ => l8.length - (intOf i).toNat)
    case atStart => exact ⟨0, A3, k3, [x1, y1], Nat.zero_le _, rfl, rfl, HR4, Lib.hid (by simp [datas, HX1.out, HY1.out, keptL]), HR8.out.own, by simp⟩
    case round =>
      obtain ⟨j, A', c', d, hj, rfl, rfl, HROW, HD, HE, hdl⟩ := hrel
      by_cases hlt : j < l8.length
      · obtain ⟨x, hx⟩ : ∃ x, l8[j]? = some x := ⟨_, List.getElem?_eq_getElem hlt⟩
        have hel := HE.out.el
        obtain ⟨b, o, rfl, hb, b0, b1, b2, b3, b4, b5, b6, b7⟩ := hel.at8 j x hx
        obtain ⟨w5, hw5⟩ : ∃ w5, w5 = wr.alloc (lbox x) := ⟨_, rfl⟩
        have hB5 : Below wr.heap.size wr w5 := by rw [hw5]; exact (Below.refl _ _).alloc (Nat.le_refl _) _
        have HB5 := Lib.hid hB5
        have HX5 : Hid (LBox w5 wr.heap.size x) := Lib.hid (by rw [hw5]; exact LBox.new wr x)
        have HROW5 := Lib.hid (HROW.out.later hB5)
        have HE5 := Lib.hid (HE.out.later hB5)
        have HW5 := Lib.hid hw5
        have HX := Lib.hid hx
        have HBA := Lib.hid (fun W => bare_any x.addr 0 0 W)
        have HKS := Lib.hid (keptL_snoc (l8.take j) x)
        clear hx hb hw5 hB5 hel
        go_upto_region 5 with fail
        rw [← HW5.out]
        obtain ⟨z0, z1, z2, z3, z4, z5, z6, z7⟩ := HX5.out.all
        go_cut [33] (fun s33 wx => s33 = .bool (decide (x = bareL x.addr 0 0)) ∧ Below w5.heap.size w5 wx)
        case first =>
          go_region_with (go_at_call 59; refine (HBA.out _).mono ?_; rintro e w6 ⟨rfl, hB6⟩; have hB6' : Below w5.heap.size w5 w6 := wayB hB6; obtain ⟨y0, y1, y2, y3, y4, y5, y6, y7⟩ := (HX5.out.later hB6').all)
          all_goals
            go_wp2_with fail
            go_meet
            refine ⟨?_, hB6'⟩
            rw [eqL_of x (bareL x.addr 0 0)]
        case rest =>
          obtain ⟨rfl, hB6⟩ := hcut
          have HB6 := Lib.hid hB6
          have HROW6 := Lib.hid (HROW5.out.later hB6)
          have HE6 := Lib.hid (HE5.out.later hB6)
          have HX6 := Lib.hid (HX5.out.later hB6)
          clear hB6 z0 z1 z2 z3 z4 z5 z6 z7 b0 b1 b2 b3 b4 b5 b6 b7
          by_cases hbare : x = bareL x.addr 0 0
          · have hd0 : decide (x = bareL x.addr 0 0) = true := decide_eq_true hbare
            have HD2 : Hid (datas d = recS k.st :: recF k.lf :: (keptL (l8.take (j + 1))).map recL) := Lib.hid (by
              rw [take_snoc_of l8 j x HX.out, HKS.out, if_pos hbare, List.append_nil]
              exact HD.out)
            rw [hd0]
            clear hd0 hbare
            go_wp2_with fail
            go_roundw
            case rel => exact ⟨j + 1, A', c', d, by omega, by go_num, rfl, HROW6, HD2, HE6, by omega⟩
            case measure => simp [intOf]; omega
          · have hd0 : decide (x = bareL x.addr 0 0) = false := decide_eq_false hbare
            have HD2 : Hid (recS k.st :: recF k.lf :: (keptL (l8.take (j + 1))).map recL = datas d ++ [recL x]) := Lib.hid (by
              rw [take_snoc_of l8 j x HX.out, HKS.out, if_neg hbare, HD.out]
              simp)
            rw [hd0]
            clear hd0 hbare
            have HLR := Lib.hid (fun W => lrec_any x (HA8.out x (List.mem_of_getElem? HX.out)).2 W)
            have HRX := Lib.hid (HA8.out x (List.mem_of_getElem? HX.out)).1
            obtain ⟨z0, z1, z2, z3, z4, z5, z6, z7⟩ := HX6.out.all
            go_wp2_with fail
            refine (HLR.out _).mono ?_
            rintro e w7 (⟨_, A7, c7, rfl, hc7, hrow7⟩ | ⟨hno, _⟩)
            rotate_left
            · exact absurd HRX.out hno
            have HROW7 := Lib.hid (HROW6.out.later hrow7.low)
            have HE7 := Lib.hid (HE6.out.later hrow7.low)
            have HO7 : Hid (Own8 w7 w.heap.size (SlV.v ⟨A7, c7, recL x⟩) (recL x)) := Lib.hid (own_lower hrow7.own (HROW6.out.low.size))
            clear hrow7 z0 z1 z2 z3 z4 z5 z6 z7
            go_wp2_with (at_builtin; refine wpList_rowSg rfl (.tmp 39) (.tmp 41) rfl rfl HROW7.out ⟨A7, c7, recL x⟩ HO7.out rfl (by omega) ?_; intro v8 w8 hr8 hg8; have hr8 := Lib.hid hr8; have hg8 := Lib.hid hg8)
            obtain ⟨A9, c9, rfl, hc9, _⟩ := hr8.out.form
            have HE8 := Lib.hid ((HE7.out.later ((Below.refl _ _).alloc (Nat.le_refl _) _)).grown (HROW7.out.later ((Below.refl _ _).alloc (Nat.le_refl _) _)) hg8.out)
            go_roundw
            case rel =>
              refine ⟨j + 1, A9, c9, d ++ [⟨A7, c7, recL x⟩], by omega, by go_num, by rw [List.length_append], hr8, Lib.hid (by rw [datas_snoc, HD2.out]), HE8, by rw [List.length_append, List.length_singleton]; omega⟩
            case measure => simp [intOf]; omega
      · obtain rfl : j = l8.length := by omega
        obtain ⟨A9, c9, e9, hc9, hls⟩ := HROW.out.form
        injection e9 with e9 _ e10
        subst e9 e10
        have HS9 := Lib.hid (HT.out wr HROW.out.low)
        have c0 := HS9.out.c0
        have HCOM := Lib.hid (compact_any (c := c') HS9.out.d HS9.out.ok HS9.out.l hls (by omega))
        have HDD : Hid (datas d = recsK k) := Lib.hid (by rw [HD.out, List.take_of_length_le (Nat.le_refl _), HL8.out]; rfl)
        rw [HDD.out] at HCOM
        clear hls
        go_wp2_with fail
        refine HCOM.out.mono ?_
        rintro e w9 ⟨rfl, hd⟩
        obtain ⟨v1, h1, hw1⟩ := HS9.out.did HK.out.fr hd (comp_ok HS9.out.ok _)
        have HH : Hid (Upd T StT LT DT w (SF S L D v P) S D w9 (compW s (recsK k)).2 k) := Lib.hid ⟨_, Sd.at_ h1, (Way.of_below HROW.out.low).trans hw1⟩
        clear hd h1 hw1
        go_wp2
        go_ret
        exact ⟨rfl, HH.out⟩
end
end Go.Proofs.YtalmjmhbpmhokaaGreat
end

/- Opening a log, of both kinds: its block is new. (Written by wip/tools/genstow.py.) -/
section
namespace Go.Proofs.YtalmjmhbpmhokaaGreat
open Go.RowKit Go.Shelf

/-- What opening answers: a log in a new block, or an error; what the disk came to hold. -/
def OpensN (ty lty : TypeId) (base : Nat) (w : World) (D : Nat) (v : Value) (r : Int × DS) (e : Ending) (w' : World) : Prop :=
  Did ty base w D v w' r.2 ∧ ((r.1 = 0 ∧ ∃ L, e = .returned (.tuple #[ptr L, .int .i64 0]) ∧ LAt lty w' L D ∧ w.heap.size ≤ L) ∨ (r.1 ≠ 0 ∧ e = .returned (.tuple #[.pointer none, .int .i64 r.1])))

set_option maxRecDepth 100000 in
set_option maxHeartbeats 2000000 in
theorem wopen_any {base : Nat} {w : World} {D : Nat} {s : DS} {v : Value} (h : DAt DT base w D s v) (ho : s.Ok) :
    Calls Tryz.prog 34 #[ptr D] w (OpensN DT LT base w D v (openW s)) := by
  have HR := Lib.hid (read_any h ho)
  have hb : s.bs.length ≤ 1048576 := by have := ho.len; have := ho.r1; omega
  have hto := scan_tot s.bs
  have HB := Lib.hid hb
  have H := Lib.hid h
  have HO := Lib.hid ho
  obtain ⟨n, hn⟩ : ∃ n, n = s.bs.length := ⟨_, rfl⟩
  obtain ⟨m, hm⟩ : ∃ m, m = tot (scanL s.bs) := ⟨_, rfl⟩
  rw [← hm, ← hn] at hto
  have HN := Lib.hid hn
  have HM := Lib.hid hm
  clear h ho hb hn hm
  go_enter Tryz.func34, Tryz.ntmps34
  go_wp2_with fail
  refine HR.out.mono ?_
  intro e w1 hg
  obtain ⟨A, c, rfl, hc, hrow⟩ := hg.row
  have hro := ByO.of_row H.out hrow
  have HRo := Lib.hid hro
  have HLow := Lib.hid hrow.low
  have HC := Lib.hid hc
  have HS := Lib.hid (scan_any A c s.bs HB.out hc w1 hro.by_)
  rw [← HN.out, ← HM.out] at HS
  clear hg hrow hro hc
  rw [← HN.out]
  go_wp2_with fail
  refine HS.out.mono ?_
  rintro e w2 ⟨A2, c2, K, rfl, _, _, _, hB2⟩
  have HB2 := Lib.hid (HLow.out.trans (hB2.mono HLow.out.size))
  have HRo2 : Hid (ByO w2 D v A s.bs) := Lib.hid (HRo.out.kp (Kp.of_below hB2 fun _ hk => hk.1))
  have HD2 := Lib.hid (H.out.below HB2.out)
  have HK2 : Hid (Kp (Oth w D v) w w2) := Lib.hid (Kp.of_below HB2.out fun _ hk => hk.1)
  clear hB2
  by_cases hlt : m < n
  · have hcut := fun W => run_headB A n c (m : Int) (by omega) (by have := HC.out; have := HN.out; omega) W
    rw [Int.toNat_natCast] at hcut
    have hlen : (s.bs.take m).length = m := by rw [List.length_take]; have := HN.out; omega
    have HSw := swap_any (c := c) HD2.out HO.out (HRo2.out.take m)
    rw [hlen] at HSw
    have HSw := Lib.hid HSw
    have e0 : openW s = swapD s (s.bs.take m) := by
      unfold openW
      rw [if_neg (by rw [← HM.out, ← HN.out]; omega), HM.out]
    have HE := Lib.hid e0
    have HLen := Lib.hid hlen
    clear hlen hto e0
    obtain ⟨q, hq⟩ : ∃ q, q = (swapD s (s.bs.take m)).1 := ⟨_, rfl⟩
    go_wp2_with fail
    refine HSw.out.mono ?_
    rintro e w3 ⟨rfl, hd⟩
    have HD3 := Lib.hid (Did.after HK2.out hd)
    rw [← hq]
    clear hd
    by_cases h0 : q = 0
    · subst h0
      have HQ := Lib.hid hq.symm
      clear hq
      go_wp2
      go_ret2
      rw [HE.out]
      obtain ⟨v', k1, k2, k3⟩ := HD3.out
      exact ⟨⟨v', k1.alloc _, Oth.alloc k2 _, k3⟩, .inl ⟨HQ.out, _, rfl, LAt.new _ _ _, k2.size⟩⟩
    · have HQ := Lib.hid hq
      have d1 : (q == 0) = false := by simpa using h0
      have H0 := Lib.hid h0
      clear hq
      go_wp2
      go_ret2
      rw [HE.out]
      exact ⟨HD3.out, .inr ⟨by rw [← HQ.out]; exact H0.out, by rw [← HQ.out]; rfl⟩⟩
  · obtain rfl : m = n := by omega
    have e0 : openW s = (0, s) := by
      unfold openW
      rw [if_pos (by rw [← HM.out, ← HN.out])]
    have HE := Lib.hid e0
    clear e0 hto
    go_wp2
    go_ret2
    rw [HE.out]
    exact ⟨⟨v, HD2.out.alloc _, Oth.alloc HK2.out _, fun k hk => .inl hk⟩, .inl ⟨rfl, _, rfl, LAt.new _ _ _, HK2.out.size⟩⟩


set_option maxRecDepth 100000 in
set_option maxHeartbeats 2000000 in
theorem rwopen_any {base : Nat} {w : World} {D : Nat} {s : DS} {v : Value} (h : DAt RT base w D s v) (ho : s.Ok) :
    Calls Tryz.prog 38 #[ptr D] w (OpensN RT MT base w D v (openW s)) := by
  obtain ⟨A, c, rfl, hc, hby⟩ := h.form
  have hb : s.bs.length ≤ 1048576 := by have := ho.len; have := ho.r1; omega
  have hto := scan_tot s.bs
  have HS := Lib.hid (rscan_any A c s.bs hb hc w hby)
  have c1 := h.c1
  have HB := Lib.hid hb
  have H := Lib.hid h
  have HO := Lib.hid ho
  obtain ⟨n, hn⟩ : ∃ n, n = s.bs.length := ⟨_, rfl⟩
  obtain ⟨m, hm⟩ : ∃ m, m = tot (scanL s.bs) := ⟨_, rfl⟩
  rw [← hm, ← hn] at hto HS
  rw [← hn] at c1 hc H
  have HN := Lib.hid hn
  have HM := Lib.hid hm
  have HC := Lib.hid hc
  clear h ho hb hn hm hby hc
  go_enter Tryz.func38, Tryz.ntmps38
  go_wp2_with fail
  refine HS.out.mono ?_
  rintro e w2 ⟨A2, c2, K, rfl, _, _, _, hB2⟩
  have HD2 := Lib.hid (H.out.below hB2)
  have HK2 : Hid (Kp (Oth w D (.slice A n c)) w w2) := Lib.hid (Kp.of_below hB2 fun _ hk => hk.1)
  have d1 : w2.cell? ⟨D, 1, none⟩ = some (.slice A n c) := HD2.out.c1
  clear hB2 c1
  by_cases hlt : m < n
  · have hcut := fun W => run_headB A n c (m : Int) (by omega) (by have := HC.out; omega) W
    rw [Int.toNat_natCast] at hcut
    have hlen : (s.bs.take m).length = m := by rw [List.length_take]; have := HN.out; omega
    have HSw := rswap_of (b := s.bs.take m) (A := A) (c := c) HD2.out HO.out (fun w1 k1 _ => by
      obtain ⟨A', c', e', _, hb'⟩ := k1.form
      injection e' with e1
      subst e1
      exact hb'.take m) (by rw [hlen]; have := HN.out; have := HB.out; omega)
    rw [hlen] at HSw
    have HSw := Lib.hid HSw
    have e0 : openW s = swapD s (s.bs.take m) := by
      unfold openW
      rw [if_neg (by rw [← HM.out, ← HN.out]; omega), HM.out]
    have HE := Lib.hid e0
    have HLen := Lib.hid hlen
    have d0 : ((m : Int) != (n : Int)) = true := by simp; omega
    clear hlen hto e0
    obtain ⟨q, hq⟩ : ∃ q, q = (swapD s (s.bs.take m)).1 := ⟨_, rfl⟩
    go_wp2_with fail
    refine HSw.out.mono ?_
    rintro e w3 ⟨rfl, hd⟩
    have HD3 := Lib.hid (Did.after HK2.out hd)
    rw [← hq]
    clear hd
    by_cases h0 : q = 0
    · subst h0
      have HQ := Lib.hid hq.symm
      clear hq
      go_wp2
      go_ret2
      rw [HE.out, ← HN.out]
      obtain ⟨v', k1, k2, k3⟩ := HD3.out
      exact ⟨⟨v', k1.alloc _, Oth.alloc k2 _, k3⟩, .inl ⟨HQ.out, _, rfl, LAt.new _ _ _, k2.size⟩⟩
    · have HQ := Lib.hid hq
      have d1 : (q == 0) = false := by simpa using h0
      have H0 := Lib.hid h0
      clear hq
      go_wp2
      go_ret2
      rw [HE.out, ← HN.out]
      exact ⟨HD3.out, .inr ⟨by rw [← HQ.out]; exact H0.out, by rw [← HQ.out]; rfl⟩⟩
  · obtain rfl : m = n := by omega
    have e0 : openW s = (0, s) := by
      unfold openW
      rw [if_pos (by rw [← HM.out, ← HN.out])]
    have HE := Lib.hid e0
    have d0 : ((m : Int) != (m : Int)) = false := by simp
    clear e0 hto
    go_wp2
    go_ret2
    rw [HE.out, ← HN.out]
    exact ⟨⟨_, HD2.out.alloc _, Oth.alloc HK2.out _, fun k hk => .inl hk⟩, .inl ⟨rfl, _, rfl, LAt.new _ _ _, HK2.out.size⟩⟩


end Go.Proofs.YtalmjmhbpmhokaaGreat
end

/- The store of the code: Open. -/
section
namespace Go.Proofs.YtalmjmhbpmhokaaGreat
open Go.RowKit Go.Sort Go.Shelf

/-- What Open answers: no store, or one that knows what the log's records make of a new table. -/
def OpensS (T : TabT) (sty lty ty : TypeId) (w : World) (Q : Nat → Prop) (D : Nat) (s : DS) (ol : List (Nat × Nat)) (code : Int) (e : Ending) (w' : World) : Prop :=
  (code ≠ 0 ∧ e = .returned (.tuple #[.pointer none, .int .i64 code]) ∧ Below w.heap.size w w') ∨
  (code = 0 ∧ (openW s).1 ≠ 0 ∧ e = .returned (.tuple #[.pointer none, .int .i64 (openW s).1]) ∧ UpdD ty w Q D w' (openW s).2) ∨
  (code = 0 ∧ (openW s).1 = 0 ∧ ∃ S, e = .returned (.tuple #[ptr S, .int .i64 0]) ∧ Upd T sty lty ty w Q S D w' (openW s).2 (knK (addrsOf ol) (scanL (openW s).2.bs)))

theorem open_good (s : DS) : ∀ r ∈ scanL (openW s).2.bs, GoodF r := (scan_back _).1
theorem Way.empty {Q : Nat → Prop} {w w' : World} (h : Way (fun _ => False) w Q w') : Below w.heap.size w w' ∧ ∀ b, Q b → w.heap.size ≤ b :=
  ⟨⟨h.oth.os, h.oth.tape, h.oth.output, h.oth.size, fun k hk => h.oth.block k hk (fun hf => hf)⟩, fun b hb => by
    rcases h.new b hb with h1 | h1
    · exact h1.elim
    · exact h1⟩

/-- Records that were made before outlast a call upon the store. -/
theorem RowS.way {w0 w w' : World} {Q Q' : Nat → Prop} {A : Option Addr} {n c : Nat} {K : List SlV} (h : RowS w0 w (.slice A n c) K) (hn : n = K.length) (hw : Way Q w Q' w') (hQ : ∀ b, Q b → b < w0.heap.size) : Ls w' w'.heap.size A K := by
  subst hn
  have hk : Kp (fun b => w0.heap.size ≤ b ∧ b < w.heap.size) w w' := ⟨hw.oth.os, hw.oth.tape, hw.oth.output, hw.oth.size, fun b hb => hw.oth.block b hb.2 (fun hq => by have := hQ b hq; omega)⟩
  have h2 : OwnAll w' w0.heap.size K := fun x hx => own_kp (h.all x hx) hk (fun k e => (h.all x hx).lt k e)
  exact h2.ls (own_kp h.own hk (fun k e => h.own.lt k e))

/-- A store is laid over a table, a log, and a disk. -/
theorem SAt.new {T : TabT} {sty lty ty : TypeId} (F : TFr T) {w : World} {P : Nat → Prop} {L g D : Nat} {v : Value} {s : DS} {M : List LV} (hd : DAt ty (D + 1) w D s v) (ho : s.Ok) (hl : LAt lty w L D) (ht : T w P g M)
    (hP : ∀ b, P b → ¬ DF D v b) (hL : ¬ P L) (hDL : ¬ DF D v L) : SAt T sty lty ty (w.alloc (.cells #[ptr L, ptr g, .int .i64 0, .int .i64 0] sty)) P w.heap.size L g D v s ⟨M, 0, 0⟩ := by
  have hb : Below w.heap.size w (w.alloc (.cells #[ptr L, ptr g, .int .i64 0, .int .i64 0] sty)) := (Below.refl _ _).alloc (Nat.le_refl _) _
  have hD : ∀ b, DF D v b → b < w.heap.size := fun b hb => by
    rcases hb with rfl | hb
    · exact hd.dlt
    · exact (hd.ob b hb).2
  exact ⟨hd.below hb, ho, hl.below hb, F.keep ht (KpT.of_below hb (F.lt ht)), heap_alloc_new w _, hP, fun h => Nat.lt_irrefl _ (F.lt ht _ h), hL, fun h => Nat.lt_irrefl _ (hD _ h), hDL, fun e => by have := hl.lt; omega, by show (0 : Int) ≤ 0 ∧ (0 : Int) ≤ 8; omega, by show (0 : Int) ≤ 0 ∧ (0 : Int) ≤ 536870912; omega⟩

section
variable {T : TabT} {w : World} {Q : Nat → Prop} {D : Nat} {s : DS}

set_option maxRecDepth 100000 in
set_option maxHeartbeats 4000000 in
theorem sopen_any (K : TabK T) (h : Dk DT w Q D s) (A : Option Addr) (c : Nat) (l : List (Nat × Nat)) (hr : Rg w w.heap.size A l) (hl : l.length ≤ 1000) :
    Calls Tryz.prog 12 #[ptr D, .slice A l.length c] w fun e w' => ∃ ol code, PoolRes l ol code ∧ OpensS T StT LT DT w Q D s ol code e w' := by
  obtain ⟨v, hd, ho, rfl⟩ := h
  have HD := Lib.hid hd
  have HO := Lib.hid ho
  have HK := Lib.hid K
  have HN := Lib.hid (K.new A c l w hr hl)
  clear hd ho K hr hl
  go_enter Tryz.func12, Tryz.ntmps12
  go_wp2_with fail
  refine HN.out.mono ?_
  rintro e w1 ⟨ol, code, hres, hB1, (⟨hc, rfl⟩ | ⟨rfl, P, g, M, rfl, HM, hT, hP⟩)⟩
  · have HC := Lib.hid hc
    have HRES := Lib.hid hres
    have HB1 := Lib.hid hB1
    have d0 : (code != 0) = true := by simpa using hc
    clear hc hres hB1
    go_wp2
    go_ret2
    exact ⟨ol, code, HRES.out, .inl ⟨HC.out, rfl, HB1.out⟩⟩
  have HRES := Lib.hid hres
  have HB1 := Lib.hid hB1
  have HT := Lib.hid hT
  have HP : Hid (∀ b, P b → ¬ DF D v b) := Lib.hid (fun b hb hD => by
    have h1 := hP b hb
    rcases hD with rfl | hD
    · have := HD.out.dlt; omega
    · have := (HD.out.ob b hD).2; omega)
  have HP1 := Lib.hid hP
  have HD1 := Lib.hid (HD.out.below hB1)
  have HOP := Lib.hid (wopen_any HD1.out HO.out)
  have HOK : Hid (openW s).2.Ok := Lib.hid (open_ok HO.out)
  obtain ⟨r, hr⟩ : ∃ r, r = openW s := ⟨_, rfl⟩
  rw [← hr] at HOP HOK
  have HR := Lib.hid hr
  clear hres hB1 hT hP hr
  go_wp2_with fail
  refine HOP.out.mono ?_
  rintro e w2 ⟨hd2, (⟨h0, L, rfl, hL, hLn⟩ | ⟨h0, rfl⟩)⟩
  rotate_left
  · have H0 := Lib.hid h0
    have HD2 := Lib.hid hd2
    have d0 : (r.1 != 0) = true := by simpa using h0
    clear h0 hd2
    go_wp2
    go_ret2
    refine ⟨ol, 0, HRES.out, .inr (.inl ⟨rfl, by rw [← HR.out]; exact H0.out, by rw [← HR.out]; rfl, ?_⟩)⟩
    obtain ⟨v', k1, k2⟩ := did_way HD2.out
    rw [← HR.out]
    exact ⟨_, ⟨v', k1, HOK.out, rfl⟩, (Way.of_below HB1.out).trans k2⟩
  obtain ⟨v2, hd2', hw2⟩ := did_way hd2
  have hlo := hL.oth hd2' (by decide) (by decide)
  have hT2 := HK.out.fr.keep HT.out (hw2.kp (HK.out.lt HT.out) HP.out)
  have HS0 := Lib.hid (SAt.new (sty := StT) HK.out.fr hd2' HOK.out hL hT2 (hw2.apart (HK.out.lt HT.out) HP.out) (fun hp => by have := HK.out.lt HT.out L hp; omega) (fun hD => by
    rcases hD with e | e
    · exact hlo.2.1 e
    · exact hlo.2.2 e))
  obtain ⟨W3, hW3⟩ : ∃ W3, W3 = w2.alloc (.cells #[ptr L, ptr g, .int .i64 0, .int .i64 0] StT) := ⟨_, rfl⟩
  rw [← hW3] at HS0
  have HL0 : Hid (M = newL (addrsOf ol)) := HM
  have hway : Way (DF D v) w (SF w2.heap.size L D v2 P) W3 := by
    have hb3 : Below w2.heap.size w2 W3 := by rw [hW3]; exact (Below.refl _ _).alloc (Nat.le_refl _) _
    refine ⟨((Way.of_below (Q := DF D v) HB1.out).trans (hw2.trans (Way.of_below hb3))).oth, ?_⟩
    have z1 := HB1.out.size
    have z2 := hw2.size
    rintro b (rfl | rfl | hb | hb)
    · exact .inr (by omega)
    · exact .inr (by omega)
    · rcases hw2.new b hb with h1 | h1
      · exact .inl h1
      · exact .inr (by omega)
    · exact .inr (HP1.out b hb)
  have HWAY := Lib.hid hway
  have HH0 := Lib.hid h0
  have l0 := HS0.out.l.cell
  have HW3 := Lib.hid hW3
  have HREC := records_any HS0.out.d HS0.out.ok HS0.out.l
  obtain ⟨rs, hrs⟩ : ∃ rs, rs = scanL r.2.bs := ⟨_, rfl⟩
  rw [← hrs] at HREC
  have HRS := Lib.hid hrs
  have HREC := Lib.hid HREC
  have HGO : Hid (∀ b ∈ rs, GoodF b) := Lib.hid (by rw [hrs]; exact (scan_back _).1)
  obtain ⟨S0, hS0⟩ : ∃ S0, S0 = w2.heap.size := ⟨_, rfl⟩
  rw [← hS0] at HS0 HWAY
  have HSS := Lib.hid hS0
  clear hd2' hw2 hlo hT2 hL hLn hway h0 hW3 hrs hd2 hS0
  go_upto_region 8 with fail
  rw [← HW3.out, ← HSS.out]
  go_wp2_with fail
  refine HREC.out.mono ?_
  rintro e w4 ⟨A4, c4, K4, rfl, hK4, hrow4⟩
  have HS4 := Lib.hid (HS0.out.later HK.out.fr hrow4.low)
  have HK4 := Lib.hid hK4
  have HLS := Lib.hid (fun W Q' (hw : Way (SF S0 L D v2 P) w4 Q' W) => hrow4.way rfl hw (HS0.out.lt HK.out.fr))
  have HLow4 := Lib.hid hrow4.low
  clear hK4 hrow4 l0
  have hcr : K4.length ≤ 9223372036854775807 := by
    have h1 := scan_len r.2.bs
    have h2 := HOK.out.len
    have h3 := HOK.out.r1
    have h4 := congrArg List.length HK4.out
    rw [datas_length, HRS.out] at h4
    omega
  go_wp2_with fail
  go_loopw [11, 35] (fun _ i wr => ∃ (j : Nat) (Q' : Nat → Prop), j ≤ K4.length ∧ i = .int .i64 j ∧ Hid (Sd T StT LT DT wr Q' S0 D r.2 (knK (addrsOf ol) (rs.take j))) ∧ Hid (Way (SF S0 L D v2 P) w4 Q' wr)) (fun _ i _ => K4.length - (intOf i).toNat)
  case atStart =>
    refine ⟨0, _, Nat.zero_le _, rfl, Lib.hid (Sd.at_ (P := P) (L := L) (g := g) (v := v2) ?_), Lib.hid (Way.refl _ _)⟩
    have hh := HS4.out
    rw [HL0.out] at hh
    exact hh
  case round =>
    obtain ⟨j, Q', hj, rfl, HSD, HWY⟩ := hrel
    by_cases hlt : j < K4.length
    · obtain ⟨x, hx⟩ : ∃ x, K4[j]? = some x := ⟨_, List.getElem?_eq_getElem hlt⟩
      have hls := HLS.out wr Q' HWY.out
      have hxm := List.mem_of_getElem? hx
      obtain ⟨b, o, rfl, _, hc1⟩ := hls.at_ j x hx
      obtain ⟨P2, L2, g2, v3, hsat, hq⟩ := HSD.out
      have hrx : rs[j]? = some x.data := by rw [← HK4.out]; exact datas_at hx
      have HAP := Lib.hid (apply_any (c := x.cap) HK.out hsat (hls.data x hxm) (hls.caps x hxm) (HGO.out x.data (List.mem_of_getElem? hrx)))
      have HSN : Hid (knK (addrsOf ol) (rs.take (j + 1)) = doK (knK (addrsOf ol) (rs.take j)) x.data) := Lib.hid (by rw [take_snoc_of rs j x.data hrx, knK_snoc])
      rw [← HSN.out] at HAP
      have HQQ := Lib.hid hq
      clear hls hxm hx hsat hq hrx
      go_wp2_with fail
      refine HAP.out.mono ?_
      rintro e w5 ⟨rfl, Q5, hs5, hw5⟩
      have HS5 := Lib.hid hs5
      have HW5 : Hid (Way (SF S0 L D v2 P) w4 Q5 w5) := Lib.hid (HWY.out.trans (by rw [HQQ.out]; exact hw5))
      clear hs5 hw5
      go_wp2_with fail
      go_roundw
      case rel => exact ⟨j + 1, Q5, by omega, by go_num, HS5, HW5⟩
      case measure => simp [intOf]; omega
    · obtain rfl : j = K4.length := by omega
      have HTK : Hid (rs.take K4.length = rs) := Lib.hid (by rw [← HK4.out, List.take_of_length_le (by rw [datas_length]; exact Nat.le_refl _)])
      go_wp2_with fail
      go_ret2
      refine ⟨ol, 0, HRES.out, .inr (.inr ⟨rfl, by rw [← HR.out]; exact HH0.out, S0, rfl, ?_⟩)⟩
      rw [← HR.out, ← HRS.out]
      have hsd := HSD.out
      rw [HTK.out] at hsd
      exact ⟨Q', hsd, HWAY.out.trans ((Way.of_below HLow4.out).trans HWY.out)⟩
end
end Go.Proofs.YtalmjmhbpmhokaaGreat
end
