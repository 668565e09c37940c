/- The store of the code: Put, SetState, SetLife, Sync; Table, State, Life, Len. -/
import Derived.Test.YtalmjmhbpmhokaaGreatMrgStoM
import Derived.Deep.DeepCutAuto
import Derived.Deep.RegionWith
namespace Go.Proofs.YtalmjmhbpmhokaaGreat
open Go.RowKit Go.Sort Go.Shelf

/-- A lease's record is answered, or an error. -/
def GivesLr (w : World) (x : LV) (e : Ending) (w' : World) : Prop :=
  (RightL x ∧ ∃ A c, e = .returned (.tuple #[.slice A (recL x).length c, .int .i64 0]) ∧ (recL x).length ≤ c ∧ Row w w' (.slice A (recL x).length c) (recL x)) ∨
  (¬ RightL x ∧ e = .returned (.tuple #[.slice none 0 0, .int .i64 1]) ∧ Below w.heap.size w w')

set_option maxRecDepth 100000 in
set_option maxHeartbeats 1000000 in
theorem lrec_any (m : LV) (ha : m.addr < 4294967296) (w : World) : Calls Tryz.prog 60 #[m.v] w (GivesLr w m) := by
  obtain ⟨w0, hw0⟩ : ∃ w0, w0 = w.alloc (lbox m) := ⟨_, rfl⟩
  have HX : Hid (LBox w0 w.heap.size m) := Lib.hid (by rw [hw0]; exact LBox.new w m)
  have HB0 : Hid (Below w.heap.size w w0) := Lib.hid (by rw [hw0]; exact (Below.refl _ _).alloc (Nat.le_refl _) _)
  have HW0 := Lib.hid hw0
  have HEN := encode_any m ha w0
  clear hw0
  by_cases hr : RightL m
  · rw [show encRL m = (encL m, 0) by simp [encRL, hr]] at HEN
    have HEN := Lib.hid HEN
    have HR := Lib.hid hr
    have hlen := recL_len hr
    have hlen2 : (encL m).length ≤ 68 := by simp only [recL, List.length_cons] at hlen; omega
    clear hr hlen
    obtain ⟨c0, c1, c2, c3, c4, c5, c6, c7⟩ := HX.out.all
    go_enter Tryz.func60, Tryz.ntmps60
    go_wp2_with fail
    rw [← HW0.out]
    refine HEN.out.mono ?_
    rintro e w1 ⟨A, c, rfl, hby, hc, hB1⟩
    have HB1 := Lib.hid (HB0.out.trans (hB1.mono HB0.out.size))
    have HBY := Lib.hid hby
    have HRI := Lib.hid (rowI w w1 76 (by omega) (by omega) HB1.out)
    clear hby hB1 c0 c1 c2 c3 c4 c5 c6 c7
    go_wp2_with (at_builtin; refine wpList_row rfl (.tmp 14) (.tmp 15) rfl rfl HRI.out (encL m) rfl rfl (HBY.out.below ((Below.refl _ _).alloc (Nat.le_refl _) _)) (by simp; omega) ?_; intro v3 w3 hr3 hg3; have hr3 := Lib.hid hr3; clear hg3)
    obtain ⟨A', c', rfl, hc', hby'⟩ := hr3.out.form
    go_ret2
    exact .inl ⟨HR.out, A', c', rfl, hc', hr3.out⟩
  · rw [show encRL m = ([], 1) by simp [encRL, hr]] at HEN
    have HEN := Lib.hid HEN
    have HR := Lib.hid hr
    clear hr
    obtain ⟨c0, c1, c2, c3, c4, c5, c6, c7⟩ := HX.out.all
    go_enter Tryz.func60, Tryz.ntmps60
    go_wp2_with fail
    rw [← HW0.out]
    refine HEN.out.mono ?_
    rintro e w1 ⟨A, c, rfl, hby, hc, hB1⟩
    have HB1 := Lib.hid (HB0.out.trans (hB1.mono HB0.out.size))
    clear hby hB1
    go_wp2
    go_ret2
    exact .inr ⟨HR.out, rfl, HB1.out⟩

theorem enters_S : ∀ args W, (callFunc 67 args).run Tryz.prog W = .ok (.enter 67 args) W := enters_of Tryz.func67 (by kernel_rfl) rfl
theorem enters_F : ∀ args W, (callFunc 65 args).run Tryz.prog W = .ok (.enter 65 args) W := enters_of Tryz.func65 (by kernel_rfl) rfl
theorem enters_L : ∀ args W, (callFunc 64 args).run Tryz.prog W = .ok (.enter 64 args) W := enters_of Tryz.func64 (by kernel_rfl) rfl

section
variable {T : TabT} {w : World} {P : Nat → Prop} {S L g D : Nat} {v : Value} {s : DS} {k : Kn}

set_option maxRecDepth 100000 in
theorem table_any' (h : SAt T StT LT DT w P S L g D v s k) : Calls Tryz.prog 21 #[ptr S] w fun e w' => e = .returned (ptr g) ∧ w = w' := by
  have c1 := h.c1
  clear h
  go_enter Tryz.func21, Tryz.ntmps21
  go_wp2
  go_ret
  exact ⟨rfl, rfl⟩
set_option maxRecDepth 100000 in
theorem state_any (h : SAt T StT LT DT w P S L g D v s k) : Calls Tryz.prog 23 #[ptr S] w fun e w' => e = .returned (.int .i64 k.st) ∧ w = w' := by
  have c2 := h.c2
  clear h
  go_enter Tryz.func23, Tryz.ntmps23
  go_wp2
  go_ret
  exact ⟨rfl, rfl⟩
set_option maxRecDepth 100000 in
theorem life_any (h : SAt T StT LT DT w P S L g D v s k) : Calls Tryz.prog 24 #[ptr S] w fun e w' => e = .returned (.int .i64 k.lf) ∧ w = w' := by
  have c3 := h.c3
  clear h
  go_enter Tryz.func24, Tryz.ntmps24
  go_wp2
  go_ret
  exact ⟨rfl, rfl⟩
set_option maxRecDepth 100000 in
theorem slen_any (h : SAt T StT LT DT w P S L g D v s k) : Calls Tryz.prog 27 #[ptr S] w fun e w' => e = .returned (.int .i64 ((scanL s.bs).length : Int)) ∧ Below w.heap.size w w' := by
  have c0 := h.c0
  have HL := Lib.hid (len_any h.d h.ok h.l)
  clear h
  go_enter Tryz.func27, Tryz.ntmps27
  go_wp2_with fail
  refine HL.out.mono ?_
  rintro e w1 ⟨rfl, hb⟩
  go_wp2
  go_ret
  exact ⟨rfl, hb⟩
set_option maxRecDepth 100000 in
theorem ssync_any (F : TFr T) (h : SAt T StT LT DT w P S L g D v s k) : Calls Tryz.prog 31 #[ptr S] w (AnsS T StT LT DT w (SF S L D v P) S D ((syncD s).1, (syncD s).2, k)) := by
  have c0 := h.c0
  have l0 := h.l.cell
  have HL := Lib.hid (sync_any h.d h.ok)
  have H := Lib.hid h
  clear h
  go_enter Tryz.func31, Tryz.ntmps31
  go_wp2_with fail
  refine HL.out.mono ?_
  rintro e w1 ⟨rfl, hd⟩
  obtain ⟨v1, h1, hw1⟩ := H.out.did F hd (sync_ok H.out.ok)
  go_wp2
  go_ret
  exact ⟨rfl, _, Sd.at_ h1, hw1⟩

set_option maxRecDepth 100000 in
set_option maxHeartbeats 1000000 in
theorem setstate_any (F : TFr T) (h : SAt T StT LT DT w P S L g D v s k) (n : Int) :
    Calls Tryz.prog 32 #[ptr S, .int .i64 n] w (AnsS T StT LT DT w (SF S L D v P) S D (setSS s k n)) := by
  have H := Lib.hid h
  clear h
  by_cases hn : 0 ≤ n ∧ n ≤ 8
  · have HE : Hid (setSS s k n = noteS s k (recS n)) := Lib.hid (by unfold setSS; rw [if_pos hn])
    have d1 : decide (n < 0) = false := decide_eq_false (by omega)
    have d2 : decide (8 < n) = false := decide_eq_false (by omega)
    have HR := Lib.hid (srec_any n hn.1 w)
    clear hn
    rw [HE.out]
    go_enter Tryz.func32, Tryz.ntmps32
    go_wp2_with fail
    refine HR.out.mono ?_
    rintro e w1 ⟨A, c, rfl, hc, hrow⟩
    have h1 := H.out.later F hrow.low
    have HN := Lib.hid (note_any h1 (applies_S F) F enters_S (ByO.of_row H.out.d hrow) hc 83 [UInt8.ofNat n.toNat] rfl (by simp) (doK_S k _))
    have HB := Lib.hid hrow.low
    clear hrow h1
    go_wp2_with fail
    refine HN.out.mono ?_
    rintro e w2 ⟨rfl, hu⟩
    go_wp2
    go_ret
    exact ⟨rfl, Upd.after (Way.of_below HB.out) hu⟩
  · have HE : Hid (setSS s k n = (1, s, k)) := Lib.hid (by unfold setSS; rw [if_neg hn])
    rw [HE.out]
    by_cases h0 : n < 0
    · have d1 : decide (n < 0) = true := decide_eq_true h0
      clear hn h0
      go_enter Tryz.func32, Tryz.ntmps32
      go_wp2
      go_ret
      exact ⟨rfl, Upd.refl (Sd.at_ H.out)⟩
    · have d1 : decide (n < 0) = false := decide_eq_false h0
      have d2 : decide (8 < n) = true := decide_eq_true (by omega)
      clear hn h0
      go_enter Tryz.func32, Tryz.ntmps32
      go_wp2
      go_ret
      exact ⟨rfl, Upd.refl (Sd.at_ H.out)⟩

set_option maxRecDepth 100000 in
set_option maxHeartbeats 1000000 in
theorem setlife_any (F : TFr T) (h : SAt T StT LT DT w P S L g D v s k) (n : Int) :
    Calls Tryz.prog 30 #[ptr S, .int .i64 n] w (AnsS T StT LT DT w (SF S L D v P) S D (setFS s k n)) := by
  have H := Lib.hid h
  clear h
  by_cases hn : 0 ≤ n ∧ n ≤ 536870912
  · have HE : Hid (setFS s k n = noteS s k (recF n)) := Lib.hid (by unfold setFS; rw [if_pos hn])
    have d1 : decide (n < 0) = false := decide_eq_false (by omega)
    have d2 : decide (536870912 < n) = false := decide_eq_false (by omega)
    have HR := Lib.hid (frec_any n hn.1 w)
    clear hn
    rw [HE.out]
    go_enter Tryz.func30, Tryz.ntmps30
    go_wp2_with fail
    refine HR.out.mono ?_
    rintro e w1 ⟨A, c, rfl, hc, hrow⟩
    have h1 := H.out.later F hrow.low
    have HN := Lib.hid (note_any h1 (applies_F F) F enters_F (ByO.of_row H.out.d hrow) hc 70 (beL n.toNat 4) rfl (by rw [beL_length]; omega) (doK_F k _))
    have HB := Lib.hid hrow.low
    clear hrow h1
    go_wp2_with fail
    refine HN.out.mono ?_
    rintro e w2 ⟨rfl, hu⟩
    go_wp2
    go_ret
    exact ⟨rfl, Upd.after (Way.of_below HB.out) hu⟩
  · have HE : Hid (setFS s k n = (1, s, k)) := Lib.hid (by unfold setFS; rw [if_neg hn])
    rw [HE.out]
    by_cases h0 : n < 0
    · have d1 : decide (n < 0) = true := decide_eq_true h0
      clear hn h0
      go_enter Tryz.func30, Tryz.ntmps30
      go_wp2
      go_ret
      exact ⟨rfl, Upd.refl (Sd.at_ H.out)⟩
    · have d1 : decide (n < 0) = false := decide_eq_false h0
      have d2 : decide (536870912 < n) = true := decide_eq_true (by omega)
      clear hn h0
      go_enter Tryz.func30, Tryz.ntmps30
      go_wp2
      go_ret
      exact ⟨rfl, Upd.refl (Sd.at_ H.out)⟩

theorem got_new {w1 w3 : World} {q : LV} (h : Below w1.drew.heap.size w1.drew w3) : Below w1.heap.size w1 (w3.alloc (lbox q)) :=
  (wayB h).alloc (wayB h).size _
theorem got_old {w1 w3 : World} {o : Obj} {q : LV} (h : Below (w1.alloc o).drew.heap.size (w1.alloc o).drew w3) : Below w1.heap.size w1 (storeL w3 w1.heap.size q) :=
  (wayA h).trans (storeL_low w3 w1.heap.size w1.heap.size (Nat.le_refl _) q)

set_option maxRecDepth 100000 in
set_option maxHeartbeats 2000000 in
theorem sput_any (K : TabK T) (h : SAt T StT LT DT w P S L g D v s k) (x : LV) (ha : x.addr < 4294967296) :
    Calls Tryz.prog 29 #[ptr S, x.v] w (AnsS T StT LT DT w (SF S L D v P) S D (putS s k x)) := by
  obtain ⟨w0, hw0⟩ : ∃ w0, w0 = w.alloc (lbox x) := ⟨_, rfl⟩
  have HX : Hid (LBox w0 w.heap.size x) := Lib.hid (by rw [hw0]; exact LBox.new w x)
  have hB0 : Below w.heap.size w w0 := by rw [hw0]; exact (Below.refl _ _).alloc (Nat.le_refl _) _
  have HB0 := Lib.hid hB0
  have HW0 := Lib.hid hw0
  have H := Lib.hid (h.later K.fr hB0)
  have H00 := Lib.hid h
  have HK := Lib.hid K
  have HR := Lib.hid (lrec_any x ha w0)
  clear h hw0 hB0 K
  obtain ⟨q, hq⟩ : ∃ q, q = getL k.L x.addr := ⟨_, rfl⟩
  have HQ := Lib.hid hq
  obtain ⟨c0, c1, c2, c3, c4, c5, c6, c7⟩ := HX.out.all
  go_enter Tryz.func29, Tryz.ntmps29
  go_wp2_with fail
  rw [← HW0.out]
  refine HR.out.mono ?_
  rintro e w1 (⟨hr, A, c, rfl, hc, hrow⟩ | ⟨hr, rfl, hB⟩)
  rotate_left
  · have HE : Hid (putS s k x = (1, s, k)) := Lib.hid (by unfold putS; rw [if_neg hr])
    clear hr
    have HB := Lib.hid (HB0.out.trans (hB.mono HB0.out.size))
    go_wp2
    go_ret
    rw [HE.out]
    exact ⟨rfl, Upd.low HK.out.fr (Sd.at_ H00.out) HB.out⟩
  have HRR := Lib.hid hr
  have HROW := Lib.hid hrow
  have HB1 := Lib.hid (HB0.out.trans (hrow.low.mono HB0.out.size))
  have HX1 := Lib.hid (HX.out.later hrow.low)
  have H1 := Lib.hid (H.out.later HK.out.fr hrow.low)
  clear hr hrow hq c0 c1 c2 c3 c4 c5 c6 c7
  have c0 := HX1.out.c0
  have s1 := H1.out.c1
  have HGET := Lib.hid (fun W (hb : Below w1.heap.size w1 W) => HK.out.get x.addr (H1.out.later HK.out.fr hb).t ha)
  rw [← HQ.out] at HGET
  have s1a : (w1.alloc (.cells #[.int .u32 0, .int .i64 0, .string ⟨#[]⟩, .int .i64 0, .int .i64 0, .int .i64 0, .int .i64 0, .int .i64 0] 45)).cell? ⟨S, 1, none⟩ = some (ptr g) := (H1.out.later HK.out.fr ((Below.refl _ _).alloc (Nat.le_refl _) _)).c1
  have c0a : (w1.alloc (.cells #[.int .u32 0, .int .i64 0, .string ⟨#[]⟩, .int .i64 0, .int .i64 0, .int .i64 0, .int .i64 0, .int .i64 0] 45)).cell? ⟨w.heap.size, 0, none⟩ = some (.int .u32 (x.addr : Int)) := (HX1.out.alloc _).c0
  go_upto_region 4 with fail
  go_cut [7, 8] (fun s7 s8 wx => s8 = .int .i64 q.2 ∧ Below w1.heap.size w1 wx)
  case first =>
    go_region_with (first
      | (go_at_call 28; refine (HGET.out _ (Below.refl _ _).drew).mono ?_; rintro e w3 ⟨rfl, hB3⟩)
      | (go_at_call 28; refine (HGET.out _ ((Below.refl _ _).alloc (Nat.le_refl _) _).drew).mono ?_; rintro e w3 ⟨rfl, hB3⟩; have hz : LBox w3 w1.heap.size zeroL := ((LBox.new w1 zeroL).drew).later hB3; obtain ⟨z0, z1, z2, z3, z4, z5, z6, z7⟩ := hz.all; obtain ⟨f0, f1, f2, f3, f4, f5, f6, f7⟩ := hz.allF))
    all_goals
      go_wp2_with fail
      go_meet
      refine ⟨rfl, ?_⟩
      first
        | (have hn := got_new (q := q.1) hB3; with_reducible exact hn)
        | (have hn := got_old (q := q.1) hB3; unfold storeL at hn; with_reducible exact hn)
  case rest =>
    obtain ⟨rfl, hB3⟩ := hcut
    rename_i w3
    have H3 := Lib.hid (H1.out.later HK.out.fr hB3)
    have HB3 := Lib.hid (HB1.out.trans (hB3.mono HB1.out.size))
    have HROW3 := Lib.hid (HROW.out.later hB3)
    clear hB3 c0 s1 s1a c0a
    by_cases h0 : q.2 = 0
    · have HE : Hid (putS s k x = noteS s k (recL x)) := Lib.hid (by unfold putS; rw [if_pos HRR.out, if_pos (by rw [← HQ.out]; exact h0)])
      have HN := Lib.hid (note_any H3.out (applies_L HK.out) HK.out.fr enters_L (ByO.of_row H.out.d HROW3.out) hc 76 (encL x) rfl (by have := recL_len HRR.out; simp only [recL, List.length_cons] at this; omega) (doK_L k _))
      have d0 : (q.2 != 0) = false := by simpa using h0
      clear h0
      go_wp2_with fail
      refine HN.out.mono ?_
      rintro e w4 ⟨rfl, hu⟩
      go_wp2
      go_ret
      rw [HE.out]
      exact ⟨rfl, Upd.after (Way.of_below HB3.out) hu⟩
    · have HE : Hid (putS s k x = (q.2, s, k)) := Lib.hid (by unfold putS; rw [if_pos HRR.out, if_neg (by rw [← HQ.out]; exact h0), ← HQ.out])
      have d0 : (q.2 != 0) = true := by simpa using h0
      clear h0
      go_wp2
      go_ret
      rw [HE.out]
      exact ⟨rfl, Upd.low HK.out.fr (Sd.at_ H00.out) HB3.out⟩
end
end Go.Proofs.YtalmjmhbpmhokaaGreat
