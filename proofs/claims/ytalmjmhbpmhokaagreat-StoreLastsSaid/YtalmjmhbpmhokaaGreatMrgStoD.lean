/- Joined texts: StoD, StoE. -/
import Derived.Test.YtalmjmhbpmhokaaGreatMrgStoM
import Derived.Test.YtalmjmhbpmhokaaGreatMrgLeaD
import Derived.Test.YtalmjmhbpmhokaaGreatMrgTabN
import Derived.Deep.RegionWith
import Derived.Deep.DeepCutAuto

/- The document's store: its table's calls; do, note, bytes, life, SetState, SetLife, Sync. -/
section
namespace Go.Proofs.YtalmjmhbpmhokaaGreat
open Go.RowKit Go.Sort Go.Shelf

theorem tr_set {w : World} {P : Nat → Prop} {g : Nat} {L : List LV} (x : LV) (h : TR w P g L) :
    Calls Tryz.prog 80 #[.pointer (some ⟨g, 0, none⟩), x.v] w fun e w' => e = .returned (.int .i64 (setL L x).2) ∧ TR w' P g (setL L x).1 ∧ OthT P w w' := by
  obtain ⟨v, h0, h1, h2, h3, rfl⟩ := h
  refine (rset_any x h0 (by omega)).mono ?_
  rintro e w' ⟨rfl, k0, k1⟩
  refine ⟨rfl, ⟨v, k0.nul, setL_tab h1 x, by rw [setL_length]; exact h2, ?_, rfl⟩, ⟨k1.os, k1.tape, k1.output, k1.size, fun k hk hp => k1.block k hk (fun e => hp (.inr e.symm))⟩⟩
  intro y hy
  have hm : y.addr ∈ (setL L x).1.map LV.addr := List.mem_map.2 ⟨y, hy, rfl⟩
  rw [setL_addrs] at hm
  obtain ⟨z, hz, e⟩ := List.mem_map.1 hm
  rw [← e]
  exact h3 z hz

section
variable {w : World} {P : Nat → Prop} {S L g D : Nat} {v : Value} {s : DS} {k : Kn}

theorem wrap_step (m y : Nat) (hm : m < 36028797018963968) (hy : y < 256) : IntKind.i64.wrap (IntKind.i64.wrap ((m : Int) * 256) + (y : Int)) = ((m * 256 + y : Nat) : Int) := by
  rw [IntWalk.i64_in ((m : Int) * 256) (by omega), IntWalk.i64_in _ (by omega)]
  omega

set_option maxRecDepth 100000 in
set_option maxHeartbeats 2000000 in
theorem rdoL_any (h : SAt TR StR MT RT w P S L g D v s k) {A : Option Addr} {c : Nat} {t : List UInt8} (hA : By w w.heap.size A (76 :: t)) (hc : (76 :: t).length ≤ c) (hl : t.length ≤ 1000) :
    Calls Tryz.prog 40 #[ptr S, .slice A (76 :: t).length c] w fun e w' => e = .returned (.tuple #[]) ∧ Upd TR StR MT RT w (SF S L D v P) S D w' s (doK k (76 :: t)) := by
  have htail := run_tailB A (76 :: t : List UInt8).length c 1 (by omega) (by rw [List.length_cons]; omega)
  have hby2 := tail_by hA hc
  obtain ⟨A2, hA2⟩ : ∃ A2, A2 = (if c = 1 then A else A.map (·.add 1)) := ⟨_, rfl⟩
  rw [show (1 : Int).toNat = 1 from rfl, ← hA2, List.length_cons, Nat.add_sub_cancel] at htail
  rw [← hA2] at hby2
  obtain ⟨b, o, rfl, hb, hcell⟩ := hA.at_ 0 76 rfl
  rw [Nat.add_zero] at hcell
  have hc2 : t.length ≤ c - 1 := by simp at hc; omega
  have HD := Lib.hid (rdecode_any A2 (c - 1) t w hby2 hc2 (by omega))
  have H := Lib.hid h
  have hcell : w.cell? ⟨b, o, none⟩ = some (.int .u8 76) := hcell
  have d0 : ((t.length : Int) + 1 == 0) = false := by simp; omega
  rw [doK_L, List.length_cons]
  clear h hA hby2 hA2
  obtain ⟨q, hq⟩ : ∃ q, q = decL t := ⟨_, rfl⟩
  rw [← hq] at HD
  have HQ := Lib.hid hq
  go_enter Tryz.func40, Tryz.ntmps40
  go_wp2_with fail
  refine HD.out.mono ?_
  rintro e w1 ⟨rfl, hB1⟩
  obtain ⟨w2, hw2⟩ : ∃ w2, w2 = w1.alloc (lbox q.1) := ⟨_, rfl⟩
  have hB2 : Below w1.heap.size w1 w2 := by rw [hw2]; exact (Below.refl _ _).alloc (Nat.le_refl _) _
  have HX : Hid (LBox w2 w1.heap.size q.1) := Lib.hid (by rw [hw2]; exact LBox.new w1 q.1)
  have HB2 := Lib.hid (hB1.trans (hB2.mono hB1.size))
  have HW2 := Lib.hid hw2
  clear hB1 hB2 hw2
  by_cases hok : decOk t
  · have e1 : q = (rawL t, 0) := by rw [hq]; unfold decL; rw [if_pos hok]
    have HB : Hid (bodL k.L t = (setL k.L (rawL t)).1) := Lib.hid (by unfold bodL; rw [if_pos hok])
    subst e1
    clear hq hok
    obtain ⟨r0, hr0⟩ : ∃ r0, r0 = rawL t := ⟨_, rfl⟩
    rw [← hr0] at HX HW2 HB ⊢
    have HS2 := Lib.hid (H.out.later tr_fr HB2.out)
    have c1 := HS2.out.c1
    have HS3 := Lib.hid (HS2.out.later tr_fr (Below.refl _ _).drew)
    have HSET := Lib.hid (tr_set r0 HS3.out.t)
    clear hr0
    go_upto_region 4 with fail
    rw [← HW2.out]
    obtain ⟨b0, b1, b2, b3, b4, b5, b6, b7⟩ := HX.out.all
    go_region_with (go_at_call 80; refine HSET.out.mono ?_; rintro e w3 ⟨rfl, hT3, hO3⟩)
    all_goals
      go_wp2_with fail
      go_end0
      rw [HB.out]
      obtain ⟨k1, k2⟩ := HS3.out.tset hT3 hO3 (fun _ hb => .inl hb)
      exact ⟨rfl, _, Sd.at_ k1, (Way.of_below (HB2.out.trans ((Below.refl _ _).drew.mono HB2.out.size))).trans k2⟩
  · have e1 : q = (zeroL, 2) := by rw [hq]; unfold decL; rw [if_neg hok]
    have HB : Hid (bodL k.L t = k.L) := Lib.hid (by unfold bodL; rw [if_neg hok])
    subst e1
    clear hq hok
    go_wp2
    go_end0
    rw [HB.out]
    rw [← HW2.out]
    exact ⟨rfl, Upd.low tr_fr (Sd.at_ H.out) HB2.out⟩

/-- The first byte's test: none of those that are asked for. -/
theorem byte_ne {x n : UInt8} (h : x ≠ n) : ((x.toNat : Int) == (n.toNat : Int)) = false := by
  have : x.toNat ≠ n.toNat := fun e => h (UInt8.toNat_inj.1 e)
  simp
  omega

set_option maxRecDepth 100000 in
set_option maxHeartbeats 2000000 in
theorem rdoS_any (h : SAt TR StR MT RT w P S L g D v s k) {A : Option Addr} {c : Nat} {t : List UInt8} (hA : By w w.heap.size A (83 :: t)) (hl : t.length ≤ 1000) :
    Calls Tryz.prog 40 #[ptr S, .slice A (83 :: t).length c] w fun e w' => e = .returned (.tuple #[]) ∧ Upd TR StR MT RT w (SF S L D v P) S D w' s (doK k (83 :: t)) := by
  obtain ⟨b, o, rfl, hb, hcell⟩ := hA.at_ 0 83 rfl
  rw [Nat.add_zero] at hcell
  have hcell : w.cell? ⟨b, o, none⟩ = some (.int .u8 83) := hcell
  have d0 : ((t.length : Int) + 1 == 0) = false := by simp; omega
  have hf := h.free 2
  have hc2 := h.c2
  have H := Lib.hid h
  rw [doK_S, List.length_cons]
  by_cases h1 : t.length = 1
  · match t, h1 with
    | [x], _ =>
    obtain ⟨b2, o2, hbo, hb2, hcx⟩ := hA.at_ 1 x rfl
    injection hbo with hbo
    injection hbo with e1 e2
    subst e1 e2
    have hn : numL [x] = x.toNat := num_one x
    clear h hA
    by_cases hx : 8 < x.toNat
    · have d : decide ((x.toNat : Int) ≤ (8 : Int)) = false := decide_eq_false (by omega)
      have HB : Hid (bodS k.st [x] = k.st) := Lib.hid (by unfold bodS; rw [if_neg]; rw [hn]; omega)
      go_enter Tryz.func40, Tryz.ntmps40
      go_wp2
      go_end0
      rw [HB.out]
      exact ⟨rfl, Upd.refl (Sd.at_ H.out)⟩
    · have d : decide ((x.toNat : Int) ≤ (8 : Int)) = true := decide_eq_true (by omega)
      have HB : Hid (bodS k.st [x] = (x.toNat : Int)) := Lib.hid (by unfold bodS; rw [if_pos ⟨rfl, by rw [hn]; omega⟩, hn])
      have HX := Lib.hid hx
      go_enter Tryz.func40, Tryz.ntmps40
      go_wp2
      go_end0
      rw [HB.out]
      refine ⟨rfl, _, Sd.at_ (H.out.set2 tr_fr (x.toNat : Int) (by have := HX.out; omega)), way_set w S 2 _ (.inl rfl)⟩
  · have HB : Hid (bodS k.st t = k.st) := Lib.hid (by unfold bodS; rw [if_neg (fun hh => h1 hh.1)])
    have d1 : ((t.length : Int) + 1 == 2) = false := by simp; omega
    clear h hA
    go_enter Tryz.func40, Tryz.ntmps40
    go_wp2
    go_end0
    rw [HB.out]
    exact ⟨rfl, Upd.refl (Sd.at_ H.out)⟩

set_option maxRecDepth 100000 in
set_option maxHeartbeats 2000000 in
theorem rdoF_any (h : SAt TR StR MT RT w P S L g D v s k) {A : Option Addr} {c : Nat} {t : List UInt8} (hA : By w w.heap.size A (70 :: t)) (hl : t.length ≤ 1000) :
    Calls Tryz.prog 40 #[ptr S, .slice A (70 :: t).length c] w fun e w' => e = .returned (.tuple #[]) ∧ Upd TR StR MT RT w (SF S L D v P) S D w' s (doK k (70 :: t)) := by
  obtain ⟨b, o, rfl, hb, hcell⟩ := hA.at_ 0 70 rfl
  rw [Nat.add_zero] at hcell
  have hcell : w.cell? ⟨b, o, none⟩ = some (.int .u8 70) := hcell
  have d0 : ((t.length : Int) + 1 == 0) = false := by simp; omega
  have hf := h.free 3
  have hc3 := h.c3
  have H := Lib.hid h
  rw [doK_F, List.length_cons]
  by_cases h1 : t.length = 4
  · have HBY := Lib.hid hA
    have HT := Lib.hid h1
    rw [h1]
    clear h hA h1 d0
    go_enter Tryz.func40, Tryz.ntmps40
    go_wp2
    go_loop [6, 7] (fun nv iv => ∃ j m : Nat, j ≤ 4 ∧ iv = .int .i64 ((j + 1 : Nat) : Int) ∧ nv = .int .i64 (m : Int) ∧ m = numL (t.take j)) (fun _ i => 5 - (intOf i).toNat)
    case atStart => exact ⟨0, 0, Nat.zero_le _, rfl, rfl, rfl⟩
    case round =>
      obtain ⟨j, m, hj, rfl, rfl, hm⟩ := hrel
      have HM := Lib.hid hm
      have hml : m < 256 ^ j := by rw [hm]; have := numL_lt (t.take j); rwa [List.length_take, Nat.min_eq_left (by have := HT.out; omega)] at this
      clear hm
      by_cases hlt : j < 4
      · obtain ⟨y, hy⟩ : ∃ y, t[j]? = some y := ⟨_, List.getElem?_eq_getElem (by have := HT.out; omega)⟩
        obtain ⟨b2, o2, hbo, hbb, hc⟩ := HBY.out.at_ (j + 1) y hy
        injection hbo with hbo
        injection hbo with e1 e2
        subst e1 e2
        have hml2 : m < 36028797018963968 := Nat.lt_of_lt_of_le hml (Nat.le_trans (Nat.pow_le_pow_right (by omega) (show j ≤ 5 by omega)) (by decide))
        have hyy := y.toNat_lt
        have HY := Lib.hid hy
        clear hy hml
        go_wp2
        go_round
        case rel => exact ⟨j + 1, m * 256 + y.toNat, by omega, by go_num, by go_num, by rw [take_snoc_of t j y HY.out, numL_snoc, ← HM.out]⟩
        case measure => simp [intOf]; omega
      · obtain rfl : j = 4 := by omega
        have hm2 : m = numL t := by rw [HM.out, List.take_of_length_le (by have := HT.out; omega)]
        by_cases hx : m ≤ 536870912
        · have d : decide ((m : Int) ≤ 536870912) = true := decide_eq_true (by omega)
          have HB : Hid (bodF k.lf t = (m : Int)) := Lib.hid (by unfold bodF; rw [if_pos ⟨HT.out, by rw [← hm2]; exact hx⟩, hm2])
          have HX := Lib.hid hx
          clear hml hm2
          go_wp2
          go_end0
          rw [HB.out]
          exact ⟨rfl, _, Sd.at_ (H.out.set3 tr_fr (m : Int) (by have := HX.out; omega)), way_set w S 3 _ (.inl rfl)⟩
        · have d : decide ((m : Int) ≤ 536870912) = false := decide_eq_false (by omega)
          have HB : Hid (bodF k.lf t = k.lf) := Lib.hid (by unfold bodF; rw [if_neg]; rw [← hm2]; omega)
          clear hml hm2
          go_wp2
          go_end0
          rw [HB.out]
          exact ⟨rfl, Upd.refl (Sd.at_ H.out)⟩
  · have HB : Hid (bodF k.lf t = k.lf) := Lib.hid (by unfold bodF; rw [if_neg (fun hh => h1 hh.1)])
    have d1 : ((t.length : Int) + 1 == 5) = false := by simp; omega
    clear h hA
    go_enter Tryz.func40, Tryz.ntmps40
    go_wp2
    go_end0
    rw [HB.out]
    exact ⟨rfl, Upd.refl (Sd.at_ H.out)⟩

set_option maxRecDepth 100000 in
set_option maxHeartbeats 2000000 in
theorem rdo_any (h : SAt TR StR MT RT w P S L g D v s k) {A : Option Addr} {c : Nat} {b : List UInt8} (hA : By w w.heap.size A b) (hc : b.length ≤ c) (hg : GoodF b) :
    Calls Tryz.prog 40 #[ptr S, .slice A b.length c] w fun e w' => e = .returned (.tuple #[]) ∧ Upd TR StR MT RT w (SF S L D v P) S D w' s (doK k b) := by
  match b, hg with
  | [], hg => exact absurd hg.1 (by simp)
  | x :: t, hg =>
  have ht : t.length ≤ 1000 := by have := hg.2; simp at this; omega
  by_cases h1 : x = 76
  · subst h1; exact rdoL_any h hA hc ht
  by_cases h2 : x = 83
  · subst h2; exact rdoS_any h hA ht
  by_cases h3 : x = 70
  · subst h3; exact rdoF_any h hA ht
  rw [doK_no k t h1 h2 h3]
  obtain ⟨b, o, rfl, hb, hcell⟩ := hA.at_ 0 x rfl
  rw [Nat.add_zero] at hcell
  have d0 : ((t.length : Int) + 1 == 0) = false := by simp; omega
  have d1 : ((x.toNat : Int) == 76) = false := byte_ne h1
  have d2 : ((x.toNat : Int) == 83) = false := byte_ne h2
  have d3 : ((x.toNat : Int) == 70) = false := byte_ne h3
  have H := Lib.hid h
  rw [List.length_cons]
  clear h hA h1 h2 h3 hg
  go_enter Tryz.func40, Tryz.ntmps40
  go_wp2
  go_end0
  exact ⟨rfl, Upd.refl (Sd.at_ H.out)⟩

set_option maxRecDepth 100000 in
set_option maxHeartbeats 1000000 in
theorem rnote_any (h : SAt TR StR MT RT w P S L g D v s k) {A : Option Addr} {c : Nat} {b : List UInt8} (hA : ByO w D v A b) (hc : b.length ≤ c) (hg : GoodF b) :
    Calls Tryz.prog 83 #[ptr S, .slice A b.length c] w (AnsS TR StR MT RT w (SF S L D v P) S D (noteS s k b)) := by
  have HA := Lib.hid (rlappend_any (c := c) h.d h.ok h.l hA.by_)
  have H := Lib.hid h
  have HBY := Lib.hid hA
  have c0 := h.c0
  clear h hA
  obtain ⟨r, hr⟩ : ∃ r, r = appW s b := ⟨_, rfl⟩
  have HOK : Hid r.2.Ok := Lib.hid (by rw [hr]; exact appW_ok H.out.ok _)
  rw [← hr] at HA
  have HN : Hid (noteS s k b = (r.1, r.2, if r.1 = 0 then doK k b else k)) := Lib.hid (by unfold noteS; rw [hr])
  rw [HN.out]
  obtain ⟨q, s1⟩ := r
  obtain ⟨kk, hkk⟩ : ∃ kk, kk = if q = 0 then doK k b else k := ⟨_, rfl⟩
  rw [show (if (q, s1).1 = 0 then doK k b else k) = kk from hkk.symm]
  have HKK := Lib.hid hkk
  have HHR := Lib.hid hr
  have HG := Lib.hid hg
  clear hkk hr HN hg
  go_enter Tryz.func83, Tryz.ntmps83
  go_wp2_with fail
  refine HA.out.mono ?_
  rintro e w1 ⟨rfl, hd⟩
  have HBY1 := Lib.hid (HBY.out.kp (by obtain ⟨_, _, hk, _⟩ := hd; exact hk))
  obtain ⟨v1, h1, hw1⟩ := H.out.did tr_fr hd HOK.out
  have H1 := Lib.hid h1
  have HW1 := Lib.hid hw1
  clear hd h1 hw1
  by_cases h0 : q = 0
  · subst h0
    have HAC := Lib.hid (rdo_any H1.out HBY1.out.by_ hc HG.out)
    have e0 := HKK.out
    rw [if_pos rfl] at e0
    subst e0
    go_wp2_with fail
    refine HAC.out.mono ?_
    rintro e w2 ⟨rfl, hu⟩
    go_wp2
    go_ret
    exact ⟨rfl, Upd.after HW1.out hu⟩
  · have d0 : (q == 0) = false := by simpa using h0
    have e0 := HKK.out
    rw [if_neg h0] at e0
    subst e0
    go_wp2
    go_ret
    exact ⟨rfl, _, Sd.at_ H1.out, HW1.out⟩
end
end Go.Proofs.YtalmjmhbpmhokaaGreat
end

/- The document's store: bytes, life, SetState, SetLife, Sync, Put. -/
section
namespace Go.Proofs.YtalmjmhbpmhokaaGreat
open Go.RowKit Go.Sort Go.Shelf

theorem tr_get {w : World} {P : Nat → Prop} {g : Nat} {L : List LV} (a : Nat) (h : TR w P g L) :
    Calls Tryz.prog 82 #[.pointer (some ⟨g, 0, none⟩), .int .u32 (a : Int)] w fun e w' => e = .returned (.tuple #[(getL L a).1.v, .int .i64 (getL L a).2]) ∧ Below w.heap.size w w' := by
  obtain ⟨v, h0, h1, h2, h3, rfl⟩ := h
  exact rget_any a h0 (by omega)
theorem gotr_new {w1 w3 : World} {q : LV} (h : Below w1.drew.heap.size w1.drew w3) : Below w1.heap.size w1 (w3.alloc (lbox q)) :=
  (wayB h).alloc (wayB h).size _
theorem gotr_old {w1 w3 : World} {o : Obj} {q : LV} (h : Below (w1.alloc o).drew.heap.size (w1.alloc o).drew w3) : Below w1.heap.size w1 (storeL w3 w1.heap.size q) :=
  (wayA h).trans (storeL_low w3 w1.heap.size w1.heap.size (Nat.le_refl _) q)

set_option maxRecDepth 100000 in
set_option maxHeartbeats 1000000 in
theorem rbytes_any (m : LV) (ha : m.addr < 4294967296) (hr : RightL m) (w : World) : Calls Tryz.prog 84 #[m.v] w (GivesRw w (recL m)) := by
  obtain ⟨w0, hw0⟩ : ∃ w0, w0 = w.alloc (lbox m) := ⟨_, rfl⟩
  have HX : Hid (LBox w0 w.heap.size m) := Lib.hid (by rw [hw0]; exact LBox.new w m)
  have HB0 : Hid (Below w.heap.size w w0) := Lib.hid (by rw [hw0]; exact (Below.refl _ _).alloc (Nat.le_refl _) _)
  have HW0 := Lib.hid hw0
  have HEN := rencode_any m ha w0
  clear hw0
  rw [show encRL m = (encL m, 0) by simp [encRL, hr]] at HEN
  have HEN := Lib.hid HEN
  have hlen := recL_len hr
  have hlen2 : (encL m).length ≤ 68 := by simp only [recL, List.length_cons] at hlen; omega
  clear hr hlen
  obtain ⟨c0, c1, c2, c3, c4, c5, c6, c7⟩ := HX.out.all
  go_enter Tryz.func84, Tryz.ntmps84
  go_wp2_with fail
  rw [← HW0.out]
  refine HEN.out.mono ?_
  rintro e w1 ⟨A, c, rfl, hby, hc, hB1⟩
  have HB1 := Lib.hid (HB0.out.trans (hB1.mono HB0.out.size))
  have HBY := Lib.hid hby
  have HRI := Lib.hid (rowI w w1 76 (by omega) (by omega) HB1.out)
  clear hby hB1 c0 c1 c2 c3 c4 c5 c6 c7
  go_wp2_with (at_builtin; refine wpList_row rfl (.tmp 10) (.tmp 11) rfl rfl HRI.out (encL m) rfl rfl (HBY.out.below ((Below.refl _ _).alloc (Nat.le_refl _) _)) (by simp; omega) ?_; intro v3 w3 hr3 hg3; have hr3 := Lib.hid hr3; clear hg3)
  obtain ⟨A', c', rfl, hc', hby'⟩ := hr3.out.form
  go_ret
  exact ⟨A', c', rfl, hc', hr3.out⟩

theorem recS_cells {n : Int} (hn : 0 ≤ n) (hw : IntKind.u8.wrap n = n) : (#[.int .u8 83, .int .u8 n] : Array Value).toList = bcells (recS n) := by
  show [Value.int .u8 83, Value.int .u8 n] = [Value.int .u8 83, Value.int .u8 (((UInt8.ofNat n.toNat).toNat : Nat) : Int)]
  rw [← u8_wrap n hn, hw]

set_option maxRecDepth 100000 in
theorem rlife_any (n : Int) (hn : 0 ≤ n) (hn2 : n ≤ 536870912) (w : World) : Calls Tryz.prog 85 #[.int .i64 n] w (GivesRw w (recF n)) := by
  obtain ⟨m, rfl⟩ := Int.eq_ofNat_of_zero_le hn
  have HR := Lib.hid (rowN w (recF (m : Int)) (by simp [recF, beL_length]) _ (recF_cells m))
  go_enter Tryz.func85, Tryz.ntmps85
  go_wp2
  go_ret
  have e : (recF (m : Int)).length = 5 := by simp [recF, beL_length]
  have h := HR.out
  rw [e] at h
  rw [show (m : Int) / 16777216 % 256 = (m : Int) / 16777216 by omega] at h
  refine ⟨some ⟨w.heap.size, 0, none⟩, 5, ?_, by rw [e]; exact Nat.le_refl _, by rw [e]; exact h⟩
  rw [e]
  rfl

section
variable {w : World} {P : Nat → Prop} {S L g D : Nat} {v : Value} {s : DS} {k : Kn}

set_option maxRecDepth 100000 in
theorem rssync_any (h : SAt TR StR MT RT w P S L g D v s k) : Calls Tryz.prog 44 #[ptr S] w (AnsS TR StR MT RT w (SF S L D v P) S D ((syncD s).1, (syncD s).2, k)) := by
  have c0 := h.c0
  have l0 := h.l.cell
  have HL := Lib.hid (rsync_any h.d h.ok)
  have H := Lib.hid h
  clear h
  go_enter Tryz.func44, Tryz.ntmps44
  go_wp2_with fail
  refine HL.out.mono ?_
  rintro e w1 ⟨rfl, hd⟩
  obtain ⟨v1, h1, hw1⟩ := H.out.did tr_fr hd (sync_ok H.out.ok)
  go_wp2
  go_ret
  exact ⟨rfl, _, Sd.at_ h1, hw1⟩

set_option maxRecDepth 100000 in
set_option maxHeartbeats 1000000 in
theorem rsetstate_any (h : SAt TR StR MT RT w P S L g D v s k) (n : Int) :
    Calls Tryz.prog 42 #[ptr S, .int .i64 n] w (AnsS TR StR MT RT w (SF S L D v P) S D (setSS s k n)) := by
  have H := Lib.hid h
  clear h
  by_cases hn : 0 ≤ n ∧ n ≤ 8
  · have HE : Hid (setSS s k n = noteS s k (recS n)) := Lib.hid (by unfold setSS; rw [if_pos hn])
    have d1 : decide (n < 0) = false := decide_eq_false (by omega)
    have d2 : decide (8 < n) = false := decide_eq_false (by omega)
    have hw : IntKind.u8.wrap n = n := by
      rw [u8_wrap n hn.1, UInt8.toNat_ofNat']
      omega
    have hrow := rowN w (recS n) (by simp [recS]) #[.int .u8 83, .int .u8 n] (recS_cells hn.1 hw)
    obtain ⟨W, hW⟩ : ∃ W, W = w.alloc (.cells #[.int .u8 83, .int .u8 n] 5) := ⟨_, rfl⟩
    rw [← hW] at hrow
    have HN := Lib.hid (rnote_any (H.out.later tr_fr hrow.low) (ByO.of_row H.out.d hrow) (Nat.le_refl _) (recS_good n))
    have HB := Lib.hid hrow.low
    have HW := Lib.hid hW
    clear hn hrow hW
    rw [HE.out]
    go_enter Tryz.func42, Tryz.ntmps42
    go_wp2_with fail
    rw [← HW.out]
    refine HN.out.mono ?_
    rintro e w2 ⟨rfl, hu⟩
    go_wp2
    go_ret
    exact ⟨rfl, Upd.after (Way.of_below HB.out) hu⟩
  · have HE : Hid (setSS s k n = (1, s, k)) := Lib.hid (by unfold setSS; rw [if_neg hn])
    rw [HE.out]
    by_cases h0 : n < 0
    · have d1 : decide (n < 0) = true := decide_eq_true h0
      clear hn h0
      go_enter Tryz.func42, Tryz.ntmps42
      go_wp2
      go_ret
      exact ⟨rfl, Upd.refl (Sd.at_ H.out)⟩
    · have d1 : decide (n < 0) = false := decide_eq_false h0
      have d2 : decide (8 < n) = true := decide_eq_true (by omega)
      clear hn h0
      go_enter Tryz.func42, Tryz.ntmps42
      go_wp2
      go_ret
      exact ⟨rfl, Upd.refl (Sd.at_ H.out)⟩

set_option maxRecDepth 100000 in
set_option maxHeartbeats 1000000 in
theorem rsetlife_any (h : SAt TR StR MT RT w P S L g D v s k) (n : Int) :
    Calls Tryz.prog 43 #[ptr S, .int .i64 n] w (AnsS TR StR MT RT w (SF S L D v P) S D (setFS s k n)) := by
  have H := Lib.hid h
  clear h
  by_cases hn : 0 ≤ n ∧ n ≤ 536870912
  · have HE : Hid (setFS s k n = noteS s k (recF n)) := Lib.hid (by unfold setFS; rw [if_pos hn])
    have d1 : decide (n < 0) = false := decide_eq_false (by omega)
    have d2 : decide (536870912 < n) = false := decide_eq_false (by omega)
    have HR := Lib.hid (rlife_any n hn.1 hn.2 w)
    clear hn
    rw [HE.out]
    go_enter Tryz.func43, Tryz.ntmps43
    go_wp2_with fail
    refine HR.out.mono ?_
    rintro e w1 ⟨A, c, rfl, hc, hrow⟩
    have HN := Lib.hid (rnote_any (H.out.later tr_fr hrow.low) (ByO.of_row H.out.d hrow) hc (recF_good n))
    have HB := Lib.hid hrow.low
    clear hrow
    go_wp2_with fail
    refine HN.out.mono ?_
    rintro e w2 ⟨rfl, hu⟩
    go_wp2
    go_ret
    exact ⟨rfl, Upd.after (Way.of_below HB.out) hu⟩
  · have HE : Hid (setFS s k n = (1, s, k)) := Lib.hid (by unfold setFS; rw [if_neg hn])
    rw [HE.out]
    by_cases h0 : n < 0
    · have d1 : decide (n < 0) = true := decide_eq_true h0
      clear hn h0
      go_enter Tryz.func43, Tryz.ntmps43
      go_wp2
      go_ret
      exact ⟨rfl, Upd.refl (Sd.at_ H.out)⟩
    · have d1 : decide (n < 0) = false := decide_eq_false h0
      have d2 : decide (536870912 < n) = true := decide_eq_true (by omega)
      clear hn h0
      go_enter Tryz.func43, Tryz.ntmps43
      go_wp2
      go_ret
      exact ⟨rfl, Upd.refl (Sd.at_ H.out)⟩

set_option maxRecDepth 100000 in
set_option maxHeartbeats 2000000 in
theorem rsput_any (h : SAt TR StR MT RT w P S L g D v s k) (x : LV) (ha : x.addr < 4294967296) :
    Calls Tryz.prog 41 #[ptr S, x.v] w (AnsS TR StR MT RT w (SF S L D v P) S D (putS s k x)) := by
  obtain ⟨w0, hw0⟩ : ∃ w0, w0 = w.alloc (lbox x) := ⟨_, rfl⟩
  have HX : Hid (LBox w0 w.heap.size x) := Lib.hid (by rw [hw0]; exact LBox.new w x)
  have hB0 : Below w.heap.size w w0 := by rw [hw0]; exact (Below.refl _ _).alloc (Nat.le_refl _) _
  have HB0 := Lib.hid hB0
  have HW0 := Lib.hid hw0
  have H := Lib.hid (h.later tr_fr hB0)
  have H00 := Lib.hid h
  have HR := Lib.hid (rright_any x w0)
  clear h hw0 hB0
  obtain ⟨q, hq⟩ : ∃ q, q = getL k.L x.addr := ⟨_, rfl⟩
  have HQ := Lib.hid hq
  obtain ⟨c0, c1, c2, c3, c4, c5, c6, c7⟩ := HX.out.all
  by_cases hr : RightL x
  rotate_left
  · have HE : Hid (putS s k x = (1, s, k)) := Lib.hid (by unfold putS; rw [if_neg hr])
    rw [decide_eq_false hr] at HR
    rw [HE.out]
    clear hr
    go_enter Tryz.func41, Tryz.ntmps41
    go_wp2_with fail
    rw [← HW0.out]
    refine HR.out.mono ?_
    rintro e w1 ⟨rfl, hB⟩
    have HB := Lib.hid (HB0.out.trans (hB.mono HB0.out.size))
    go_wp2
    go_ret
    exact ⟨rfl, Upd.low tr_fr (Sd.at_ H00.out) HB.out⟩
  rw [decide_eq_true hr] at HR
  have HRR := Lib.hid hr
  clear hr
  go_enter Tryz.func41, Tryz.ntmps41
  go_wp2_with fail
  rw [← HW0.out]
  refine HR.out.mono ?_
  rintro e w1 ⟨rfl, hB⟩
  have HB1 := Lib.hid (HB0.out.trans (hB.mono HB0.out.size))
  have HX1 := Lib.hid (HX.out.later hB)
  have H1 := Lib.hid (H.out.later tr_fr hB)
  clear hB hq c0 c1 c2 c3 c4 c5 c6 c7
  have c0 := HX1.out.c0
  have s1 := H1.out.c1
  have HGET := Lib.hid (fun W (hb : Below w1.heap.size w1 W) => tr_get x.addr (H1.out.later tr_fr hb).t)
  rw [← HQ.out] at HGET
  have s1a : (w1.alloc (.cells #[.int .u32 0, .int .i64 0, .string ⟨#[]⟩, .int .i64 0, .int .i64 0, .int .i64 0, .int .i64 0, .int .i64 0] 45)).cell? ⟨S, 1, none⟩ = some (ptr g) := (H1.out.later tr_fr ((Below.refl _ _).alloc (Nat.le_refl _) _)).c1
  have c0a : (w1.alloc (.cells #[.int .u32 0, .int .i64 0, .string ⟨#[]⟩, .int .i64 0, .int .i64 0, .int .i64 0, .int .i64 0, .int .i64 0] 45)).cell? ⟨w.heap.size, 0, none⟩ = some (.int .u32 (x.addr : Int)) := (HX1.out.alloc _).c0
  go_upto_region 4 with fail
  go_cut [6, 7] (fun s6 s7 wx => s7 = .int .i64 q.2 ∧ Below w1.heap.size w1 wx)
  case first =>
    go_region_with (first
      | (go_at_call 82; refine (HGET.out _ (Below.refl _ _).drew).mono ?_; rintro e w3 ⟨rfl, hB3⟩)
      | (go_at_call 82; refine (HGET.out _ ((Below.refl _ _).alloc (Nat.le_refl _) _).drew).mono ?_; rintro e w3 ⟨rfl, hB3⟩; have hz : LBox w3 w1.heap.size zeroL := ((LBox.new w1 zeroL).drew).later hB3; obtain ⟨z0, z1, z2, z3, z4, z5, z6, z7⟩ := hz.all; obtain ⟨f0, f1, f2, f3, f4, f5, f6, f7⟩ := hz.allF))
    all_goals
      go_wp2_with fail
      go_meet
      refine ⟨rfl, ?_⟩
      first
        | (have hn := gotr_new (q := q.1) hB3; with_reducible exact hn)
        | (have hn := gotr_old (q := q.1) hB3; unfold storeL at hn; with_reducible exact hn)
  case rest =>
    obtain ⟨rfl, hB3⟩ := hcut
    have H3 := Lib.hid (H1.out.later tr_fr hB3)
    have HX3 := Lib.hid (HX1.out.later hB3)
    have HB3 := Lib.hid (HB1.out.trans (hB3.mono HB1.out.size))
    clear hB3 c0 s1 s1a c0a
    by_cases h0 : q.2 = 0
    · have HE : Hid (putS s k x = noteS s k (recL x)) := Lib.hid (by unfold putS; rw [if_pos HRR.out, if_pos (by rw [← HQ.out]; exact h0)])
      have HBY := Lib.hid (fun W => rbytes_any x ha HRR.out W)
      have d0 : (q.2 != 0) = false := by simpa using h0
      clear h0
      obtain ⟨c0, c1, c2, c3, c4, c5, c6, c7⟩ := HX3.out.all
      go_wp2_with fail
      refine (HBY.out _).mono ?_
      rintro e w4 ⟨A, c, rfl, hc, hrow⟩
      have HN := Lib.hid (rnote_any (H3.out.later tr_fr hrow.low) (ByO.of_row H3.out.d hrow) hc (recL_good HRR.out))
      have HB4 := Lib.hid (HB3.out.trans (hrow.low.mono HB3.out.size))
      clear hrow c0 c1 c2 c3 c4 c5 c6 c7
      go_wp2_with fail
      refine HN.out.mono ?_
      rintro e w5 ⟨rfl, hu⟩
      go_wp2
      go_ret
      rw [HE.out]
      exact ⟨rfl, Upd.after (Way.of_below HB4.out) hu⟩
    · have HE : Hid (putS s k x = (q.2, s, k)) := Lib.hid (by unfold putS; rw [if_pos HRR.out, if_neg (by rw [← HQ.out]; exact h0), ← HQ.out])
      have d0 : (q.2 != 0) = true := by simpa using h0
      clear h0
      go_wp2
      go_ret
      rw [HE.out]
      exact ⟨rfl, Upd.low tr_fr (Sd.at_ H00.out) HB3.out⟩
end
end Go.Proofs.YtalmjmhbpmhokaaGreat
end
