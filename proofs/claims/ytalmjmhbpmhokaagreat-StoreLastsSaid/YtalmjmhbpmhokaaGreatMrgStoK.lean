/- Joined texts: StoK, StoX. -/
import Derived.Test.YtalmjmhbpmhokaaGreatMrgStoS
import Derived.Deep.RegionHeld3
import Derived.Lib.QuietBelow
import Derived.BigQuiet
import Derived.Deep.DeepCutAuto
import Derived.Test.YtalmjmhbpmhokaaGreatMrgStoV

/- alike: do two stores know the same? (Written by wip/tools/genalike.py.) -/
section
namespace Go.Proofs.YtalmjmhbpmhokaaGreat
open Go.RowKit Go.Sort

/-- Do both know the same? -/
def AlikeK (s s2 : DS) (k k2 : Kn) : Prop := k.L = k2.L ∧ k.st = k2.st ∧ k.lf = k2.lf ∧ (scanL s.bs).length = (scanL s2.bs).length
instance (s s2 : DS) (k k2 : Kn) : Decidable (AlikeK s s2 k k2) := by unfold AlikeK; infer_instance

set_option maxRecDepth 100000 in
set_option maxHeartbeats 2000000 in
theorem alike_any {T : TabT} {w : World} {Q Q2 : Nat → Prop} {S D M R : Nat} {s s2 : DS} {k k2 : Kn} (K : TabK T) (h1 : Sd T StT LT DT w Q S D s k) (h2 : Sd TR StR MT RT w Q2 M R s2 k2) :
    Calls Tryz.prog 16 #[ptr S, ptr M] w fun e w' => e = .returned (.bool (decide (AlikeK s s2 k k2))) ∧ Below w.heap.size w w' := by
  obtain ⟨P, g, hT, -, hTab⟩ := sd_table K.fr h1
  have HTAB := Lib.hid (fun W (hb : Below w.heap.size w W) => (hTab W (KpT.of_below hb (h1.lt K.fr))).2)
  have HALL := Lib.hid (fun W (hb : Below w.heap.size w W) => K.all' (hTab W (KpT.of_below hb (h1.lt K.fr))).1)
  have hfew : k.L.length ≤ 100000 := Nat.le_trans (K.few hT) (by omega)
  have HST := Lib.hid (fun W (hb : Below w.heap.size w W) => sd_state (h1.later K.fr hb))
  have HLF := Lib.hid (fun W (hb : Below w.heap.size w W) => sd_life (h1.later K.fr hb))
  have HLEN := Lib.hid (fun W (hb : Below w.heap.size w W) => sd_len (h1.later K.fr hb))
  obtain ⟨P2, L2, g2, v2, h2, rfl⟩ := h2
  obtain ⟨u, hu, -, -, -, -⟩ := h2.t
  obtain ⟨A2, c2, rfl, -, -, -⟩ := hu.read
  have HSB : Hid (∀ W, Below w.heap.size w W → W.cell? ⟨M, 1, none⟩ = some (ptr g2) ∧ W.cell? ⟨g2, 0, none⟩ = some (.slice A2 k2.L.length c2)) := Lib.hid (fun W hb => ⟨(h2.later tr_fr hb).c1, (hb.cell (p := ⟨g2, 0, none⟩) hu.lt).trans (cell_of_row w g2 0 _ _ _ hu.box)⟩)
  have HEL : Hid (∀ W, Below w.heap.size w W → El ElemL W W.heap.size A2 k2.L) := Lib.hid (fun W hb => by
    have he : El ElemL w w.heap.size A2 k2.L := El.of_own hu.row.own
    exact (he.below hb).more hb.size)
  have HMC : Hid (∀ W, Below w.heap.size w W → W.cell? ⟨M, 0, none⟩ = some (ptr L2) ∧ W.cell? ⟨M, 2, none⟩ = some (.int .i64 k2.st) ∧ W.cell? ⟨M, 3, none⟩ = some (.int .i64 k2.lf)) := Lib.hid (fun W hb => ⟨(h2.later tr_fr hb).c0, (h2.later tr_fr hb).c2, (h2.later tr_fr hb).c3⟩)
  have HREC := Lib.hid (fun W (hb : Below w.heap.size w W) => rrecords_any (h2.later tr_fr hb).d (h2.later tr_fr hb).ok (h2.later tr_fr hb).l)
  have s1 := (HSB.out w (Below.refl _ _)).1
  have g0 := (HSB.out w (Below.refl _ _)).2
  clear h1 h2 hu hTab hT
  go_enter Tryz.func16, Tryz.ntmps16
  go_upto_region 1 with fail
  go_cut [5] (fun s5 wx => s5 = .bool (decide (k.L = k2.L)) ∧ Below w.heap.size w wx)
  case first =>
    go_region_held3 (fun w' => w'.cell? ⟨M, 1, none⟩ = some (ptr g2) ∧ w'.cell? ⟨g2, 0, none⟩ = some (.slice A2 k2.L.length c2))
      (first | exact HSB.out _ (Below.refl _ _).drew | exact HSB.out _ hBa | exact HSB.out _ (hBa.trans hBs))
      (first
        | (go_at_call 21; refine (HTAB.out _ (Below.refl _ _).drew).mono ?_; rintro e w7 ⟨rfl, rfl⟩)
        | (go_at_call 22; refine (HALL.out _ (Below.refl _ _).drew).mono ?_; rintro e w8 ⟨A8, c8, l8, rfl, HL8, hE8, -, hB8⟩; have hBa : Below w.heap.size w w8 := wayB hB8; have HE8 := Lib.hid hE8; have HS8 := Lib.hid (lsame_any w8.heap.size w8.heap.size A8 A2 c8 c2 l8 k2.L w8 HE8.out (HEL.out _ hBa) (by rw [HL8.out]; exact hfew)); clear hE8 hB8)
        | (go_at_call 26; (with_reducible refine HS8.out.mono ?_); rintro e w9 ⟨rfl, n9, rfl⟩; have hBs : Below w.heap.size w8 (w8.drewN n9) := ⟨rfl, rfl, rfl, Nat.le_refl _, fun _ _ => rfl⟩))
    all_goals
      go_wp2_with fail
      go_meet
      rw [HL8.out]
      exact ⟨rfl, hBa.trans hBs⟩
  case rest =>
    obtain ⟨rfl, hB0⟩ := hcut
    rename_i wc
    obtain ⟨n1, hn1⟩ : ∃ n : Nat, n = (scanL s.bs).length := ⟨_, rfl⟩
    rw [← hn1] at HLEN
    have HN1 := Lib.hid hn1
    have HB0 := Lib.hid hB0
    have HST0 := Lib.hid (fun W (hb : Below wc.heap.size wc W) => HST.out W (HB0.out.trans (hb.mono HB0.out.size)))
    have HLF0 := Lib.hid (fun W (hb : Below wc.heap.size wc W) => HLF.out W (HB0.out.trans (hb.mono HB0.out.size)))
    have HLEN0 := Lib.hid (fun W (hb : Below wc.heap.size wc W) => HLEN.out W (HB0.out.trans (hb.mono HB0.out.size)))
    have HREC0 := Lib.hid (fun W (hb : Below wc.heap.size wc W) => HREC.out W (HB0.out.trans (hb.mono HB0.out.size)))
    have HMC0 : Hid (∀ W, Below wc.heap.size wc W → W.cell? ⟨M, 0, none⟩ = some (ptr L2) ∧ W.cell? ⟨M, 2, none⟩ = some (.int .i64 k2.st) ∧ W.cell? ⟨M, 3, none⟩ = some (.int .i64 k2.lf)) := Lib.hid (fun W hb => HMC.out W (HB0.out.trans (hb.mono HB0.out.size)))
    obtain ⟨m0, m2, m3⟩ := HMC0.out wc (Below.refl _ _)
    have CST : Hid (∀ d os, _) := Lib.hid (fun d os => Calls.regrown_of ((HST0.out _ (below_regrown wc d os)).mono fun e w' ⟨he, hw⟩ => ⟨he, (by rw [hw]; exact Below.refl _ _)⟩))
    have CLF : Hid (∀ d os, _) := Lib.hid (fun d os => Calls.regrown_of ((HLF0.out _ (below_regrown wc d os)).mono fun e w' ⟨he, hw⟩ => ⟨he, (by rw [hw]; exact Below.refl _ _)⟩))
    have m2r := fun (d : Nat) (os : Array Obj) => cell_regrown (d := d) (os := os) m2
    have m3r := fun (d : Nat) (os : Array Obj) => cell_regrown (d := d) (os := os) m3
    clear hB0 hn1 s1 g0 HST HLF HLEN HREC HMC HTAB HALL HSB HEL
    by_cases hl : k.L = k2.L
    rotate_left
    · rw [decide_eq_false hl]
      have HF : Hid (decide (AlikeK s s2 k k2) = false) := Lib.hid (decide_eq_false fun h => hl h.1)
      clear hl
      go_wp2_with fail
      refine wp_region_quiet_below (by kernel_rfl) (by kernel_rfl) ?_
      repeat (go_big_quiet_step (first | (go_at_call 23; exact CST.out _ _) | (go_at_call 24; exact CLF.out _ _)))
      refine wpQuiet_nil ?_
      intro _ hw'
      obtain ⟨⟨dq, osq⟩, hw''⟩ := hw'
      subst hw''
      go_wp2
      go_ret
      rw [HF.out]
      exact ⟨rfl, HB0.out.trans ((below_regrown wc dq osq).mono HB0.out.size)⟩
    rw [decide_eq_true hl]
    have HL := Lib.hid hl
    clear hl
    by_cases hs : k.st = k2.st
    rotate_left
    · have d1 : (k.st == k2.st) = false := by simpa using hs
      have HF : Hid (decide (AlikeK s s2 k k2) = false) := Lib.hid (decide_eq_false fun h => hs h.2.1)
      clear hs
      go_wp2_with fail
      refine wp_region_quiet_below (by kernel_rfl) (by kernel_rfl) ?_
      repeat (go_big_quiet_step (first | (go_at_call 23; exact CST.out _ _) | (go_at_call 24; exact CLF.out _ _)))
      refine wpQuiet_nil ?_
      intro _ hw'
      obtain ⟨⟨dq, osq⟩, hw''⟩ := hw'
      subst hw''
      go_wp2
      go_ret
      rw [HF.out]
      exact ⟨rfl, HB0.out.trans ((below_regrown wc dq osq).mono HB0.out.size)⟩
    have d1 : (k.st == k2.st) = true := by simpa using hs
    have HS := Lib.hid hs
    clear hs
    by_cases hf : k.lf = k2.lf
    rotate_left
    · have d2 : (k.lf == k2.lf) = false := by simpa using hf
      have HF : Hid (decide (AlikeK s s2 k k2) = false) := Lib.hid (decide_eq_false fun h => hf h.2.2.1)
      clear hf
      go_wp2_with fail
      refine wp_region_quiet_below (by kernel_rfl) (by kernel_rfl) ?_
      repeat (go_big_quiet_step (first | (go_at_call 23; exact CST.out _ _) | (go_at_call 24; exact CLF.out _ _)))
      refine wpQuiet_nil ?_
      intro _ hw'
      obtain ⟨⟨dq, osq⟩, hw''⟩ := hw'
      subst hw''
      go_wp2
      go_ret
      rw [HF.out]
      exact ⟨rfl, HB0.out.trans ((below_regrown wc dq osq).mono HB0.out.size)⟩
    have d2 : (k.lf == k2.lf) = true := by simpa using hf
    have HLF := Lib.hid hf
    clear hf m2r m3r CST CLF
    go_upto_region 2 with fail
    go_region_held3 (fun w' => w'.cell? ⟨M, 0, none⟩ = some (ptr L2) ∧ w'.cell? ⟨M, 2, none⟩ = some (.int .i64 k2.st) ∧ w'.cell? ⟨M, 3, none⟩ = some (.int .i64 k2.lf))
      (first | exact HMC0.out _ (Below.refl _ _).drew | exact HMC0.out _ hBa | exact HMC0.out _ hBb)
      (first
        | (go_at_call 23; refine (HST0.out _ (Below.refl _ _).drew).mono ?_; rintro e w7 ⟨rfl, rfl⟩)
        | (go_at_call 24; refine (HLF0.out _ (Below.refl _ _).drew).mono ?_; rintro e w7 ⟨rfl, rfl⟩)
        | (go_at_call 27; refine (HLEN0.out _ (Below.refl _ _).drew).mono ?_; rintro e w8 ⟨rfl, hB8⟩; have hBa : Below wc.heap.size wc w8 := wayB hB8)
        | (go_at_call 39; refine (HREC0.out _ hBa).mono ?_; rintro e w9 ⟨A9, c9, K9, rfl, hK9, hrow9⟩; have hBb : Below wc.heap.size wc w9 := hBa.trans (hrow9.low.mono hBa.size)))
    all_goals
      go_wp2_with fail
      go_ret
      (have hk9 : K9.length = (scanL s2.bs).length := by rw [← hK9, datas_length]
       have e1 : decide (AlikeK s s2 k k2) = ((n1 : Int) == (K9.length : Int)) := by
         rw [HN1.out, hk9, Bool.eq_iff_iff, decide_eq_true_iff, beq_iff_eq]
         exact ⟨fun h => by rw [h.2.2.2], fun h => ⟨HL.out, HS.out, HLF.out, by omega⟩⟩
       rw [e1]; exact ⟨rfl, HB0.out.trans (hBb.mono HB0.out.size)⟩)
end Go.Proofs.YtalmjmhbpmhokaaGreat
end

/- What is laid upon a disk as a whole; what reads a disk as a whole. -/
section
namespace Go.Proofs.YtalmjmhbpmhokaaGreat
open Go.RowKit Go.Sort

section
variable {w : World} {Q : Nat → Prop} {D B : Nat} {s : DS}
theorem Dk.by_ {ty : TypeId} {v : Value} (_ : DAt ty (D + 1) w D s v) {A : Option Addr} {b : List UInt8} (hA : By w B A b) (hB : B ≤ w.heap.size) (hQ : ∀ b, DF D v b → B ≤ b) : ByO w D v A b :=
  ByO.of hA fun k hk => ⟨by omega, fun e => by have := hQ D (.inl rfl); omega, fun e => by have := hQ k (.inr e); omega⟩
theorem dk_append (h : Dk DT w Q D s) {A : Option Addr} {c : Nat} {b : List UInt8} (hA : By w B A b) (hB : B ≤ w.heap.size) (hQ : ∀ b, Q b → B ≤ b) :
    Calls Tryz.prog 18 #[ptr D, .slice A b.length c] w fun e w' => e = .returned (.int .i64 (appD s b).1) ∧ UpdD DT w Q D w' (appD s b).2 := by
  obtain ⟨v, h, ho, rfl⟩ := h
  refine (append_any (c := c) h ho (Dk.by_ h hA hB hQ)).mono ?_
  rintro e w' ⟨rfl, hd⟩
  exact ⟨rfl, hd.upd (app_ok ho b)⟩
theorem rdk_append (h : Dk RT w Q D s) {A : Option Addr} {c : Nat} {b : List UInt8} (hA : By w B A b) (hB : B ≤ w.heap.size) (hQ : ∀ b, Q b → B ≤ b) (hm : b.length ≤ 1048576) :
    Calls Tryz.prog 19 #[ptr D, .slice A b.length c] w fun e w' => e = .returned (.int .i64 (appD s b).1) ∧ UpdD RT w Q D w' (appD s b).2 := by
  obtain ⟨v, h, ho, rfl⟩ := h
  refine (rappend_any (c := c) h ho (Dk.by_ h hA hB hQ) hm).mono ?_
  rintro e w' ⟨rfl, hd⟩
  exact ⟨rfl, hd.upd (app_ok ho b)⟩
/-- A disk made last lies apart. -/
theorem Apt.two {D R : Nat} (h1 : B ≤ D) (h2 : D < R) : Apt B (· = D) (· = R) := ⟨fun b h1 h2 => by omega, fun b e => by omega, fun b e => by omega⟩
theorem alike_self (s : DS) (k : Kn) : decide (AlikeK s s k k) = true := decide_eq_true ⟨rfl, rfl, rfl, rfl⟩
end
end Go.Proofs.YtalmjmhbpmhokaaGreat
end
