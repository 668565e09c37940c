/- packet.Decode. -/
import Derived.Test.YtmlckjccgdmknaaDecC
namespace Go.Proofs.Ytmlckjccgdmknaa
open Go.RowKit Go.Sort

/-- The packet that bytes stand for, and the error's number. -/
def decP (b : List UInt8) : PktA × Int :=
  if okH b ∧ (decR (b.drop 240)).2 = 0 ∧ beginsB (hdrA b (decR (b.drop 240)).1) b = true then (hdrA b (decR (b.drop 240)).1, 0) else (zeroP.abs, 2)
theorem decP_bad {b : List UInt8} (h : ¬ (okH b ∧ (decR (b.drop 240)).2 = 0 ∧ beginsB (hdrA b (decR (b.drop 240)).1) b = true)) : decP b = (zeroP.abs, 2) := by unfold decP; rw [if_neg h]
theorem decP_ok {b : List UInt8} (h1 : okH b) (h2 : (decR (b.drop 240)).2 = 0) (h3 : beginsB (hdrA b (decR (b.drop 240)).1) b = true) : decP b = (hdrA b (decR (b.drop 240)).1, 0) := by unfold decP; rw [if_pos ⟨h1, h2, h3⟩]

theorem decL_len (n : Nat) : ∀ (l : List UInt8) (os : List (Int × List UInt8)), l.length ≤ n → decL l = some os → os.length ≤ l.length := by
  induction n with
  | zero =>
    intro l os hl h
    obtain rfl : l = [] := List.length_eq_zero_iff.1 (by omega)
    rw [decL_nil (show skipL [] = [] from rfl)] at h
    cases h
  | succ n ih =>
    intro l os hl h
    have hsk := skipL_length l
    match hs : skipL l with
    | [] => rw [decL_nil hs] at h; cases h
    | x :: t =>
      by_cases hx : x = 255
      · subst hx
        rw [decL_end hs] at h
        split at h
        · injection h with h; subst h; exact Nat.zero_le _
        · cases h
      · match hp : splitL (x :: t) with
        | none => rw [decL_cut hs hx hp] at h; cases h
        | some (d, b) =>
          rw [decL_one hs hx hp] at h
          have hlt := splitL_lt hp
          rw [hs] at hsk
          obtain ⟨os', ho, rfl⟩ := Option.map_eq_some_iff.1 h
          have := ih b os' (by omega) ho
          simp only [List.length_cons] at hlt hsk ⊢
          omega
theorem decR_len (b : List UInt8) : (decR b).1.length ≤ 1024 := by
  unfold decR
  split
  · simp
  · split
    · rename_i hb _ h
      have := decL_len b.length b _ (Nat.le_refl _) h
      simp only
      omega
    · simp

theorem numL_le4 (l : List UInt8) : numL (l.take 4) < 4294967296 := by
  have h1 := numL_lt (l.take 4)
  have h2 : (256 : Nat) ^ (l.take 4).length ≤ 256 ^ 4 := Nat.pow_le_pow_right (by decide) (by rw [List.length_take]; omega)
  have h3 : (256 : Nat) ^ 4 = 4294967296 := by decide
  omega
theorem PkR.of_hdr {q : PktV} {b : List UInt8} {o : List (Int × List UInt8)} (h : q.abs = hdrA b o) : PkR q := by
  have h1 : q.xid = _ := congrArg PktA.xid h
  have h2 : q.ci = _ := congrArg PktA.ci h
  have h3 : q.yi = _ := congrArg PktA.yi h
  have h4 : q.si = _ := congrArg PktA.si h
  have h5 : q.gi = _ := congrArg PktA.gi h
  exact ⟨by rw [h1]; exact numL_le4 _, by rw [h2]; exact numL_le4 _, by rw [h3]; exact numL_le4 _, by rw [h4]; exact numL_le4 _, by rw [h5]; exact numL_le4 _⟩
theorem hw_of_hdr {q : PktV} {b : List UInt8} {o : List (Int × List UInt8)} (h : q.abs = hdrA b o) : q.hw.length ≤ 16 := by
  have h1 : q.hw = _ := congrArg PktA.hw h
  rw [h1]
  show (List.take _ (List.take 16 (List.drop 28 b))).length ≤ 16
  rw [List.length_take, List.length_take]
  omega

/-- A packet and an error's number are answered. -/
def GivesK (w : World) (r : PktA × Int) (e : Ending) (w' : World) : Prop :=
  ∃ q : PktV, e = .returned (.tuple #[q.v, .int .i64 r.2]) ∧ q.abs = r.1 ∧ Pk w' w'.heap.size q ∧ PkR q ∧ q.L.length ≤ 2000 ∧ q.hw.length ≤ 16 ∧ Below w.heap.size w w'

theorem zero_gives {w w' : World} (hB : Below w.heap.size w w') : zeroP.abs = zeroP.abs ∧ Pk w' w'.heap.size zeroP ∧ PkR zeroP ∧ zeroP.L.length ≤ 2000 ∧ zeroP.hw.length ≤ 16 ∧ Below w.heap.size w w' :=
  ⟨rfl, ⟨By.nil, Op.nil⟩, ⟨by simp [zeroP], by simp [zeroP], by simp [zeroP], by simp [zeroP], by simp [zeroP]⟩, by simp [zeroP], by simp [zeroP], hB⟩

theorem dec_results {W : World} {gp ge : Nat} {q : PktV} {k : Int} (hp : PBox W gp q) (he : EBox W ge k) (t : Array Value) (h2 : t[2]?.getD undef = .pointer (some ⟨gp, 0, none⟩)) (h3 : t[3]?.getD undef = .pointer (some ⟨ge, 0, none⟩)) :
    (results Try.f14 t).run Try.prog W = .ok (.tuple #[q.v, .int .i64 k]) W := by
  obtain ⟨r0, r1, r2, r3, r4, r5, r6, r7, r8, r9⟩ := hp.all
  have e0 := he.c0
  simp [results, Try.f14, go_sem, h2, h3, r0, r1, r2, r3, r4, r5, r6, r7, r8, r9, e0]

theorem dec_door {w W : World} {gp ge : Nat} {q : PktV} {k : Int} {r : PktA × Int} {t : Array Value} (hp : PBox W gp q) (he : EBox W ge k) (h2 : t[2]?.getD undef = .pointer (some ⟨gp, 0, none⟩)) (h3 : t[3]?.getD undef = .pointer (some ⟨ge, 0, none⟩))
    (hR : GivesK w r (.returned (.tuple #[q.v, .int .i64 k])) W) :
    bodyPostD Try.prog Try.f14 (GivesK w r) .ret { tmps := t, defers := [{ target := .fn (.func 31) #[.pointer (some ⟨gp, 0, none⟩), .pointer (some ⟨ge, 0, none⟩)], args := #[] }] } W := by
  refine leaves_cons (f := 31) (args := #[.pointer (some ⟨gp, 0, none⟩), .pointer (some ⟨ge, 0, none⟩)]) (by simp) (by simp [go_sem]) ?_
  refine (catch_idle gp ge W).mono ?_
  rintro e u' w'' ⟨rfl, rfl, rfl⟩
  exact ⟨_, dec_results hp he t h2 h3, hR⟩
theorem storeP_zero (W : World) (g : Nat) : storeP W g zeroP =
    (((((((((W.setCell ⟨g, 0, none⟩ (.int .i64 0)).setCell ⟨g, 1, none⟩ (.int .u32 0)).setCell ⟨g, 2, none⟩ (.int .i64 0)).setCell ⟨g, 3, none⟩ (.int .i64 0)).setCell ⟨g, 4, none⟩ (.int .u32 0)).setCell ⟨g, 5, none⟩ (.int .u32 0)).setCell ⟨g, 6, none⟩ (.int .u32 0)).setCell ⟨g, 7, none⟩ (.int .u32 0)).setCell ⟨g, 8, none⟩ (.slice none 0 0)).setCell ⟨g, 9, none⟩ (.slice none 0 0) := by
  simp [storeP, zeroP]

set_option maxRecDepth 100000 in
set_option maxHeartbeats 1000000 in
theorem pdecode_any (A : Option Addr) (c : Nat) (b : List UInt8) (w : World) (hb : By w w.heap.size A b) (hbc : b.length ≤ c) (hbl : b.length ≤ 3000) :
    Calls Try.prog 14 #[.slice A b.length c] w (GivesK w (decP b)) := by
  have hmf : ∀ (fn : Fn) (first cap : Array Value) (w : World), (Instr.makeFunc fn first cap).run Try.prog w = .ok (.func fn first cap) w := fun _ _ _ _ => rfl
  obtain ⟨w0, hw0⟩ : ∃ w0, w0 = ((w.alloc (pbox zeroP)).alloc (.cells #[.int .i64 0] 30)).alloc (.cells #[.slice A b.length c] 53) := ⟨_, rfl⟩
  have HB0 : Hid (Below w.heap.size w w0) := Lib.hid (by rw [hw0]; exact (((Below.refl _ _).alloc (Nat.le_refl _) _).alloc (by simp) _).alloc (by simp; omega) _)
  have HP0 : Hid (PBox w0 w.heap.size zeroP) := Lib.hid (by rw [hw0]; exact ((PBox.new w zeroP).later ((Below.refl _ _).alloc (Nat.le_refl _) _)).later ((Below.refl _ _).alloc (Nat.le_refl _) _))
  have HE0 : Hid (EBox w0 (w.heap.size + 1) 0) := Lib.hid (by
    rw [hw0]
    have h1 := heap_alloc_new (w.alloc (pbox zeroP)) (.cells #[.int .i64 0] 30)
    simp only [World.size_alloc] at h1
    exact (Below.heap_alloc _ _ _ (by simp)).trans h1)
  have HR0 : Hid (Rd w0 (w.heap.size + 1 + 1) w.heap.size b) := Lib.hid (by
    refine ⟨A, c, ?_, hb.below HB0.out, hbc, by omega⟩
    rw [hw0]
    have h1 := heap_alloc_new ((w.alloc (pbox zeroP)).alloc (.cells #[.int .i64 0] 30)) (.cells #[.slice A b.length c] 53)
    simp only [World.size_alloc] at h1
    exact h1)
  have HH := Lib.hid (header_any (w.heap.size + 1 + 1) w.heap.size b w0 HR0.out (by omega))
  have HBB := Lib.hid hb
  have HW := Lib.hid hw0
  clear hw0 hb
  go_enter_defers Try.func14, Try.ntmps14
  go_wp2_with fail
  change Calls _ _ _ (((w.alloc (pbox zeroP)).alloc (.cells #[.int .i64 0] 30)).alloc (.cells #[.slice A b.length c] 53)) _
  rw [← HW.out]
  refine HH.out.mono ?_
  rintro e w1 ⟨hG1, hcase⟩
  have HP1 := Lib.hid (HP0.out.other hG1 (by simp; omega))
  have HE1 := Lib.hid (HE0.out.other hG1 (by simp))
  have HB1 := Lib.hid (HB0.out.trans (below_of_grown hG1 HB0.out.size (fun g e => by injection e with e; omega)))
  clear hG1
  rcases hcase with ⟨hok, q0, rfl, hab0, hL0, hpk0, hrd0⟩ | ⟨hno, rfl⟩
  rotate_left
  · refine leaves_cons (f := 31) (args := #[.pointer (some ⟨w.heap.size, 0, none⟩), .pointer (some ⟨w.heap.size + 1, 0, none⟩)]) (by simp) (by simp [go_sem]) ?_
    refine (catch_panicking w.heap.size (w.heap.size + 1) zeroP 0 w1 HP1.out HE1.out (by omega)).mono ?_
    rintro e u' w'' ⟨rfl, rfl, rfl⟩
    have hgs := storeP_grown w1 w.heap.size zeroP
    have hPf := (storeP_box HP1.out zeroP).other (grown_one (storeP w1 w.heap.size zeroP) (w.heap.size + 1) 0 (.int .i64 2)) (by simp)
    have hEf := (HE1.out.other hgs (by simp)).set 2
    have hBf := (HB1.out.trans (below_of_grown hgs HB1.out.size (fun g e => by injection e with e; omega))).setCell (p := ⟨w.heap.size + 1, 0, none⟩) (by simp) (.int .i64 2)
    show Leaves _ _ _ _ [] .returning _
    refine ⟨_, dec_results hPf hEf _ rfl rfl, ?_⟩
    rw [decP_bad (fun h => hno h.1)]
    exact ⟨zeroP, rfl, zero_gives hBf⟩
  · obtain ⟨rs, hrs⟩ : ∃ rs, rs = b.drop 240 := ⟨_, rfl⟩
    rw [← hrs] at hrd0
    have hrsl : rs.length ≤ 3000 := by rw [hrs, List.length_drop]; omega
    have HRS := Lib.hid hrs
    obtain ⟨Ar, cr, hrc, hbr, hrl, _⟩ := hrd0
    have cr0 := cell_of_row w1 (w.heap.size + 1 + 1) 0 _ _ _ hrc
    simp at cr0
    obtain ⟨r0, r1, r2, r3, r4, r5, r6, r7, r8, r9⟩ := HP1.out.all
    have f0 := frozen_of_row w1 w.heap.size 0 _ _ HP1.out
    have f1 := frozen_of_row w1 w.heap.size 1 _ _ HP1.out
    have f2 := frozen_of_row w1 w.heap.size 2 _ _ HP1.out
    have f3 := frozen_of_row w1 w.heap.size 3 _ _ HP1.out
    have f4 := frozen_of_row w1 w.heap.size 4 _ _ HP1.out
    have f5 := frozen_of_row w1 w.heap.size 5 _ _ HP1.out
    have f6 := frozen_of_row w1 w.heap.size 6 _ _ HP1.out
    have f7 := frozen_of_row w1 w.heap.size 7 _ _ HP1.out
    have f8 := frozen_of_row w1 w.heap.size 8 _ _ HP1.out
    have f9 := frozen_of_row w1 w.heap.size 9 _ _ HP1.out
    have hnb : w.heap.size ≠ w.heap.size + 1 + 1 := by omega
    have HK0 := Lib.hid hpk0
    have HAB0 := Lib.hid hab0
    have HL0 := Lib.hid hL0
    have HBR := Lib.hid hbr
    clear hpk0 hab0 hL0 hbr hrs hrc
    go_wp2_with fail
    obtain ⟨v2, hv2⟩ : ∃ v2, v2 = storeP w1 w.heap.size q0 := ⟨_, rfl⟩
    have hgs := storeP_grown w1 w.heap.size q0
    have hPs := storeP_box HP1.out q0
    rw [← hv2] at hgs hPs
    have HP2 := Lib.hid hPs
    have HE2 := Lib.hid (HE1.out.other hgs (by simp))
    have HK2 := Lib.hid (HK0.out.offP HP1.out hgs)
    have HB2 := Lib.hid (HB1.out.trans (below_of_grown hgs HB1.out.size (fun g e => by injection e with e; omega)))
    have HBR2 := Lib.hid ((HBR.out.other hgs (Nat.le_refl _) HB1.out.size).more HB2.out.size)
    have hfin : storeP w1 w.heap.size q0 = v2 := hv2.symm
    unfold storeP at hfin
    rw [hfin]
    clear hfin hv2 hgs hPs r0 r1 r2 r3 r4 r5 r6 r7 r8 r9 f0 f1 f2 f3 f4 f5 f6 f7 f8 f9 cr0
    refine (decode_any Ar cr rs hrsl hrl v2 HBR2.out).mono ?_
    rintro e v3 ⟨A2, c2, L2, rfl, hab2, hop2, hB3⟩
    have HP3 := Lib.hid (HP2.out.later hB3)
    have HE3 := Lib.hid (HE2.out.other (grownBy_of_below hB3) (by simp))
    have HK3 := Lib.hid (HK2.out.later hB3)
    have HB3 := Lib.hid (HB2.out.trans (hB3.mono HB2.out.size))
    have HAB2 := Lib.hid hab2
    have HOP2 := Lib.hid hop2
    have hL2 : L2.length ≤ 1024 := by rw [← absL_length, hab2]; exact decR_len rs
    clear hB3 hab2 hop2
    obtain ⟨k, hk⟩ : ∃ k, k = (decR rs).2 := ⟨_, rfl⟩
    rw [← hk]
    have HKE := Lib.hid hk
    clear hk
    obtain ⟨q1, hq1⟩ : ∃ q1 : PktV, q1 = { q0 with opA := A2, opC := c2, L := L2 } := ⟨_, rfl⟩
    obtain ⟨v4, hv4⟩ : ∃ v4, v4 = (v3.setCell ⟨w.heap.size, 9, none⟩ (.slice A2 L2.length c2)).setCell ⟨w.heap.size + 1, 0, none⟩ (.int .i64 k) := ⟨_, rfl⟩
    have g9 := grown_one v3 w.heap.size 9 (.slice A2 L2.length c2)
    have gE := grown_one (v3.setCell ⟨w.heap.size, 9, none⟩ (.slice A2 L2.length c2)) (w.heap.size + 1) 0 (.int .i64 k)
    have HE9 := Lib.hid (HE3.out.other g9 (by simp))
    have HP9 : Hid (PBox (v3.setCell ⟨w.heap.size, 9, none⟩ (.slice A2 L2.length c2)) w.heap.size q1) := Lib.hid (by rw [hq1]; exact HP3.out.set9 A2 c2 L2)
    have HK9 : Hid (Pk (v3.setCell ⟨w.heap.size, 9, none⟩ (.slice A2 L2.length c2)) (v3.setCell ⟨w.heap.size, 9, none⟩ (.slice A2 L2.length c2)).heap.size q1) := Lib.hid (by
      have h1 : Pk v3 v3.heap.size q1 := by rw [hq1]; exact ⟨HK3.out.hw, HOP2.out⟩
      exact h1.offP HP3.out g9)
    have HP4 : Hid (PBox v4 w.heap.size q1) := Lib.hid (by rw [hv4]; exact HP9.out.other gE (by simp))
    have HE4 : Hid (EBox v4 (w.heap.size + 1) k) := Lib.hid (by rw [hv4]; exact HE9.out.set k)
    have HK4 : Hid (Pk v4 v4.heap.size q1) := Lib.hid (by rw [hv4]; exact HK9.out.offE HE9.out gE)
    have HB4 : Hid (Below w.heap.size w v4) := Lib.hid (by rw [hv4]; exact (HB3.out.setCell (p := ⟨w.heap.size, 9, none⟩) (by simp) _).setCell (p := ⟨w.heap.size + 1, 0, none⟩) (by simp) _)
    have HAB4 : Hid (q1.abs = hdrA b (decR rs).1) := Lib.hid (by
      have h := HAB0.out
      rw [hq1, ← HAB2.out]
      unfold PktV.abs hdrA at h ⊢
      simp only [PktA.mk.injEq] at h ⊢
      simp [h])
    have HV4 := Lib.hid hv4
    have HQ1 := Lib.hid hq1
    have r9 := HP3.out.c9
    have f9 := frozen_of_row v3 w.heap.size 9 _ _ HP3.out
    have e0 := HE3.out.c0
    have fe := frozen_of_row v3 (w.heap.size + 1) 0 _ _ HE3.out
    clear g9 gE hv4 hq1
    cases hkz : (k != 0)
    rotate_left
    · -- the options are none
      obtain ⟨r0, r1, r2, r3, r4, r5, r6, r7, r8, r9'⟩ := HP3.out.all
      have f0 := frozen_of_row v3 w.heap.size 0 _ _ HP3.out
      have f1 := frozen_of_row v3 w.heap.size 1 _ _ HP3.out
      have f2 := frozen_of_row v3 w.heap.size 2 _ _ HP3.out
      have f3 := frozen_of_row v3 w.heap.size 3 _ _ HP3.out
      have f4 := frozen_of_row v3 w.heap.size 4 _ _ HP3.out
      have f5 := frozen_of_row v3 w.heap.size 5 _ _ HP3.out
      have f6 := frozen_of_row v3 w.heap.size 6 _ _ HP3.out
      have f7 := frozen_of_row v3 w.heap.size 7 _ _ HP3.out
      have f8 := frozen_of_row v3 w.heap.size 8 _ _ HP3.out
      have f9x := frozen_of_row v3 w.heap.size 9 _ _ HP3.out
      go_wp2
      rw [← HV4.out, ← storeP_zero]
      have hgs := storeP_grown v4 w.heap.size zeroP
      have hPf := (storeP_box HP4.out zeroP).other (grown_one (storeP v4 w.heap.size zeroP) (w.heap.size + 1) 0 (.int .i64 2)) (by simp)
      have hEf := (HE4.out.other hgs (by simp)).set 2
      have hBf := (HB4.out.trans (below_of_grown hgs HB4.out.size (fun g e => by injection e with e; omega))).setCell (p := ⟨w.heap.size + 1, 0, none⟩) (by simp) (.int .i64 2)
      refine dec_door hPf hEf rfl rfl ?_
      rw [decP_bad (fun h => by have h2 := h.2.1; rw [← HRS.out, ← HKE.out] at h2; simp [h2] at hkz)]
      exact ⟨zeroP, rfl, zero_gives hBf⟩
    · obtain rfl : k = 0 := by simpa using hkz
      obtain ⟨r0, r1, r2, r3, r4, r5, r6, r7, r8, r9'⟩ := HP3.out.all
      have HQR := Lib.hid (PkR.of_hdr HAB4.out)
      have hq16 := hw_of_hdr HAB4.out
      have hqL : q1.L.length ≤ 2000 := by rw [HQ1.out]; show L2.length ≤ 2000; omega
      have HBG := Lib.hid (begins_any q1 A c b v4 HK4.out HQR.out hqL (by omega) (HBB.out.later HB4.out) hbc hok.1)
      obtain ⟨bg, hbg⟩ : ∃ bg, bg = beginsB q1.abs b := ⟨_, rfl⟩
      rw [← hbg] at HBG
      rw [HAB4.out, HRS.out] at hbg
      have HBE := Lib.hid hbg
      have h2z : (decR (b.drop 240)).2 = 0 := by rw [← HRS.out, ← HKE.out]
      have HZ := Lib.hid h2z
      clear hbg h2z
      go_wp2_with fail
      rw [← HV4.out]
      rw [HQ1.out] at HBG
      refine HBG.out.mono ?_
      rintro e v5 ⟨rfl, hB5⟩
      have HP5 := Lib.hid (HP4.out.later hB5)
      have HE5 := Lib.hid (HE4.out.other (grownBy_of_below hB5) (by simp))
      have HK5 := Lib.hid (HK4.out.later hB5)
      have HB5 := Lib.hid (HB4.out.trans (hB5.mono HB4.out.size))
      clear hB5 r0 r1 r2 r3 r4 r5 r6 r7 r8 r9' r9 f9 e0 fe
      obtain ⟨r0, r1, r2, r3, r4, r5, r6, r7, r8, r9⟩ := HP5.out.all
      have e0 := HE5.out.c0
      have fe := frozen_of_row v5 (w.heap.size + 1) 0 _ _ HE5.out
      have f0 := frozen_of_row v5 w.heap.size 0 _ _ HP5.out
      have f1 := frozen_of_row v5 w.heap.size 1 _ _ HP5.out
      have f2 := frozen_of_row v5 w.heap.size 2 _ _ HP5.out
      have f3 := frozen_of_row v5 w.heap.size 3 _ _ HP5.out
      have f4 := frozen_of_row v5 w.heap.size 4 _ _ HP5.out
      have f5 := frozen_of_row v5 w.heap.size 5 _ _ HP5.out
      have f6 := frozen_of_row v5 w.heap.size 6 _ _ HP5.out
      have f7 := frozen_of_row v5 w.heap.size 7 _ _ HP5.out
      have f8 := frozen_of_row v5 w.heap.size 8 _ _ HP5.out
      have f9 := frozen_of_row v5 w.heap.size 9 _ _ HP5.out
      cases bg
      · go_wp2
        rw [← storeP_zero]
        have hgs := storeP_grown v5 w.heap.size zeroP
        have hPf := (storeP_box HP5.out zeroP).other (grown_one (storeP v5 w.heap.size zeroP) (w.heap.size + 1) 0 (.int .i64 2)) (by simp)
        have hEf := (HE5.out.other hgs (by simp)).set 2
        have hBf := (HB5.out.trans (below_of_grown hgs HB5.out.size (fun g e => by injection e with e; omega))).setCell (p := ⟨w.heap.size + 1, 0, none⟩) (by simp) (.int .i64 2)
        refine dec_door hPf hEf rfl rfl ?_
        rw [decP_bad (fun h => by have h2 := h.2.2; rw [← HBE.out] at h2; cases h2)]
        exact ⟨zeroP, rfl, zero_gives hBf⟩
      · go_wp2
        obtain ⟨v6, hv6⟩ : ∃ v6, v6 = storeP v5 w.heap.size q1 := ⟨_, rfl⟩
        have hgs := storeP_grown v5 w.heap.size q1
        have hPs := storeP_box HP5.out q1
        rw [← hv6] at hgs hPs
        have hfin : storeP v5 w.heap.size q1 = v6 := hv6.symm
        unfold storeP at hfin
        rw [hfin]
        have hE6 := HE5.out.other hgs (by simp)
        have gE := grown_one v6 (w.heap.size + 1) 0 (.int .i64 0)
        have hPf := hPs.other gE (by simp)
        have hEf := hE6.set 0
        have hBf := (HB5.out.trans (below_of_grown hgs HB5.out.size (fun g e => by injection e with e; omega))).setCell (p := ⟨w.heap.size + 1, 0, none⟩) (by simp) (.int .i64 0)
        have hKf := (HK5.out.offP HP5.out hgs).offE hE6 gE
        refine dec_door hPf hEf rfl rfl ?_
        rw [decP_ok hok HZ.out HBE.out.symm]
        exact ⟨q1, rfl, by rw [HAB4.out, HRS.out], hKf, HQR.out, hqL, hq16, hBf⟩
-- M1
end Go.Proofs.Ytmlckjccgdmknaa
