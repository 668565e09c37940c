/- Decoding what was encoded: packets, on lists. -/
import Derived.Test.YtmlckjccgdmknaaDecK
import Derived.Test.YtmlckjccgdmknaaBackL
import Derived.Test.YtmlckjccgdmknaaNumL
namespace Go.Proofs.Ytmlckjccgdmknaa

/-- A packet's numbers fit. -/
def fitsA (a : PktA) : Prop := a.xid < 4294967296 ∧ a.ci < 4294967296 ∧ a.yi < 4294967296 ∧ a.si < 4294967296 ∧ a.gi < 4294967296
theorem fits_of {q : PktV} (h : PkR q) : fitsA q.abs := ⟨h.xid, h.ci, h.yi, h.si, h.gi⟩

theorem encL_back {l : List (Int × List UInt8)} (h : (encL l).2 = 0) : l.all okO = true ∧ (encL l).1 = flat l ++ [255] ∧ (flat l).length + 1 ≤ 1024 := by
  unfold encL at h ⊢
  by_cases h1 : l.all okO = true
  · rw [if_pos h1] at h ⊢
    by_cases h2 : (flat l).length + 1 ≤ 1024
    · rw [if_pos h2] at h ⊢; exact ⟨h1, rfl, h2⟩
    · rw [if_neg h2] at h; simp at h
  · rw [if_neg h1] at h; simp at h
theorem decR_back {l : List (Int × List UInt8)} (h : (encL l).2 = 0) : decR (encL l).1 = (l, 0) := by
  obtain ⟨h1, h2, h3⟩ := encL_back h
  rw [h2]
  have h4 := dec_back h1 0 0
  simp only [List.replicate_zero, List.nil_append, List.append_nil] at h4
  exact decR_some (by rw [List.length_append, List.length_singleton]; omega) h4

/-- The parts of a header. -/
theorem cut_at {α : Type} (x y z : List α) (i n : Nat) (hi : x.length = i) (hn : y.length = n) : ((x ++ (y ++ z)).drop i).take n = y := by
  subst hi hn
  rw [List.drop_left, List.take_left]

theorem num_one (n : Nat) (h : n < 256) : numL [UInt8.ofNat n] = n := by
  simp [numL, UInt8.toNat_ofNat', Nat.mod_eq_of_lt h]

theorem numL_be (n m : Nat) (h : n < 256 ^ m) : numL (beL n m) = n := by rw [numL_beL, Nat.mod_eq_of_lt h]

theorem headA_iff (a : PktA) : headA a = true ↔ (a.op = 1 ∨ a.op = 2) ∧ (0 ≤ a.secs ∧ a.secs ≤ 65535) ∧ (0 ≤ a.flags ∧ a.flags ≤ 65535) ∧ 1 ≤ a.hw.length ∧ a.hw.length ≤ 16 := by
  simp [headA, shortB, and_assoc]

theorem hdr_back (a : PktA) (o : List UInt8) (hh : headA a = true) (hf : fitsA a) : hdrA (headL a ++ o) a.opts = a ∧ okH (headL a ++ o) := by
  obtain ⟨hop, hs, hfl, h1, h16⟩ := (headA_iff a).1 hh
  obtain ⟨f1, f2, f3, f4, f5⟩ := hf
  have hlen := headL_length a h16
  obtain ⟨op, xid, secs, flags, ci, yi, si, gi, hw, opts⟩ := a
  simp only at hop hs hfl h1 h16 f1 f2 f3 f4 f5
  obtain ⟨pad, hpad⟩ : ∃ pad : List UInt8, pad = List.replicate (16 - hw.length + 192) 0 ++ [99, 130, 83, 99] ++ o := ⟨_, rfl⟩
  have e : headL ⟨op, xid, secs, flags, ci, yi, si, gi, hw, opts⟩ ++ o = [UInt8.ofNat op.toNat] ++ ([1] ++ ([UInt8.ofNat hw.length] ++ ([0] ++ (beL xid 4 ++ (beL secs.toNat 2 ++ (beL flags.toNat 2 ++ (beL ci 4 ++ (beL yi 4 ++ (beL si 4 ++ (beL gi 4 ++ (hw ++ pad))))))))))) := by
    rw [hpad]; simp [headL]
  have k0 : (headL ⟨op, xid, secs, flags, ci, yi, si, gi, hw, opts⟩ ++ o).take 1 = [UInt8.ofNat op.toNat] := by rw [e]; rfl
  have k2 : ((headL ⟨op, xid, secs, flags, ci, yi, si, gi, hw, opts⟩ ++ o).drop 2).take 1 = [UInt8.ofNat hw.length] := by rw [e]; rfl
  have k4 : ((headL ⟨op, xid, secs, flags, ci, yi, si, gi, hw, opts⟩ ++ o).drop 4).take 4 = beL xid 4 := by
    rw [e]; simp only [← List.append_assoc _ _ (beL xid 4 ++ _)]; exact cut_at _ _ _ _ _ rfl (beL_length _ _)
  have k8 : ((headL ⟨op, xid, secs, flags, ci, yi, si, gi, hw, opts⟩ ++ o).drop 8).take 2 = beL secs.toNat 2 := by
    rw [e]; simp only [← List.append_assoc _ _ (beL secs.toNat 2 ++ _)]; exact cut_at _ _ _ _ _ (by simp [beL_length]) (beL_length _ _)
  have k10 : ((headL ⟨op, xid, secs, flags, ci, yi, si, gi, hw, opts⟩ ++ o).drop 10).take 2 = beL flags.toNat 2 := by
    rw [e]; simp only [← List.append_assoc _ _ (beL flags.toNat 2 ++ _)]; exact cut_at _ _ _ _ _ (by simp [beL_length]) (beL_length _ _)
  have k12 : ((headL ⟨op, xid, secs, flags, ci, yi, si, gi, hw, opts⟩ ++ o).drop 12).take 4 = beL ci 4 := by
    rw [e]; simp only [← List.append_assoc _ _ (beL ci 4 ++ _)]; exact cut_at _ _ _ _ _ (by simp [beL_length]) (beL_length _ _)
  have k16 : ((headL ⟨op, xid, secs, flags, ci, yi, si, gi, hw, opts⟩ ++ o).drop 16).take 4 = beL yi 4 := by
    rw [e]; simp only [← List.append_assoc _ _ (beL yi 4 ++ _)]; exact cut_at _ _ _ _ _ (by simp [beL_length]) (beL_length _ _)
  have k20 : ((headL ⟨op, xid, secs, flags, ci, yi, si, gi, hw, opts⟩ ++ o).drop 20).take 4 = beL si 4 := by
    rw [e]; simp only [← List.append_assoc _ _ (beL si 4 ++ _)]; exact cut_at _ _ _ _ _ (by simp [beL_length]) (beL_length _ _)
  have k24 : ((headL ⟨op, xid, secs, flags, ci, yi, si, gi, hw, opts⟩ ++ o).drop 24).take 4 = beL gi 4 := by
    rw [e]; simp only [← List.append_assoc _ _ (beL gi 4 ++ _)]; exact cut_at _ _ _ _ _ (by simp [beL_length]) (beL_length _ _)
  have k28 : (((headL ⟨op, xid, secs, flags, ci, yi, si, gi, hw, opts⟩ ++ o).drop 28).take 16).take hw.length = hw := by
    rw [List.take_take, Nat.min_eq_left h16]
    rw [e]; simp only [← List.append_assoc _ _ (hw ++ _)]; exact cut_at _ _ _ _ _ (by simp [beL_length]) rfl
  have hn2 := num_one hw.length (by omega)
  refine ⟨?_, ?_, ?_⟩
  · unfold hdrA
    rw [k0, k2, k4, k8, k10, k12, k16, k20, k24, hn2, k28, num_one op.toNat (by omega), numL_be xid 4 f1, numL_be ci 4 f2, numL_be yi 4 f3, numL_be si 4 f4, numL_be gi 4 f5, numL_be secs.toNat 2 (by omega), numL_be flags.toNat 2 (by omega)]
    rw [Int.toNat_of_nonneg hs.1, Int.toNat_of_nonneg hfl.1, Int.toNat_of_nonneg (by omega)]
  · rw [List.length_append]; omega
  · rw [k2, hn2]; exact h16

/-- What was encoded is decoded as it. -/
theorem dec_enc {a : PktA} (hr : rightA a = true) (hf : fitsA a) : decP (headL a ++ (encL a.opts).1) = (a, 0) := by
  have hr' := hr
  unfold rightA at hr'
  simp only [Bool.and_eq_true, beq_iff_eq] at hr'
  obtain ⟨he, hh⟩ := hr'
  have hlen := headL_length a ((headA_iff a).1 hh).2.2.2.2
  obtain ⟨h1, h2⟩ := hdr_back a (encL a.opts).1 hh hf
  have hd : (headL a ++ (encL a.opts).1).drop 240 = (encL a.opts).1 := by rw [← hlen, List.drop_left]
  have ht : (headL a ++ (encL a.opts).1).take 240 = headL a := by rw [← hlen, List.take_left]
  have hb := decR_back he
  have h3 := decP_ok (b := headL a ++ (encL a.opts).1) h2 (by rw [hd, hb]) (by
    rw [hd, hb, h1]
    unfold beginsB
    rw [hr, ht]
    simp)
  rw [h3, hd, hb, h1]

theorem decL_flat_len (n : Nat) : ∀ (l : List UInt8) (os : List (Int × List UInt8)), l.length ≤ n → decL l = some os → (flat os).length + 1 ≤ l.length := by
  induction n with
  | zero =>
    intro l os hl h
    obtain rfl : l = [] := List.length_eq_zero_iff.1 (by omega)
    rw [decL_nil (show skipL [] = [] from rfl)] at h
    cases h
  | succ n ih =>
    intro l os hl h
    have hsk := skipL_length l
    match hs : skipL l with
    | [] => rw [decL_nil hs] at h; cases h
    | x :: t =>
      rw [hs, List.length_cons] at hsk
      by_cases hx : x = 255
      · subst hx
        rw [decL_end hs] at h
        split at h
        · injection h with h; subst h; rw [flat_nil]; simp only [List.length_nil]; omega
        · cases h
      · match hp : splitL (x :: t) with
        | none => rw [decL_cut hs hx hp] at h; cases h
        | some (d, b) =>
          rw [decL_one hs hx hp] at h
          obtain ⟨os', ho, rfl⟩ := Option.map_eq_some_iff.1 h
          have hsum : d.length + b.length + 2 = t.length + 1 := by
            match t, hp with
            | y :: r, hp =>
              simp only [splitL] at hp
              split at hp
              · simp only [Option.some.injEq, Prod.mk.injEq] at hp
                obtain ⟨rfl, rfl⟩ := hp
                simp only [List.length_take, List.length_drop, List.length_cons]
                omega
              · cases hp
          have := ih b os' (by omega) ho
          rw [flat_cons, List.length_append, one_length]
          simp only
          omega

/-- What was decoded is encoded in no more bytes, and begins as it did. -/
theorem enc_dec {b : List UInt8} (h : (decP b).2 = 0) : rightA (decP b).1 = true ∧ fitsA (decP b).1 ∧ encP (decP b).1 = (headL (decP b).1 ++ (encL (decP b).1.opts).1, 0) ∧
    (headL (decP b).1).length = 240 ∧ (headL (decP b).1 ++ (encL (decP b).1.opts).1).length ≤ b.length ∧ headL (decP b).1 = b.take 240 ∧ 240 ≤ b.length := by
  by_cases hc : okH b ∧ (decR (b.drop 240)).2 = 0 ∧ beginsB (hdrA b (decR (b.drop 240)).1) b = true
  · obtain ⟨h1, h2, h3⟩ := hc
    rw [decP_ok h1 h2 h3]
    have h3' := h3
    unfold beginsB at h3'
    simp only [Bool.and_eq_true, beq_iff_eq] at h3'
    obtain ⟨hr, hhd⟩ := h3'
    have hr' := hr
    unfold rightA at hr'
    simp only [Bool.and_eq_true, beq_iff_eq] at hr'
    obtain ⟨he, hh⟩ := hr'
    have hlen := headL_length _ ((headA_iff _).1 hh).2.2.2.2
    refine ⟨hr, ⟨numL_le4 _, numL_le4 _, numL_le4 _, numL_le4 _, numL_le4 _⟩, encP_ok hr, hlen, ?_, hhd, h1.1⟩
    rw [List.length_append, hlen]
    obtain ⟨_, h5, _⟩ := encL_back he
    rw [h5, List.length_append, List.length_singleton]
    have hos : (hdrA b (decR (b.drop 240)).1).opts = (decR (b.drop 240)).1 := rfl
    rw [hos]
    have hk := h1.1
    unfold decR at h2 ⊢
    split at h2
    · simp at h2
    · rename_i hnb
      rw [if_neg hnb]
      split at h2
      · rename_i l hl
        have := decL_flat_len _ (b.drop 240) l (Nat.le_refl _) hl
        rw [List.length_drop] at this
        simp only
        omega
      · simp at h2
  · rw [decP_bad hc] at h; simp at h
theorem dec_err {b : List UInt8} (h : (decP b).2 ≠ 0) : decP b = (zeroP.abs, 2) := by
  by_cases hc : okH b ∧ (decR (b.drop 240)).2 = 0 ∧ beginsB (hdrA b (decR (b.drop 240)).1) b = true
  · rw [decP_ok hc.1 hc.2.1 hc.2.2] at h; simp at h
  · exact decP_bad hc
end Go.Proofs.Ytmlckjccgdmknaa
