/- The law OptionBack. -/
import Derived.Test.YtgmebonhhbdofaaOptZ
namespace Go.Proofs.Ytgmebonhhbdofaa
open Go.RowKit

theorem decL_flat (l : List (Int × List UInt8)) (t : List UInt8) (h : l.all okO = true) : decL (flat l ++ t) = (decL t).map (l ++ ·) := by
  induction l with
  | nil => rw [flat_nil, List.nil_append]; cases decL t <;> simp
  | cons x r ih =>
    simp only [List.all_cons, Bool.and_eq_true] at h
    obtain ⟨h0, h1, h2⟩ := (okO_iff x).1 h.1
    obtain ⟨code, data⟩ := x
    simp only at h0 h1 h2
    have ec : (UInt8.ofNat code.toNat).toNat = code.toNat := by rw [UInt8.toNat_ofNat', Nat.mod_eq_of_lt (by omega)]
    have en : (UInt8.ofNat data.length).toNat = data.length := by rw [UInt8.toNat_ofNat', Nat.mod_eq_of_lt (by omega)]
    have hne0 : UInt8.ofNat code.toNat ≠ 0 := fun e => by rw [e] at ec; simp at ec; omega
    have hne1 : UInt8.ofNat code.toNat ≠ 255 := fun e => by rw [e] at ec; simp at ec; omega
    have hl : flat ((code, data) :: r) ++ t = UInt8.ofNat code.toNat :: UInt8.ofNat data.length :: (data ++ (flat r ++ t)) := by
      rw [flat_cons]; simp [one]
    have hp : splitL (UInt8.ofNat code.toNat :: UInt8.ofNat data.length :: (data ++ (flat r ++ t))) = some (data, flat r ++ t) := by
      simp only [splitL]
      rw [if_pos (by rw [en]; simp), en]
      simp
    rw [hl, decL_one (skipL_other _ hne0) hne1 hp, ih h.2, ec]
    have ez : ((code.toNat : Nat) : Int) = code := by omega
    rw [ez]
    cases decL t <;> simp

theorem decL_zeros (k : Nat) (t : List UInt8) : decL (List.replicate k 0 ++ t) = decL t := by
  induction k with
  | zero => simp
  | succ k ih => rw [List.replicate_succ, List.cons_append, decL_skip, ih]
theorem skipL_zeros (k : Nat) : skipL (List.replicate k 0) = [] := by
  induction k with
  | zero => rfl
  | succ k ih => rw [List.replicate_succ, skipL_zero, ih]
theorem dec_back {l : List (Int × List UInt8)} (h : l.all okO = true) (j k : Nat) : decL (List.replicate j 0 ++ (flat l ++ [255]) ++ List.replicate k 0) = some l := by
  rw [List.append_assoc, List.append_assoc, decL_zeros, decL_flat l _ h, List.singleton_append, decL_end (skipL_other _ (by decide)), skipL_zeros]
  simp
theorem dec_open {l : List (Int × List UInt8)} (h : l.all okO = true) : decL (flat l) = none := by
  have := decL_flat l [] h
  rw [List.append_nil, decL_nil skipL_nil] at this
  exact this

theorem own_some {w : World} {base : Nat} {e : TypeId} {size n : Nat} {v : Value} {xs : List Value} (h : w.ownsRow base e size v n xs) (hn : 0 < n) : ∃ g cap, v = .slice (some ⟨g, 0, none⟩) n cap := by
  rcases h.2 with ⟨rfl, rfl⟩ | ⟨g, cap, cur, rfl, _⟩
  · omega
  · exact ⟨g, cap, rfl⟩

theorem out_of (a b : Int) (h : ¬ (0 ≤ a ∧ a ≤ 200 ∧ 0 ≤ b ∧ b ≤ 200)) : decide (a < 0) = true ∨ (decide (a < 0) = false ∧ decide (200 < a) = true) ∨ (decide (a < 0) = false ∧ decide (200 < a) = false ∧ decide (b < 0) = true) ∨ (decide (a < 0) = false ∧ decide (200 < a) = false ∧ decide (b < 0) = false ∧ decide (200 < b) = true) := by
  simp only [decide_eq_true_eq, decide_eq_false_iff_not]
  omega

set_option maxRecDepth 100000 in
set_option maxHeartbeats 4000000 in
theorem law_back_ok (A : Option Addr) (c : Nat) (L : List OptV) (na nb : Nat) (w : World) (hr : Op w w.heap.size A L) (hfew : fewB L = true) (ha : na ≤ 200) (hb : nb ≤ 200) :
    Calls Try.prog 7 #[.slice A L.length c, .int .i64 (na : Int), .int .i64 (nb : Int)] w fun e w' => e = .returned (.bool true) ∧ Below w.heap.size w w' := by
  have HA := Lib.hid (awake_any w)
  have HR := Lib.hid hr
  have HFL := Lib.hid ((few_iff L).1 hfew)
  have HF := Lib.hid (fun W (h : Op W W.heap.size A L) => few_any A c L W h (by have := HFL.out.1; omega) (fun x hx => by have := HFL.out.2 x hx; omega))
  rw [hfew] at HF
  clear hr hfew
  have g1 : decide ((na : Int) < 0) = false := by simp
  have g2 : decide ((200 : Int) < (na : Int)) = false := by simp; omega
  have g3 : decide ((nb : Int) < 0) = false := by simp
  have g4 : decide ((200 : Int) < (nb : Int)) = false := by simp; omega
  have HE : Hid (encL (absL L) = ([], 1) ∨ encL (absL L) = ([], 3) ∨ ((absL L).all okO = true ∧ (flat (absL L)).length + 1 ≤ 1024 ∧ encL (absL L) = (flat (absL L) ++ [255], 0))) := by
    show _ ∨ _ ∨ _
    by_cases h1 : (absL L).all okO = true
    · by_cases h2 : (flat (absL L)).length + 1 ≤ 1024
      · exact .inr (.inr ⟨h1, h2, encL_ok h1 h2⟩)
      · exact .inr (.inl (encL_full h1 (by omega)))
    · left; unfold encL; rw [if_neg h1]
  go_enter Try.func7, Try.ntmps7
  go_wp2_with fail
  refine HA.out.mono ?_
  rintro e w1 ⟨rfl, hB1⟩
  have H1 := Lib.hid (HR.out.later hB1)
  go_wp2_with fail
  refine (HF.out w1 H1.out).mono ?_
  rintro e w' ⟨rfl, rfl⟩
  go_wp2_with fail
  refine (encode_any A c L w1 H1.out HFL.out.1).mono ?_
  rintro e w2 ⟨A2, c2, rfl, hby2, hc2, hB2⟩
  have hBw2 : Below w.heap.size w w2 := hB1.trans (hB2.mono hB1.size)
  have H2 := Lib.hid (H1.out.later hB2)
  rcases HE.out with he | he | ⟨hall, hfl, he⟩
  · rw [he]
    clear he
    dsimp only
    go_wp2
    go_ret
    exact ⟨rfl, hBw2⟩
  · rw [he]
    clear he
    dsimp only
    go_wp2
    go_ret
    exact ⟨rfl, hBw2⟩
  · rw [he] at hby2 hc2 ⊢
    clear he
    have HALL := Lib.hid hall
    clear hall
    dsimp only at hby2 hc2 ⊢
    have hbl0 : 0 < (flat (absL L) ++ [255]).length := by simp
    have hbl1 : (flat (absL L) ++ [255]).length ≤ 1024 := by simp; omega
    have HFL2 := Lib.hid (show (flat (absL L)).length = (flat (absL L) ++ [255]).length - 1 by simp)
    clear hfl
    generalize hbl : flat (absL L) ++ [255] = bl at *
    have HBL := Lib.hid hbl
    clear hbl
    by_cases hbig : 1024 < bl.length + na + nb
    · go_wp2
      go_ret
      exact ⟨rfl, hBw2⟩
    · have hd5 : decide ((1024 : Int) < (bl.length : Int) + (na : Int) + (nb : Int)) = false := by simp; omega
      have hmk := run_makeF na (by omega)
      have hownM := madeF_own w2 w2.heap.size na (Nat.le_refl _) (by omega)
      have hBM : Below w2.heap.size w2 (w2.alloc (.cells (madeCells #[.int .u8 0] na) 5)) := (Below.refl _ _).alloc (Nat.le_refl _) _
      have hbyM := hby2.below hBM
      go_wp2_with (first
        | (at_builtin; refine wpList_appB rfl (.tmp 60) (.tmp 61) rfl w2.heap.size (.slice (some ⟨w2.heap.size, 0, none⟩) na na) _ _ rfl hownM _ _ bl _ rfl hbyM (by omega) hBM.size ?_; intro v1 w3 hown3 hg3 _; have hB3 := own_below hBM hBM.size hownM hg3; obtain ⟨g, cap, rfl⟩ := own_some hown3 (by omega); obtain ⟨A4, c4, w4, hz4, hown4, hg4⟩ := run_zeros w3 w2.heap.size 25 g _ cap nb _ hown3 (by omega) hB3.size; have hB4 := own_below hB3 hB3.size hown3 hg4)
        | (at_builtin; refine Lib.wpList_append_run _ rfl (.tmp 64) (.tmp 65) _ _ rfl _ _ rfl rfl _ _ hz4 ?_))
      clear hmk hz4
      rw [← bcells_append, ← bcells_append] at hown4
      have hby4 := By.of_own hown4
      obtain ⟨A4', c4', hv4, hc4⟩ := own_form hown4
      obtain ⟨rfl, rfl⟩ : A4 = A4' ∧ c4 = c4' := by injection hv4 with h1 _ h2; exact ⟨h1, h2⟩
      clear hv4
      have hlen4 : (List.replicate na 0 ++ bl ++ List.replicate nb 0).length = na + bl.length + nb := by simp; omega
      have HD := Lib.hid (decode_any A4 c4 (List.replicate na 0 ++ bl ++ List.replicate nb 0) (by rw [hlen4]; omega) (by rw [hlen4]; exact hc4) w4 hby4)
      rw [hlen4, decR_some (by rw [hlen4]; omega) (by rw [← HBL.out]; exact dec_back HALL.out na nb)] at HD
      clear hlen4
      refine HD.out.mono ?_
      rintro e w5 ⟨A5, c5, L5, rfl, hab5, hop5, hB5⟩
      have hBw5 : Below w2.heap.size w2 w5 := hB4.trans (hB5.mono hB4.size)
      have H5 := Lib.hid (H2.out.later hBw5)
      have HS := Lib.hid (same_any A A5 c c5 L L5 w5 H5.out hop5 (by have := HFL.out.1; omega))
      rw [show decide (absL L = absL L5) = true by rw [hab5]; simp] at HS
      clear hab5 hop5 hown4 hby4 hg4 hg3 hown3 hownM hbyM
      go_wp2_with fail
      refine HS.out.mono ?_
      rintro e w6 ⟨rfl, n, rfl⟩
      have hby6 := (hby2.later hBw5).drewN n
      obtain ⟨g2, o2, rfl, _, _⟩ := hby6.at_ 0 (bl[0]'hbl0) (List.getElem?_eq_getElem hbl0)
      have i1 : (0 : Int) ≤ (bl.length : Int) - 1 := by omega
      have i2 : (bl.length : Int) - 1 ≤ (c2 : Int) := by omega
      have hF : bl.take (bl.length - 1) = flat (absL L) := by
        rw [← HFL2.out, ← HBL.out]
        exact List.take_left
      have hby7 := hby6.take (bl.length - 1)
      rw [hF] at hby7
      have HD7 := Lib.hid (decode_any (some ⟨g2, o2, none⟩) c2 (flat (absL L)) (by rw [HFL2.out]; omega) (by rw [HFL2.out]; omega) (w5.drewN n) hby7)
      rw [HFL2.out, decR_none (dec_open HALL.out)] at HD7
      clear hF hby7 hby6
      go_wp2_with fail
      refine HD7.out.mono ?_
      rintro e w8 ⟨A8, c8, L8, rfl, hab8, hop8, hB8⟩
      go_wp2
      go_ret
      refine ⟨by simp, hBw2.trans ((hBw5.mono hBw2.size).trans ?_)⟩
      have hB9 : Below w5.heap.size w5 w8 := ⟨hB8.os, hB8.tape, hB8.output, hB8.size, hB8.block⟩
      exact hB9.mono (Nat.le_trans hBw2.size hBw5.size)

set_option maxRecDepth 100000 in
set_option maxHeartbeats 2000000 in
theorem law_back (A : Option Addr) (c : Nat) (L : List OptV) (a b : Int) (w : World) (hr : Op w w.heap.size A L) (hlm : L.length ≤ 9223372036854775807) (hdm : ∀ x ∈ L, x.data.length ≤ 9223372036854775807) :
    Calls Try.prog 7 #[.slice A L.length c, .int .i64 a, .int .i64 b] w fun e w' => e = .returned (.bool true) ∧ Below w.heap.size w w' := by
  cases hfew : fewB L
  · have HA := Lib.hid (awake_any w)
    have HR := Lib.hid hr
    have HF := Lib.hid (fun W (h : Op W W.heap.size A L) => few_any A c L W h hlm hdm)
    rw [hfew] at HF
    clear hfew hr hdm
    go_enter Try.func7, Try.ntmps7
    go_wp2_with fail
    refine HA.out.mono ?_
    rintro e w1 ⟨rfl, hB1⟩
    go_wp2_with fail
    refine (HF.out w1 (HR.out.later hB1)).mono ?_
    rintro e w' ⟨rfl, rfl⟩
    go_wp2
    go_ret
    exact ⟨rfl, hB1⟩
  · by_cases hin : 0 ≤ a ∧ a ≤ 200 ∧ 0 ≤ b ∧ b ≤ 200
    · obtain ⟨na, rfl⟩ : ∃ na : Nat, a = na := ⟨a.toNat, by omega⟩
      obtain ⟨nb, rfl⟩ : ∃ nb : Nat, b = nb := ⟨b.toNat, by omega⟩
      exact law_back_ok A c L na nb w hr hfew (by omega) (by omega)
    · have HA := Lib.hid (awake_any w)
      have HR := Lib.hid hr
      have HF := Lib.hid (fun W (h : Op W W.heap.size A L) => few_any A c L W h hlm hdm)
      rw [hfew] at HF
      have hwhy := out_of a b hin
      clear hfew hr hdm hin
      rcases hwhy with h1 | ⟨h1, h2⟩ | ⟨h1, h2, h3⟩ | ⟨h1, h2, h3, h4⟩
      all_goals
        go_enter Try.func7, Try.ntmps7
        go_wp2_with fail
        refine HA.out.mono ?_
        rintro e w1 ⟨rfl, hB1⟩
        go_wp2_with fail
        refine (HF.out w1 (HR.out.later hB1)).mono ?_
        rintro e w' ⟨rfl, rfl⟩
        go_wp2
        go_ret
        exact ⟨rfl, hB1⟩
end Go.Proofs.Ytgmebonhhbdofaa
