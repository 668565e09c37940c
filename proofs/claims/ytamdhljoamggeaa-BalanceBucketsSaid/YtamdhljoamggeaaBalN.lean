/- Not; the document's Count, of, First, Not. -/
import Derived.Test.YtamdhljoamggeaaBalM
namespace Go.Proofs.Ytamdhljoamggeaa
open Go.RowKit Go.Sort

/-- The rounds of Not: the bits below k that the mask hasn't. -/
def InNot (B : List Nat) (w : World) (k : Nat) (wr : World) : Prop :=
  Lies wr (w.heap.size + 2) (cellsM (maskL fun j => decide (j < k) && !hasL B j)) 26 ∧ Lies wr (w.heap.size + 1) (cellsM (maskL fun _ => false)) 26 ∧ Lies wr w.heap.size (cellsM B) 26 ∧ Below w.heap.size w wr
theorem InNot.start (B : List Nat) (w : World) (vs : List Value) (hv : vs = cellsM (maskL fun _ => false)) : InNot B w 0 (((w.alloc (.cells (cellsM B).toArray 26)).alloc (.cells vs.toArray 26)).alloc (.cells vs.toArray 26)) := by
  have e : maskL (fun j => decide (j < 0) && !hasL B j) = maskL (fun _ => false) := maskL_congr fun k _ => by simp
  have b0 : Below w.heap.size w (w.alloc (.cells (cellsM B).toArray 26)) := (Below.refl _ _).alloc (Nat.le_refl _) _
  have L0 := Lies.new w (cellsM B) 26
  obtain ⟨w0, hw0⟩ : ∃ w0, w0 = w.alloc (.cells (cellsM B).toArray 26) := ⟨_, rfl⟩
  have hs : w0.heap.size = w.heap.size + 1 := by rw [hw0]; simp
  rw [← hw0] at b0 L0 ⊢
  have b1 : Below w0.heap.size w0 (w0.alloc (.cells vs.toArray 26)) := (Below.refl _ _).alloc (Nat.le_refl _) _
  have L1 := Lies.new w0 vs 26
  obtain ⟨w1, hw1⟩ : ∃ w1, w1 = w0.alloc (.cells vs.toArray 26) := ⟨_, rfl⟩
  have hs1 : w1.heap.size = w.heap.size + 2 := by rw [hw1]; simp [hs]
  rw [← hw1] at b1 L1 ⊢
  have b2 : Below w1.heap.size w1 (w1.alloc (.cells vs.toArray 26)) := (Below.refl _ _).alloc (Nat.le_refl _) _
  have L2 := Lies.new w1 vs 26
  rw [hs] at L1
  rw [hs1] at L2
  have L0' := (L0.later b1 (by omega)).later b2 (by omega)
  have L1' := L1.later b2 (by omega)
  refine ⟨?_, ?_, L0', (b0.trans (b1.mono (by omega))).trans (b2.mono (by omega))⟩
  · rw [e, ← hv]; exact L2
  · rw [← hv]; exact L1'
theorem InNot.later {B : List Nat} {w wr w' : World} {k : Nat} (h : InNot B w k wr) (hb : Below wr.heap.size wr w') : InNot B w k w' :=
  ⟨h.1.later hb h.1.lt, h.2.1.later hb h.2.1.lt, h.2.2.1.later hb h.2.2.1.lt, h.2.2.2.trans (hb.mono h.2.2.2.size)⟩
theorem InNot.skip {B : List Nat} {w wr : World} {k : Nat} (h : InNot B w k wr) (hh : hasL B k = true) : InNot B w (k + 1) wr := by
  have e : maskL (fun j => decide (j < k + 1) && !hasL B j) = maskL (fun j => decide (j < k) && !hasL B j) := maskL_congr fun j _ => by
    by_cases hj : j = k
    · subst hj; simp [hh]
    · congr 1; rw [Bool.eq_iff_iff]; simp; omega
  unfold InNot
  rw [e]; exact h
theorem InNot.next {B : List Nat} {w wr : World} {k : Nat} (h : InNot B w k wr) (hk : k < 256) (hh : hasL B k = false) :
    InNot B w (k + 1) (wr.setCell ⟨w.heap.size + 2, k / 8, none⟩ (.int .u8 (((maskL fun j => decide (j < k) && !hasL B j).getD (k / 8) 0 ||| 2 ^ (k % 8) : Nat) : Int))).drew := by
  obtain ⟨h1, h2, h3, h4⟩ := h
  have hs := h1.set (k / 8) (.int .u8 (((maskL fun j => decide (j < k) && !hasL B j).getD (k / 8) 0 ||| 2 ^ (k % 8) : Nat) : Int))
  rw [cells_set, mask_or _ _ hk, show maskL (fun j => (decide (j < k) && !hasL B j) || j == k) = maskL (fun j => decide (j < k + 1) && !hasL B j) from maskL_congr fun j _ => by
    by_cases hj : j = k
    · subst hj; simp [hh]
    · rw [show (j == k) = false by simp [hj], Bool.or_false]; congr 1; rw [Bool.eq_iff_iff]; simp; omega] at hs
  exact ⟨hs.drew, (h2.apart (by simp) _).drew, (h3.apart (by simp) _).drew, (h4.setCell (by simp) _).drew⟩

set_option maxRecDepth 100000 in
set_option maxHeartbeats 2000000 in
theorem not_any (B : List Nat) (hB : IsM B) (w : World) :
    Calls Try.prog 13 #[maskV B] w (OfFirst (fun k => !hasL B k) w) := by
  have HL : Hid ((cellsM B).length = 32) := Lib.hid (by rw [cellsM_len, hB.len])
  have HZ : Hid ((cellsM (maskL fun _ => false)).length = 32) := Lib.hid (by rw [cellsM_len, maskL_len])
  have HS := Lib.hid (fun (vs : List Value) hv => InNot.start B w vs hv)
  unfold maskV
  generalize hC : (cellsM B).toArray = C at *
  go_enter Try.func13, Try.ntmps13
  go_wp2
  go_loopw [5] (fun i wr => ∃ k : Nat, k ≤ 256 ∧ i = .int .i64 k ∧ InNot B w k wr) (fun i _ => 256 - (intOf i).toNat)
  case atStart => exact ⟨0, Nat.zero_le _, rfl, HS.out _ rfl⟩
  case round =>
    obtain ⟨k, hk, rfl, hrel⟩ := hrel
    have hL1 := hrel.2.2.1
    by_cases hlt : k < 256
    · have hd : decide ((k : Int) < 256) = true := by simp; omega
      have HA : Hid (Calls Try.prog 14 #[.agg (cellsM B).toArray, .int .i64 (k : Int)] wr fun e w' => e = .returned (.bool (hasL B k)) ∧ Below wr.heap.size wr w') := Lib.hid (has_in B hB k hlt wr)
      have HR := Lib.hid hrel
      clear hrel hC
      cases hh : hasL B k
      · rw [hh] at HA
        have HH := Lib.hid hh
        clear hh
        go_wp2_with (refine wp_loadM rfl _ rfl _ rfl hL1 HL.out ?_)
        refine HA.out.mono ?_
        rintro e w1 ⟨rfl, hb1⟩
        have HR1 := Lib.hid (HR.out.later hb1)
        clear hb1 hL1
        have hc := HR1.out.1.cell (cellsM_at _ (k / 8) (by rw [maskL_len]; omega))
        have hf := HR1.out.1.frozen (k / 8)
        have hx := mask_byte (fun j => decide (j < k) && !hasL B j) (k / 8) (by omega)
        have HN := Lib.hid (HR1.out.next hlt HH.out)
        have HD := Lib.hid (add_any (w.heap.size + 2) _ k hlt hx w1 hc hf)
        clear hc hf hx
        generalize (maskL fun j => decide (j < k) && !hasL B j).getD (k / 8) 0 = x at *
        go_wp2_with fail
        refine HD.out.mono ?_
        rintro e w2 ⟨rfl, rfl⟩
        go_wp2
        go_roundw
        case rel => exact ⟨k + 1, by omega, by go_num, HN.out⟩
        case measure => simp [intOf]; omega
      · rw [hh] at HA
        have HH := Lib.hid hh
        clear hh
        go_wp2_with (refine wp_loadM rfl _ rfl _ rfl hL1 HL.out ?_)
        refine HA.out.mono ?_
        rintro e w1 ⟨rfl, hb1⟩
        have HR1 := Lib.hid ((HR.out.later hb1).skip HH.out)
        clear hb1 hL1
        go_wp2
        go_roundw
        case rel => exact ⟨k + 1, by omega, by go_num, HR1.out⟩
        case measure => simp [intOf]; omega
    · obtain rfl : k = 256 := by omega
      have HF : Hid (maskL (fun j => decide (j < 256) && !hasL B j) = maskL (fun j => !hasL B j)) := Lib.hid (maskL_congr fun j hj => by simp [hj])
      obtain ⟨h1, h2, h3, h4⟩ := hrel
      have HX : Hid ((cellsM (maskL fun j => decide (j < 256) && !hasL B j)).length = 32) := Lib.hid (by rw [cellsM_len, maskL_len])
      clear hL1 hC
      go_wp2_with (first | (refine wp_loadM rfl _ rfl _ rfl h1 HX.out ?_) | (refine wp_storeM rfl _ _ rfl _ _ rfl rfl h2 HZ.out HX.out (cellsM_one _) ?_))
      have hR := h2.row (cellsM (maskL fun j => decide (j < 256) && !hasL B j))
      have hB' := below_row h4 (by omega : w.heap.size ≤ w.heap.size + 1) (cellsM (maskL fun j => decide (j < 256) && !hasL B j)).toArray
      refine bodyPost_ret (results_cellM (p := 2) Try.results13 rfl hR HX.out) rfl ⟨?_, hB'⟩
      rw [HF.out]; rfl
end Go.Proofs.Ytamdhljoamggeaa
