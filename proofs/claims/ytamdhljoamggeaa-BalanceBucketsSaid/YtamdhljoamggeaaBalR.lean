/- The document's Count, of, First, Not. -/
import Derived.Test.YtamdhljoamggeaaBalN
namespace Go.Proofs.Ytamdhljoamggeaa
open Go.RowKit Go.Sort

structure ArrT (T : TypeId) (n : Nat) : Prop where
  agg : ∃ e, Try.prog.underlying T = some (.array n e)
  size : (Try.prog.info? T).map (·.size) = some n
theorem arrA : ArrT 25 32 := ⟨⟨5, by kernel_rfl⟩, by kernel_rfl⟩
theorem arrB : ArrT 42 256 := ⟨⟨4, by kernel_rfl⟩, by kernel_rfl⟩
section
variable {ops : Array Oper} {rest : List Oper} {o : Oper} {a : Act} {w : World} {Q : Exit → Act → World → Prop}
theorem wp_loadT {T : TypeId} {n : Nat} (hT : ArrT T n) (hgd : o.guard = none) (x : Operand) (ho : o.op = .load T x) (b : Nat) (hx : a.eval x = .pointer (some ⟨b, 0, none⟩)) {vs : List Value} {t : TypeId} (hL : Lies w b vs t) (hl : vs.length = n)
    (h : wpList Try.prog ops Q rest (a.put o.dst (.agg vs.toArray)) w) : wpList Try.prog ops Q (o :: rest) a w := by
  obtain ⟨⟨e, he⟩, hs⟩ := hT
  exact wpList_load_row hgd _ x ho b hx t _ _ _ hL he rfl (hs.trans (by simp [hl])) h
theorem wp_storeT {T : TypeId} {n : Nat} (hT : ArrT T n) (hgd : o.guard = none) (x y : Operand) (ho : o.op = .store T x y) (b : Nat) (cs : List Value) (hx : a.eval x = .pointer (some ⟨b, 0, none⟩)) (hy : a.eval y = .agg cs.toArray) {vs : List Value} {t : TypeId} (hL : Lies w b vs t) (hl : vs.length = n) (hc : cs.length = n) (h1 : ∀ v ∈ cs, v.oneCell' = true)
    (h : wpList Try.prog ops Q rest (a.put o.dst undef) (w.setRow b cs.toArray)) : wpList Try.prog ops Q (o :: rest) a w :=
  wpList_store_row hgd _ x y ho b _ hx hy t _ hL (hT.size.trans (by simp [hc])) (by simp [hl, hc]) (Array.all_eq_true_iff_forall_mem.2 fun v hv => h1 v (by simpa using hv)) h
end
theorem results_cellT {T : TypeId} {n : Nat} (hT : ArrT T n) {fn : Func} {p : Tmp} (h : fn.results = #[.cell p T]) {tmps : Array Value} {w : World} {b : Nat} {vs : List Value} {t : TypeId}
    (hp : tmps.getD p undef = .pointer (some ⟨b, 0, none⟩)) (hL : Lies w b vs t) (hl : vs.length = n) : (results fn tmps).run Try.prog w = .ok (.agg vs.toArray) w := by
  obtain ⟨⟨e, he⟩, hs⟩ := hT
  exact results_cell_row h tmps w b t _ _ _ hp hL he rfl (hs.trans (by simp [hl]))

set_option maxRecDepth 100000 in
set_option maxHeartbeats 1000000 in
theorem rcount_any (B : List Nat) (hB : IsM B) (w : World) :
    Calls Try.prog 17 #[maskV B] w fun e w' => e = .returned (.int .i64 ((cntL B 256 : Nat) : Int)) ∧ Below w.heap.size w w' := by
  have HL : Hid ((cellsM B).length = 32) := Lib.hid (by rw [cellsM_len, hB.len])
  have HLi := Lies.new w (cellsM B) 25
  have HB0 : Below w.heap.size w (w.alloc (.cells (cellsM B).toArray 25)) := (Below.refl _ _).alloc (Nat.le_refl _) _
  unfold maskV
  go_enter Try.func17, Try.ntmps17
  go_wp2
  go_loopw [3, 4] (fun c i wr => ∃ k n : Nat, k ≤ 256 ∧ n ≤ k ∧ i = .int .i64 k ∧ c = .int .i64 n ∧ n = cntL B k ∧ Lies wr w.heap.size (cellsM B) 25 ∧ Below w.heap.size w wr) (fun _ i _ => 256 - (intOf i).toNat)
  case atStart => exact ⟨0, 0, Nat.zero_le _, Nat.le_refl _, rfl, rfl, rfl, HLi, HB0⟩
  case round =>
    obtain ⟨k, n, hk, hn, rfl, rfl, hnk, h1, h2⟩ := hrel
    by_cases hlt : k < 256
    · have hd : decide ((k : Int) < 256) = true := by simp; omega
      have HS := Lib.hid (cnt_succ B k)
      have HN := Lib.hid hnk
      clear hnk
      have HA : Hid (Calls Try.prog 15 #[.agg (cellsM B).toArray, .int .i64 (k : Int)] wr fun e w' => e = .returned (.bool (hasL B k)) ∧ Below wr.heap.size wr w') := Lib.hid (rhas_in B hB k hlt wr)
      cases hh : hasL B k
      all_goals
        rw [hh] at HA HS
        clear hh
        go_wp2_with (refine wp_loadT arrA rfl _ rfl _ rfl h1 HL.out ?_)
        refine HA.out.mono ?_
        rintro e w1 ⟨rfl, hb1⟩
        have HL1 := Lib.hid (h1.later hb1 h1.lt)
        have HB1 := Lib.hid (h2.trans (hb1.mono h2.size))
        clear hb1
        go_wp2
        go_roundw
        case rel =>
          have hm := HS.out
          rw [← HN.out] at hm
          simp at hm
          refine ⟨k + 1, cntL B (k + 1), by omega, by omega, by go_num, ?_, rfl, HL1.out, HB1.out⟩
          first | (rw [hm]; done) | (rw [hm]; go_num)
        case measure => simp [intOf]; omega
    · obtain rfl : k = 256 := by omega
      have HN := Lib.hid hnk
      clear hnk
      go_wp2
      go_ret
      rw [← HN.out]
      exact ⟨rfl, h2⟩

/-- Three blocks that the call made, in order. -/
structure Three (T0 T1 T2 : TypeId) (v0 v1 v2 : List Value) (w wr : World) : Prop where
  l0 : Lies wr w.heap.size v0 T0
  l1 : Lies wr (w.heap.size + 1) v1 T1
  l2 : Lies wr (w.heap.size + 2) v2 T2
  low : Below w.heap.size w wr
section
variable {T0 T1 T2 : TypeId} {v0 v1 v2 : List Value} {w wr w' : World}
theorem Three.start (T0 T1 T2 : TypeId) (v0 v1 v2 : List Value) (w : World) : Three T0 T1 T2 v0 v1 v2 w (((w.alloc (.cells v0.toArray T0)).alloc (.cells v1.toArray T1)).alloc (.cells v2.toArray T2)) := by
  have b0 : Below w.heap.size w (w.alloc (.cells v0.toArray T0)) := (Below.refl _ _).alloc (Nat.le_refl _) _
  have L0 := Lies.new w v0 T0
  obtain ⟨w0, hw0⟩ : ∃ w0, w0 = w.alloc (.cells v0.toArray T0) := ⟨_, rfl⟩
  have hs : w0.heap.size = w.heap.size + 1 := by rw [hw0]; simp
  rw [← hw0] at b0 L0 ⊢
  have b1 : Below w0.heap.size w0 (w0.alloc (.cells v1.toArray T1)) := (Below.refl _ _).alloc (Nat.le_refl _) _
  have L1 := Lies.new w0 v1 T1
  obtain ⟨w1, hw1⟩ : ∃ w1, w1 = w0.alloc (.cells v1.toArray T1) := ⟨_, rfl⟩
  have hs1 : w1.heap.size = w.heap.size + 2 := by rw [hw1]; simp [hs]
  rw [← hw1] at b1 L1 ⊢
  have b2 : Below w1.heap.size w1 (w1.alloc (.cells v2.toArray T2)) := (Below.refl _ _).alloc (Nat.le_refl _) _
  have L2 := Lies.new w1 v2 T2
  rw [hs] at L1
  rw [hs1] at L2
  exact ⟨(L0.later b1 (by omega)).later b2 (by omega), L1.later b2 (by omega), L2, (b0.trans (b1.mono (by omega))).trans (b2.mono (by omega))⟩
theorem Three.later (h : Three T0 T1 T2 v0 v1 v2 w wr) (hb : Below wr.heap.size wr w') : Three T0 T1 T2 v0 v1 v2 w w' :=
  ⟨h.l0.later hb h.l0.lt, h.l1.later hb h.l1.lt, h.l2.later hb h.l2.lt, h.low.trans (hb.mono h.low.size)⟩
theorem Three.set2 (h : Three T0 T1 T2 v0 v1 v2 w wr) (i : Nat) (v : Value) : Three T0 T1 T2 v0 v1 (v2.set i v) w (wr.setCell ⟨w.heap.size + 2, i, none⟩ v) :=
  ⟨h.l0.apart (by simp) _, h.l1.apart (by simp) _, h.l2.set i v, h.low.setCell (by simp) _⟩
end

def cellsB (f : Nat → Bool) : List Value := (List.range 256).map fun k => Value.bool (f k)
theorem cellsB_len (f : Nat → Bool) : (cellsB f).length = 256 := by simp [cellsB]
theorem cellsB_at (f : Nat → Bool) (k : Nat) (hk : k < 256) : (cellsB f)[k]? = some (.bool (f k)) := by simp [cellsB, hk]
theorem cellsB_one (f : Nat → Bool) : ∀ v ∈ cellsB f, v.oneCell' = true := by
  intro v hv
  obtain ⟨x, _, rfl⟩ := List.mem_map.1 hv
  rfl
theorem cellsB_congr {f g : Nat → Bool} (h : ∀ k, k < 256 → f k = g k) : cellsB f = cellsB g := by
  unfold cellsB
  apply List.map_congr_left
  intro i hi
  rw [h i (List.mem_range.1 hi)]
theorem cellsB_set (f : Nat → Bool) (k : Nat) (b : Bool) : (cellsB f).set k (.bool b) = cellsB fun j => if j = k then b else f j := by
  apply List.ext_getElem?
  intro i
  rw [List.getElem?_set, cellsB_len]
  by_cases hi : i < 256
  · rw [cellsB_at _ _ hi, cellsB_at _ _ hi]
    split
    · rename_i e; subst e; rw [if_pos hi, if_pos rfl]
    · rename_i e; rw [if_neg (fun h => e h.symm)]
  · rw [List.getElem?_eq_none (by rw [cellsB_len]; omega), List.getElem?_eq_none (by rw [cellsB_len]; omega)]
    split
    · rw [if_neg (by omega)]
    · rfl

/-- The bits below k of f. -/
def upto (f : Nat → Bool) (k : Nat) : Nat → Bool := fun j => decide (j < k) && f j
theorem upto_skip (f : Nat → Bool) (k : Nat) (hf : f k = false) : maskL (upto f (k + 1)) = maskL (upto f k) := maskL_congr fun j _ => by
  unfold upto
  by_cases hj : j = k
  · subst hj; simp [hf]
  · congr 1; rw [Bool.eq_iff_iff]; simp; omega
theorem upto_next (f : Nat → Bool) (k : Nat) (hk : k < 256) (hf : f k = true) : (maskL (upto f k)).set (k / 8) ((maskL (upto f k)).getD (k / 8) 0 + 2 ^ (k % 8)) = maskL (upto f (k + 1)) := by
  rw [mask_add _ _ hk (by unfold upto; simp)]
  refine maskL_congr fun j _ => ?_
  unfold upto
  by_cases hj : j = k
  · subst hj; simp [hf]
  · rw [show (j == k) = false by simp [hj], Bool.or_false]; congr 1; rw [Bool.eq_iff_iff]; simp; omega
theorem upto_lt (f : Nat → Bool) (k : Nat) (hk : k < 256) : (maskL (upto f k)).getD (k / 8) 0 + 2 ^ (k % 8) < 256 := by
  have h := mask_add (upto f k) k hk (by unfold upto; simp)
  have h2 := congrArg (fun l => l.getD (k / 8) 0) h
  simp only [List.getD_eq_getElem?_getD, List.getElem?_set_self (show k / 8 < (maskL (upto f k)).length by rw [maskL_len]; omega), Option.getD_some] at h2
  rw [List.getD_eq_getElem?_getD, h2, ← List.getD_eq_getElem?_getD]
  exact mask_byte _ _ (by omega)
theorem upto_zero (f : Nat → Bool) : maskL (upto f 0) = maskL fun _ => false := maskL_congr fun j _ => by unfold upto; simp
theorem upto_all (f : Nat → Bool) : maskL (upto f 256) = maskL f := maskL_congr fun j hj => by unfold upto; simp [hj]

set_option maxRecDepth 100000 in
set_option maxHeartbeats 2000000 in
theorem of_any (f : Nat → Bool) (w : World) :
    Calls Try.prog 23 #[.agg (cellsB f).toArray] w (OfFirst f w) := by
  have HS : Hid (Three 42 25 25 (cellsB f) (cellsM (List.replicate 32 0)) (cellsM (List.replicate 32 0)) w (((w.alloc (.cells (cellsB f).toArray 42)).alloc (.cells (cellsM (List.replicate 32 0)).toArray 25)).alloc (.cells (cellsM (List.replicate 32 0)).toArray 25))) := Lib.hid (Three.start _ _ _ _ _ _ _)
  have HU := Lib.hid (upto_zero f)
  generalize hC : (cellsB f).toArray = C at *
  have HC := Lib.hid hC
  clear hC
  go_enter Try.func23, Try.ntmps23
  go_wp2
  go_loopw [4] (fun i wr => ∃ k : Nat, k ≤ 256 ∧ i = .int .i64 k ∧ Three 42 25 25 (cellsB f) (cellsM (List.replicate 32 0)) (cellsM (maskL (upto f k))) w wr) (fun i _ => 256 - (intOf i).toNat)
  case atStart => exact ⟨0, Nat.zero_le _, rfl, by rw [HU.out, mask_none]; exact HS.out⟩
  case round =>
    obtain ⟨k, hk, rfl, hrel⟩ := hrel
    have HR := Lib.hid hrel
    by_cases hlt : k < 256
    · have hd : decide ((k : Int) < 256) = true := by simp; omega
      have hc := hrel.l0.cell (cellsB_at f k hlt)
      clear hrel
      cases hf : f k
      · rw [hf] at hc
        have HK := Lib.hid (upto_skip f k hf)
        clear hf
        go_wp2
        go_roundw
        case rel => exact ⟨k + 1, by omega, by go_num, by rw [HK.out]; exact HR.out⟩
        case measure => simp [intOf]; omega
      · rw [hf] at hc
        have HK := Lib.hid (upto_next f k hlt hf)
        have hx := upto_lt f k hlt
        clear hf
        have hm := HR.out.l2.cell (cellsM_at _ (k / 8) (by rw [maskL_len]; omega))
        have hfr := HR.out.l2.frozen (k / 8)
        have HN := Lib.hid (HR.out.set2 (k / 8) (.int .u8 (((maskL (upto f k)).getD (k / 8) 0 + 2 ^ (k % 8) : Nat) : Int)))
        rw [cells_set, HK.out] at HN
        clear HK
        generalize (maskL (upto f k)).getD (k / 8) 0 = x at *
        go_wp2
        go_loop [5, 6] (fun b i => ∃ j : Nat, j ≤ k % 8 ∧ i = .int .i64 j ∧ b = .int .i64 ((2 ^ j : Nat) : Int)) (fun _ i => 8 - (intOf i).toNat)
        case atStart => exact ⟨0, Nat.zero_le _, rfl, rfl⟩
        case round =>
          obtain ⟨j, hj, rfl, rfl⟩ := hrel
          have hp : 2 ^ j < 256 := Nat.lt_of_lt_of_le (Nat.pow_lt_pow_right (by decide) (show j < 8 by omega)) (by decide)
          have HP : Hid (2 ^ (j + 1) = 2 ^ j * 2) := Lib.hid (Nat.pow_succ ..)
          by_cases hjk : j < k % 8
          · have hd1 : decide ((j : Int) < (k : Int) % 8) = true := by simp; omega
            generalize 2 ^ j = y at *
            go_wp2
            go_round
            case rel => exact ⟨j + 1, by omega, by go_num, by rw [HP.out]; go_num⟩
            case measure => simp [intOf]; omega
          · have hd1 : decide ((j : Int) < (k : Int) % 8) = false := by simp; omega
            obtain rfl : j = k % 8 := by omega
            have hy : ∃ y : Nat, y = 2 ^ (k % 8) := ⟨_, rfl⟩
            obtain ⟨y, hy⟩ := hy
            rw [← hy] at hx hp HN ⊢
            clear hy
            go_wp2
            go_roundw
            case rel => exact ⟨k + 1, by omega, by go_num, by have h := HN.out; rw [Int.natCast_add] at h; exact h⟩
            case measure => simp [intOf]; omega
    · obtain rfl : k = 256 := by omega
      have HF := Lib.hid (upto_all f)
      rw [HF.out] at HR
      have h1 := HR.out.l2
      have h2 := HR.out.l1
      clear hrel
      have HX : Hid ((cellsM (maskL f)).length = 32) := Lib.hid (by rw [cellsM_len, maskL_len])
      have HZ : Hid ((cellsM (List.replicate 32 0)).length = 32) := Lib.hid (by rw [cellsM_len, List.length_replicate])
      go_wp2_with (first | (refine wp_loadT arrA rfl _ rfl _ rfl h1 HX.out ?_) | (refine wp_storeT arrA rfl _ _ rfl _ _ rfl rfl h2 HZ.out HX.out (cellsM_one _) ?_))
      have hR := h2.row (cellsM (maskL f))
      have hB' := below_row HR.out.low (by omega : w.heap.size ≤ w.heap.size + 1) (cellsM (maskL f)).toArray
      exact bodyPost_ret (results_cellT (p := 2) arrA Try.results23 rfl hR HX.out) rfl ⟨rfl, hB'⟩

theorem zeroB : ∀ w, (zeroValue 42).run Try.prog w = .ok (.agg (cellsB fun _ => false).toArray) w :=
  (zero_of_info (P := Try.prog) (show (Try.prog.info? 42).map (fun i => (i.zero, i.size)) = some (some (.agg (cellsB fun _ => false).toArray), 256) by kernel_rfl)).1

structure Two (T0 T1 : TypeId) (v0 v1 : List Value) (w wr : World) : Prop where
  l0 : Lies wr w.heap.size v0 T0
  l1 : Lies wr (w.heap.size + 1) v1 T1
  low : Below w.heap.size w wr
section
variable {T0 T1 : TypeId} {v0 v1 : List Value} {w wr w' : World}
theorem Two.start (T0 T1 : TypeId) (v0 v1 : List Value) (w : World) : Two T0 T1 v0 v1 w ((w.alloc (.cells v0.toArray T0)).alloc (.cells v1.toArray T1)) := by
  have b0 : Below w.heap.size w (w.alloc (.cells v0.toArray T0)) := (Below.refl _ _).alloc (Nat.le_refl _) _
  have L0 := Lies.new w v0 T0
  obtain ⟨w0, hw0⟩ : ∃ w0, w0 = w.alloc (.cells v0.toArray T0) := ⟨_, rfl⟩
  have hs : w0.heap.size = w.heap.size + 1 := by rw [hw0]; simp
  rw [← hw0] at b0 L0 ⊢
  have b1 : Below w0.heap.size w0 (w0.alloc (.cells v1.toArray T1)) := (Below.refl _ _).alloc (Nat.le_refl _) _
  have L1 := Lies.new w0 v1 T1
  rw [hs] at L1
  exact ⟨L0.later b1 (by omega), L1, b0.trans (b1.mono (by omega))⟩
theorem Two.later (h : Two T0 T1 v0 v1 w wr) (hb : Below wr.heap.size wr w') : Two T0 T1 v0 v1 w w' :=
  ⟨h.l0.later hb h.l0.lt, h.l1.later hb h.l1.lt, h.low.trans (hb.mono h.low.size)⟩
theorem Two.set1 (h : Two T0 T1 v0 v1 w wr) (i : Nat) (v : Value) : Two T0 T1 v0 (v1.set i v) w (wr.setCell ⟨w.heap.size + 1, i, none⟩ v) :=
  ⟨h.l0.apart (by simp) _, h.l1.set i v, h.low.setCell (by simp) _⟩
end
theorem upB_zero (f : Nat → Bool) : cellsB (upto f 0) = cellsB fun _ => false := cellsB_congr fun j _ => by unfold upto; simp
theorem upB_all (f : Nat → Bool) : cellsB (upto f 256) = cellsB f := cellsB_congr fun j hj => by unfold upto; simp [hj]
theorem upB_next (f : Nat → Bool) (k : Nat) : (cellsB (upto f k)).set k (.bool (f k)) = cellsB (upto f (k + 1)) := by
  rw [cellsB_set]
  refine cellsB_congr fun j _ => ?_
  unfold upto
  by_cases hj : j = k
  · subst hj; simp
  · rw [if_neg hj]; congr 1; rw [Bool.eq_iff_iff]; simp; omega
def ltF (n : Int) : Nat → Bool := fun k => decide ((k : Int) < n)

set_option maxRecDepth 100000 in
set_option maxHeartbeats 2000000 in
theorem rfirst_any (n : Int) (w : World) :
    Calls Try.prog 18 #[.int .i64 n] w (OfFirst (ltF n) w) := by
  have HS : Hid (Two 25 42 (cellsM (List.replicate 32 0)) (cellsB fun _ => false) w ((w.alloc (.cells (cellsM (List.replicate 32 0)).toArray 25)).alloc (.cells (cellsB fun _ => false).toArray 42))) := Lib.hid (Two.start _ _ _ _ _)
  have HU := Lib.hid (upB_zero (ltF n))
  have hz := zeroB
  generalize hZ : (cellsB fun _ => false).toArray = Z at hz HS
  have HZ := Lib.hid hZ
  clear hZ
  go_enter Try.func18, Try.ntmps18
  go_wp2
  clear hz
  go_loopw [4] (fun i wr => ∃ k : Nat, k ≤ 256 ∧ i = .int .i64 k ∧ Two 25 42 (cellsM (List.replicate 32 0)) (cellsB (upto (ltF n) k)) w wr) (fun i _ => 256 - (intOf i).toNat)
  case atStart => exact ⟨0, Nat.zero_le _, rfl, by rw [HU.out]; exact HS.out⟩
  case round =>
    obtain ⟨k, hk, rfl, hrel⟩ := hrel
    have HR := Lib.hid hrel
    by_cases hlt : k < 256
    · have hd : decide ((k : Int) < 256) = true := by simp; omega
      have hc := hrel.l1.cell (cellsB_at _ k hlt)
      have hfr := hrel.l1.frozen k
      clear hrel
      have HN := Lib.hid (HR.out.set1 k (.bool (ltF n k)))
      rw [upB_next] at HN
      have HD : Hid (decide ((k : Int) < n) = ltF n k) := Lib.hid rfl
      go_wp2
      go_roundw
      case rel => exact ⟨k + 1, by omega, by go_num, by rw [HD.out]; exact HN.out⟩
      case measure => simp [intOf]; omega
    · obtain rfl : k = 256 := by omega
      have HF := Lib.hid (upB_all (ltF n))
      rw [HF.out] at HR
      have h1 := HR.out.l1
      clear hrel
      have HX : Hid ((cellsB (ltF n)).length = 256) := Lib.hid (cellsB_len _)
      have HX' : Hid ((cellsM (maskL (ltF n))).length = 32) := Lib.hid (by rw [cellsM_len, maskL_len])
      have HY : Hid ((cellsM (List.replicate 32 0)).length = 32) := Lib.hid (by rw [cellsM_len, List.length_replicate])
      go_wp2_with (first | (refine wp_loadT arrB rfl _ rfl _ rfl h1 HX.out ?_))
      refine (of_any (ltF n) _).mono ?_
      rintro e w1 ⟨rfl, hb⟩
      have HR1 := Lib.hid (HR.out.later hb)
      have h2 := HR1.out.l0
      clear hb h1
      unfold maskV
      go_wp2_with (first | (refine wp_storeT arrA rfl _ _ rfl _ _ rfl rfl h2 HY.out HX'.out (cellsM_one _) ?_))
      have hR := h2.row (cellsM (maskL (ltF n)))
      have hB' := below_row HR1.out.low (Nat.le_refl _) (cellsM (maskL (ltF n))).toArray
      exact bodyPost_ret (results_cellT (p := 2) arrA Try.results18 rfl hR HX'.out) rfl ⟨rfl, hB'⟩
end Go.Proofs.Ytamdhljoamggeaa
