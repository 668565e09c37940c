/- Masks in memory: arrays by value, whole. -/
import Derived.Test.YtamdhljoamggeaaBalP
import Derived.Deep.MidRow
import Derived.Deep.WholeRow
import Derived.Lib.Hide
import Derived.BigQuiet
import Derived.Deep.QuietTactic
import Derived.Lib.QuietBelow
import Derived.Outline
namespace Go.Proofs.Ytamdhljoamggeaa
open Go.RowKit Go.Sort

def cellsM (B : List Nat) : List Value := B.map fun (x : Nat) => Value.int .u8 (x : Int)
def maskV (B : List Nat) : Value := .agg (cellsM B).toArray
theorem cellsM_len (B : List Nat) : (cellsM B).length = B.length := by simp [cellsM]
theorem cellsM_at (B : List Nat) (i : Nat) (h : i < B.length) : (cellsM B)[i]? = some (.int .u8 ((B.getD i 0 : Nat) : Int)) := by
  simp [cellsM, h]
theorem cellsM_one (B : List Nat) : ∀ v ∈ cellsM B, v.oneCell' = true := by
  intro v hv
  obtain ⟨x, _, rfl⟩ := List.mem_map.1 hv
  rfl
theorem infoM : (Try.prog.info? 26).map (fun i => (i.zero, i.size)) = some (some (maskV (List.replicate 32 0)), 32) := by kernel_rfl
theorem infoA : (Try.prog.info? 25).map (fun i => (i.zero, i.size)) = some (some (maskV (List.replicate 32 0)), 32) := by kernel_rfl

theorem and_one (x j : Nat) (hx : x < 256) : (bits .and .u8 ((x : Int) / 2 ^ j) 1 == 1) = (x / 2 ^ j % 2 == 1) := by
  have hy : x / 2 ^ j < 256 := Nat.lt_of_le_of_lt (Nat.div_le_self _ _) hx
  have e : ((x : Int) / 2 ^ j) = ((x / 2 ^ j : Nat) : Int) := by simp
  have h := bits_mask .u8 8 (by decide) wraps_u8 1 (by decide) ((x / 2 ^ j : Nat) : Int) (Int.natCast_nonneg _) (by exact_mod_cast hy)
  rw [e, show (1 : Int) = 2 ^ 1 - 1 from rfl, h, Bool.eq_iff_iff]
  simp
  omega
theorem or_pow (x j : Nat) (hx : x < 256) (hj : j < 8) : bits .or .u8 (x : Int) (2 ^ j) = ((x ||| 2 ^ j : Nat) : Int) := by
  have h2 : 2 ^ j < 2 ^ 8 := Nat.pow_lt_pow_right (by decide) hj
  have := (bits_nat .u8 8 (by decide) wraps_u8 x (2 ^ j) hx h2).2
  rw [← this]
  simp

theorem has_out (B : List Nat) (k : Int) (hk : ¬ (0 ≤ k ∧ k < 256)) (w : World) :
    Calls Try.prog 14 #[maskV B, .int .i64 k] w fun e w' => e = .returned (.bool false) ∧ Below w.heap.size w w' := by
  unfold maskV
  generalize (cellsM B).toArray = C
  have hor : decide (k < 0) = true ∨ (decide (k < 0) = false ∧ decide (256 ≤ k) = true) := by
    simp only [decide_eq_true_eq, decide_eq_false_iff_not]
    omega
  clear hk
  rcases hor with h1 | ⟨h1, h2⟩
  all_goals
    go_enter Try.func14, Try.ntmps14
    go_wp2
    go_ret
    exact ⟨rfl, (Below.refl _ _).alloc (Nat.le_refl _) _⟩

set_option maxHeartbeats 1000000 in
theorem has_in (B : List Nat) (hB : IsM B) (k : Nat) (hk : k < 256) (w : World) :
    Calls Try.prog 14 #[maskV B, .int .i64 (k : Int)] w fun e w' => e = .returned (.bool (hasL B k)) ∧ Below w.heap.size w w' := by
  have hc : (w.alloc (.cells (cellsM B).toArray 26)).cell? ⟨w.heap.size, k / 8, none⟩ = some (.int .u8 ((B.getD (k / 8) 0 : Nat) : Int)) := by
    rw [cell_of_row _ _ (k / 8) _ _ (0, 0) (heap_alloc_new w _), ← cellsM_at B (k / 8) (by rw [hB.len]; omega)]
    simp
  unfold maskV
  generalize (cellsM B).toArray = C at *
  have h1 : decide ((k : Int) < 0) = false := by simp
  have h2 : decide ((256 : Int) ≤ (k : Int)) = false := by simp; omega
  have hx : B.getD (k / 8) 0 < 256 := by
    have : k / 8 < B.length := by rw [hB.len]; omega
    rw [List.getD_eq_getElem?_getD, List.getElem?_eq_getElem this]
    exact hB.lt _ (List.getElem_mem _)
  have HH : Hid (hasL B k = (B.getD (k / 8) 0 / 2 ^ (k % 8) % 2 == 1)) := Lib.hid rfl
  generalize B.getD (k / 8) 0 = x at *
  go_enter Try.func14, Try.ntmps14
  go_wp2
  go_ret
  rw [HH.out, ← and_one x (k % 8) hx]
  exact ⟨rfl, (Below.refl _ _).alloc (Nat.le_refl _) _⟩

set_option maxRecDepth 100000 in
set_option maxHeartbeats 1000000 in
theorem rhas_out (B : List Nat) (k : Int) (hk : ¬ (0 ≤ k ∧ k < 256)) (w : World) :
    Calls Try.prog 15 #[maskV B, .int .i64 k] w fun e w' => e = .returned (.bool false) ∧ Below w.heap.size w w' := by
  unfold maskV
  generalize (cellsM B).toArray = C
  have hor : decide (k < 0) = true ∨ (decide (k < 0) = false ∧ decide (255 < k) = true) := by
    simp only [decide_eq_true_eq, decide_eq_false_iff_not]
    omega
  clear hk
  rcases hor with h1 | ⟨h1, h2⟩
  all_goals
    go_enter Try.func15, Try.ntmps15
    go_wp2
    go_ret
    exact ⟨rfl, (Below.refl _ _).alloc (Nat.le_refl _) _⟩

set_option maxRecDepth 100000 in
set_option maxHeartbeats 1000000 in
theorem rhas_in (B : List Nat) (hB : IsM B) (k : Nat) (hk : k < 256) (w : World) :
    Calls Try.prog 15 #[maskV B, .int .i64 (k : Int)] w fun e w' => e = .returned (.bool (hasL B k)) ∧ Below w.heap.size w w' := by
  have hc : (w.alloc (.cells (cellsM B).toArray 25)).cell? ⟨w.heap.size, k / 8, none⟩ = some (.int .u8 ((B.getD (k / 8) 0 : Nat) : Int)) := by
    rw [cell_of_row _ _ (k / 8) _ _ (0, 0) (heap_alloc_new w _), ← cellsM_at B (k / 8) (by rw [hB.len]; omega)]
    simp
  unfold maskV
  generalize (cellsM B).toArray = C at *
  have h1 : decide ((k : Int) < 0) = false := by simp
  have h2 : decide ((255 : Int) < (k : Int)) = false := by simp; omega
  have hx : B.getD (k / 8) 0 < 256 := by
    have : k / 8 < B.length := by rw [hB.len]; omega
    rw [List.getD_eq_getElem?_getD, List.getElem?_eq_getElem this]
    exact hB.lt _ (List.getElem_mem _)
  have HH : Hid (hasL B k = (B.getD (k / 8) 0 / 2 ^ (k % 8) % 2 == 1)) := Lib.hid rfl
  generalize B.getD (k / 8) 0 = x at *
  go_enter Try.func15, Try.ntmps15
  go_wp2
  go_loop [5, 6] (fun n i => ∃ j : Nat, j ≤ k % 8 ∧ i = .int .i64 j ∧ n = .int .i64 ((x / 2 ^ j : Nat) : Int)) (fun _ i => 8 - (intOf i).toNat)
  case atStart => exact ⟨0, Nat.zero_le _, rfl, by simp⟩
  case round =>
    obtain ⟨j, hj, rfl, rfl⟩ := hrel
    have hy : x / 2 ^ j < 256 := Nat.lt_of_le_of_lt (Nat.div_le_self _ _) hx
    have HD : Hid (x / 2 ^ (j + 1) = x / 2 ^ j / 2) := Lib.hid (by rw [Nat.pow_succ, Nat.div_div_eq_div_mul])
    by_cases hlt : j < k % 8
    · have hd : decide ((j : Int) < ((k % 8 : Nat) : Int)) = true := by simp; omega
      have hd' : decide ((j : Int) < (k : Int) % 8) = true := by simp; omega
      generalize x / 2 ^ j = y at *
      go_wp2
      go_round
      case rel => exact ⟨j + 1, by omega, by go_num, by rw [HD.out]; go_num⟩
      case measure => simp [intOf]; omega
    · have hd : decide ((j : Int) < ((k % 8 : Nat) : Int)) = false := by simp; omega
      have hd' : decide ((j : Int) < (k : Int) % 8) = false := by simp; omega
      have hjk : j = k % 8 := by omega
      rw [← hjk] at HH
      clear hjk
      generalize x / 2 ^ j = y at *
      go_wp2
      go_ret
      rw [HH.out]
      exact ⟨by show Ending.returned (.bool _) = _; congr 2; rw [Bool.eq_iff_iff]; simp; omega, (Below.refl _ _).alloc (Nat.le_refl _) _⟩

/-- What add makes of the world: one bit more. -/
def Added (b i y : Nat) (w : World) (e : Ending) (w' : World) : Prop := e = .returned (.tuple #[]) ∧ w' = (w.setCell ⟨b, i, none⟩ (.int .u8 (y : Int))).drew

set_option maxRecDepth 100000 in
set_option maxHeartbeats 1000000 in
theorem add_any (b x k : Nat) (hk : k < 256) (hx : x < 256) (w : World) (hc : w.cell? ⟨b, k / 8, none⟩ = some (.int .u8 (x : Int))) (hf : w.frozen? ⟨b, k / 8, none⟩ = false) :
    Calls Try.prog 22 #[.pointer (some ⟨b, 0, none⟩), .int .i64 (k : Int)] w (Added b (k / 8) (x ||| 2 ^ (k % 8)) w) := by
  have HO := Lib.hid (or_pow x (k % 8) hx (by omega))
  have HP : Hid ((2 : Int) ^ (k % 8) % 256 = 2 ^ (k % 8)) := Lib.hid (by
    have h2 : 2 ^ (k % 8) < 2 ^ 8 := Nat.pow_lt_pow_right (by decide) (by omega)
    have h3 : (2 : Int) ^ (k % 8) = ((2 ^ (k % 8) : Nat) : Int) := by simp
    rw [h3]
    generalize 2 ^ (k % 8) = y at *
    omega)
  go_enter Try.func22, Try.ntmps22
  go_wp2
  go_region
  rw [HP.out, HO.out]
  go_end0
  exact ⟨rfl, rfl⟩

/-- An array lies whole in a block. -/
def Lies (w : World) (b : Nat) (vs : List Value) (t : TypeId) : Prop := w.heap[b]? = some (.cells vs.toArray t (0, 0))
theorem Lies.lt {w : World} {b : Nat} {vs : List Value} {t : TypeId} (h : Lies w b vs t) : b < w.heap.size := (Array.getElem?_eq_some_iff.1 h).1
theorem Lies.cell {w : World} {b : Nat} {vs : List Value} {t : TypeId} (h : Lies w b vs t) {i : Nat} {v : Value} (hv : vs[i]? = some v) : w.cell? ⟨b, i, none⟩ = some v := by
  rw [cell_of_row w b i _ _ _ h]; simpa using hv
theorem Lies.frozen {w : World} {b : Nat} {vs : List Value} {t : TypeId} (h : Lies w b vs t) (i : Nat) : w.frozen? ⟨b, i, none⟩ = false := by
  unfold Lies at h
  simp [World.frozen?, h]
theorem Lies.new (w : World) (vs : List Value) (t : TypeId) : Lies (w.alloc (.cells vs.toArray t)) w.heap.size vs t := heap_alloc_new w _
theorem Lies.later {w w' : World} {b B : Nat} {vs : List Value} {t : TypeId} (h : Lies w b vs t) (hb : Below B w w') (hB : b < B) : Lies w' b vs t := (hb.block b hB).trans h
theorem Lies.set {w : World} {b : Nat} {vs : List Value} {t : TypeId} (h : Lies w b vs t) (i : Nat) (v : Value) : Lies (w.setCell ⟨b, i, none⟩ v) b (vs.set i v) t := by
  unfold Lies at *
  simp [World.setCell, Array.getElem?_modify, h]
theorem Lies.apart {w : World} {b : Nat} {vs : List Value} {t : TypeId} (h : Lies w b vs t) {a : Addr} (ha : b ≠ a.block) (v : Value) : Lies (w.setCell a v) b vs t := by
  unfold Lies at *
  rw [Below.heap_setCell _ _ _ _ ha]; exact h
theorem Lies.drew {w : World} {b : Nat} {vs : List Value} {t : TypeId} (h : Lies w b vs t) : Lies w.drew b vs t := h

theorem isAggM : Try.prog.underlying 26 = some (.array 32 5) := by kernel_rfl
theorem infoM32 : (Try.prog.info? 26).map (·.size) = some 32 := by kernel_rfl
theorem cells_set (B : List Nat) (i x : Nat) : (cellsM B).set i (.int .u8 (x : Int)) = cellsM (B.set i x) := by simp [cellsM, List.map_set]

section
variable {ops : Array Oper} {rest : List Oper} {o : Oper} {a : Act} {w : World} {Q : Exit → Act → World → Prop}
theorem wp_loadM (hgd : o.guard = none) (x : Operand) (ho : o.op = .load 26 x) (b : Nat) (hx : a.eval x = .pointer (some ⟨b, 0, none⟩)) {vs : List Value} {t : TypeId} (hL : Lies w b vs t) (hl : vs.length = 32)
    (h : wpList Try.prog ops Q rest (a.put o.dst (.agg vs.toArray)) w) : wpList Try.prog ops Q (o :: rest) a w :=
  wpList_load_row hgd _ x ho b hx t _ _ _ hL isAggM rfl (infoM32.trans (by simp [hl])) h
theorem wp_storeM (hgd : o.guard = none) (x y : Operand) (ho : o.op = .store 26 x y) (b : Nat) (cs : List Value) (hx : a.eval x = .pointer (some ⟨b, 0, none⟩)) (hy : a.eval y = .agg cs.toArray) {vs : List Value} {t : TypeId} (hL : Lies w b vs t) (hl : vs.length = 32) (hc : cs.length = 32) (h1 : ∀ v ∈ cs, v.oneCell' = true)
    (h : wpList Try.prog ops Q rest (a.put o.dst undef) (w.setRow b cs.toArray)) : wpList Try.prog ops Q (o :: rest) a w :=
  wpList_store_row hgd _ x y ho b _ hx hy t _ hL (infoM32.trans (by simp [hc])) (by simp [hl, hc]) (Array.all_eq_true_iff_forall_mem.2 fun v hv => h1 v (by simpa using hv)) h
end
theorem results_cellM {fn : Func} {p : Tmp} (h : fn.results = #[.cell p 26]) {tmps : Array Value} {w : World} {b : Nat} {vs : List Value} {t : TypeId}
    (hp : tmps.getD p undef = .pointer (some ⟨b, 0, none⟩)) (hL : Lies w b vs t) (hl : vs.length = 32) : (results fn tmps).run Try.prog w = .ok (.agg vs.toArray) w :=
  results_cell_row h tmps w b t _ _ _ hp hL isAggM rfl (infoM32.trans (by simp [hl]))
theorem Lies.row {w : World} {b : Nat} {vs : List Value} {t : TypeId} (h : Lies w b vs t) (cs : List Value) : Lies (w.setRow b cs.toArray) b cs t := setRow_heap w b _ _ t _ h
theorem below_row {B b : Nat} {w0 w : World} (hb : Below B w0 w) (hB : B ≤ b) (cs : Array Value) : Below B w0 (w.setRow b cs) :=
  hb.trans ⟨rfl, rfl, rfl, by simp [World.setRow], fun k hk => setRow_other w b k cs (by omega)⟩

def OfFirst (f : Nat → Bool) (w : World) (e : Ending) (w' : World) : Prop := e = .returned (maskV (maskL f)) ∧ Below w.heap.size w w'

/-- The rounds of First: the bits below k are in. -/
def InFirst (w : World) (k : Nat) (wr : World) : Prop :=
  Lies wr (w.heap.size + 1) (cellsM (maskL fun j => decide (j < k))) 26 ∧ Lies wr w.heap.size (cellsM (maskL fun _ => false)) 26 ∧ Below w.heap.size w wr
theorem InFirst.start (w : World) (vs : List Value) (hv : vs = cellsM (maskL fun _ => false)) : InFirst w 0 ((w.alloc (.cells vs.toArray 26)).alloc (.cells vs.toArray 26)) := by
  have e : maskL (fun j => decide (j < 0)) = maskL (fun _ => false) := maskL_congr fun k _ => by simp
  have hB : Below w.heap.size w (w.alloc (.cells vs.toArray 26)) := (Below.refl _ _).alloc (Nat.le_refl _) _
  have hL := Lies.new w vs 26
  refine ⟨?_, ?_, hB.alloc hB.size _⟩
  · rw [e, ← hv]
    have h := Lies.new (w.alloc (.cells vs.toArray 26)) vs 26
    simpa using h
  · rw [← hv]
    exact hL.later ((Below.refl _ _).alloc (Nat.le_refl _) _) (by simp)
theorem InFirst.next {w wr : World} {k : Nat} (h : InFirst w k wr) (hk : k < 256) :
    InFirst w (k + 1) (wr.setCell ⟨w.heap.size + 1, k / 8, none⟩ (.int .u8 (((maskL fun j => decide (j < k)).getD (k / 8) 0 ||| 2 ^ (k % 8) : Nat) : Int))).drew := by
  obtain ⟨h1, h2, h3⟩ := h
  have hs := h1.set (k / 8) (.int .u8 (((maskL fun j => decide (j < k)).getD (k / 8) 0 ||| 2 ^ (k % 8) : Nat) : Int))
  rw [cells_set, mask_or _ _ hk, show maskL (fun j => decide (j < k) || j == k) = maskL (fun j => decide (j < k + 1)) from maskL_congr fun j _ => by rw [Bool.eq_iff_iff]; simp; omega] at hs
  exact ⟨hs.drew, (h2.apart (by simp) _).drew, (h3.setCell (by simp) _).drew⟩

set_option maxRecDepth 100000 in
set_option maxHeartbeats 1000000 in
theorem first_any (n : Int) (w : World) :
    Calls Try.prog 12 #[.int .i64 n] w (OfFirst (fun k => decide ((k : Int) < n)) w) := by
  go_enter Try.func12, Try.ntmps12
  go_wp2
  all_goals
    go_loopw [7] (fun i wr => ∃ k : Nat, k ≤ 256 ∧ ((k : Int) ≤ n ∨ k = 0) ∧ i = .int .i64 k ∧ InFirst w k wr) (fun i _ => 256 - (intOf i).toNat)
    case atStart => exact ⟨0, Nat.zero_le _, .inr rfl, rfl, InFirst.start w _ rfl⟩
    case round =>
      obtain ⟨k, hk, hkn, rfl, hrel⟩ := hrel
      by_cases hlt : (k : Int) < n ∧ k < 256
      · have hd1 : decide ((k : Int) < n) = true := by simp; omega
        have hd2 : decide ((k : Int) < 256) = true := by simp; omega
        have hc := hrel.1.cell (cellsM_at _ (k / 8) (by rw [maskL_len]; omega))
        have hf := hrel.1.frozen (k / 8)
        have hx := mask_byte (fun j => decide (j < k)) (k / 8) (by omega)
        have HN := Lib.hid (hrel.next hlt.2)
        have HA := Lib.hid (add_any (w.heap.size + 1) _ k hlt.2 hx wr hc hf)
        clear hc hf hx hrel
        generalize (maskL fun j => decide (j < k)).getD (k / 8) 0 = x at *
        go_wp2_with fail
        refine HA.out.mono ?_
        rintro e w1 ⟨rfl, rfl⟩
        go_wp2
        go_roundw
        case rel => exact ⟨k + 1, by omega, by omega, by go_num, HN.out⟩
        case measure => simp [intOf]; omega
      · have HF : Hid (maskL (fun j => decide (j < k)) = maskL (fun j => decide ((j : Int) < n))) := Lib.hid (maskL_congr fun j hj => by rw [Bool.eq_iff_iff]; simp; omega)
        first
          | (have hd1 : decide ((k : Int) < 256) = false := by (simp; omega))
          | (have hd1 : decide ((k : Int) < n) = false := by (simp; omega))
        obtain ⟨h1, h2, h3⟩ := hrel
        have l32 : (cellsM (maskL fun j => decide (j < k))).length = 32 := by rw [cellsM_len, maskL_len]
        have l32' : (cellsM (maskL fun _ => false)).length = 32 := by rw [cellsM_len, maskL_len]
        have HL := Lib.hid l32
        have HL' := Lib.hid l32'
        clear l32 l32'
        go_wp2_with (first | (refine wp_loadM rfl _ rfl _ rfl h1 HL.out ?_) | (refine wp_storeM rfl _ _ rfl _ _ rfl rfl h2 HL'.out HL.out (cellsM_one _) ?_))
        have hR := h2.row (cellsM (maskL fun j => decide (j < k)))
        have hB := below_row h3 (Nat.le_refl _) (cellsM (maskL fun j => decide (j < k))).toArray
        refine bodyPost_ret (results_cellM (p := 2) Try.results12 rfl hR HL.out) rfl ⟨?_, hB⟩
        rw [HF.out]; rfl

theorem has_any (B : List Nat) (hB : IsM B) (k : Int) (w : World) :
    Calls Try.prog 14 #[maskV B, .int .i64 k] w fun e w' => e = .returned (.bool (hasI B k)) ∧ Below w.heap.size w w' := by
  by_cases hk : 0 ≤ k ∧ k < 256
  · obtain ⟨n, rfl⟩ := Int.eq_ofNat_of_zero_le hk.1
    have e : hasI B (n : Int) = hasL B n := by unfold hasI; rw [decide_eq_true hk.1, decide_eq_true hk.2]; rfl
    rw [e]
    exact has_in B hB n (by omega) w
  · have e : hasI B k = false := by unfold hasI; rw [Bool.and_eq_false_iff, Bool.and_eq_false_iff]; simp; omega
    rw [e]
    exact has_out B k hk w
theorem rhas_any (B : List Nat) (hB : IsM B) (k : Int) (w : World) :
    Calls Try.prog 15 #[maskV B, .int .i64 k] w fun e w' => e = .returned (.bool (hasI B k)) ∧ Below w.heap.size w w' := by
  by_cases hk : 0 ≤ k ∧ k < 256
  · obtain ⟨n, rfl⟩ := Int.eq_ofNat_of_zero_le hk.1
    have e : hasI B (n : Int) = hasL B n := by unfold hasI; rw [decide_eq_true hk.1, decide_eq_true hk.2]; rfl
    rw [e]
    exact rhas_in B hB n (by omega) w
  · have e : hasI B k = false := by unfold hasI; rw [Bool.and_eq_false_iff, Bool.and_eq_false_iff]; simp; omega
    rw [e]
    exact rhas_out B k hk w

set_option maxRecDepth 100000 in
set_option maxHeartbeats 1000000 in
theorem count_any (B : List Nat) (hB : IsM B) (w : World) :
    Calls Try.prog 16 #[maskV B] w fun e w' => e = .returned (.int .i64 ((cntL B 256 : Nat) : Int)) ∧ Below w.heap.size w w' := by
  have HL : Hid ((cellsM B).length = 32) := Lib.hid (by rw [cellsM_len, hB.len])
  have HLi := Lies.new w (cellsM B) 26
  have HB0 : Below w.heap.size w (w.alloc (.cells (cellsM B).toArray 26)) := (Below.refl _ _).alloc (Nat.le_refl _) _
  unfold maskV
  go_enter Try.func16, Try.ntmps16
  go_wp2
  go_loopw [3, 5] (fun c i wr => ∃ k n : Nat, k ≤ 256 ∧ n ≤ k ∧ i = .int .i64 k ∧ c = .int .i64 n ∧ n = cntL B k ∧ Lies wr w.heap.size (cellsM B) 26 ∧ Below w.heap.size w wr) (fun _ i _ => 256 - (intOf i).toNat)
  case atStart => exact ⟨0, 0, Nat.zero_le _, Nat.le_refl _, rfl, rfl, rfl, HLi, HB0⟩
  case round =>
    obtain ⟨k, n, hk, hn, rfl, rfl, hnk, h1, h2⟩ := hrel
    by_cases hlt : k < 256
    · have hd : decide ((k : Int) < 256) = true := by simp; omega
      have HS := Lib.hid (cnt_succ B k)
      have HN := Lib.hid hnk
      clear hnk
      have HA : Hid (Calls Try.prog 14 #[.agg (cellsM B).toArray, .int .i64 (k : Int)] wr fun e w' => e = .returned (.bool (hasL B k)) ∧ Below wr.heap.size wr w') := Lib.hid (has_in B hB k hlt wr)
      cases hh : hasL B k
      all_goals
        rw [hh] at HA HS
        clear hh
        go_wp2_with (refine wp_loadM rfl _ rfl _ rfl h1 HL.out ?_)
        refine HA.out.mono ?_
        rintro e w1 ⟨rfl, hb1⟩
        have HL1 := Lib.hid (h1.later hb1 h1.lt)
        have HB1 := Lib.hid (h2.trans (hb1.mono h2.size))
        clear hb1
        go_wp2
        go_roundw
        case rel =>
          have hm := HS.out
          rw [← HN.out] at hm
          simp at hm
          refine ⟨k + 1, cntL B (k + 1), by omega, by omega, by go_num, ?_, rfl, HL1.out, HB1.out⟩
          first | (rw [hm]; done) | (rw [hm]; go_num)
        case measure => simp [intOf]; omega
    · obtain rfl : k = 256 := by omega
      have HN := Lib.hid hnk
      clear hnk
      go_wp2
      go_ret
      rw [← HN.out]
      exact ⟨rfl, h2⟩
end Go.Proofs.Ytamdhljoamggeaa
