/- option.sized, option.Number, option.Bytes, and the document's own. -/
import Derived.Test.YtmlckjccgdmknaaOptE
import Derived.Laws.BitsAllLaws
import Derived.Laws.BitsLemmas
namespace Go.Proofs.Ytmlckjccgdmknaa
open Go.RowKit

def sizedB (n : Int) : Bool := n == 1 || n == 2 || n == 4
theorem sized_any (n : Int) (w : World) : Calls Try.prog 52 #[.int .i64 n] w fun e w' => e = .returned (.bool (sizedB n)) ∧ w = w' := by
  unfold sizedB
  cases h1 : (n == 1)
  · cases h2 : (n == 2)
    · go_enter Try.func52, Try.ntmps52
      go_wp2
      go_ret
      exact ⟨by simp, rfl⟩
    · go_enter Try.func52, Try.ntmps52
      go_wp2
      go_ret
      exact ⟨by simp, rfl⟩
  · go_enter Try.func52, Try.ntmps52
    go_wp2
    go_ret
    exact ⟨by simp, rfl⟩

/-- The number that bytes stand for. -/
def numL (l : List UInt8) : Nat := l.foldl (fun n c => n * 256 + c.toNat) 0
theorem numL_snoc (l : List UInt8) (c : UInt8) : numL (l ++ [c]) = numL l * 256 + c.toNat := by simp [numL]
theorem numL_lt (l : List UInt8) : numL l < 256 ^ l.length := by
  rw [← l.reverse_reverse]
  generalize l.reverse = r
  induction r with
  | nil => simp [numL]
  | cons x r ih =>
    rw [List.reverse_cons, numL_snoc, List.length_append, List.length_singleton, Nat.pow_succ]
    have := x.toNat_lt
    omega

/-- A number and an error's number. -/
def numR (l : List UInt8) : Int × Int := if sizedB l.length then (((numL l : Nat) : Int), 0) else (0, 2)

theorem or_nat (m x : Nat) (hx : x < 256) : (m * 256) ||| x = m * 256 + x := by
  have h := Nat.shiftLeft_add_eq_or_of_lt (i := 8) (b := x) (by omega) m
  rw [Nat.shiftLeft_eq] at h
  exact h.symm
theorem or_i64 (m x : Nat) (hm : m < 16777216) (hx : x < 256) : bits .or .i64 ((m : Int) * 256) (x : Int) = ((m * 256 + x : Nat) : Int) := by
  show IntKind.i64.wrap ((BitVec.ofInt 64 ((m : Int) * 256) ||| BitVec.ofInt 64 (x : Int)).toNat : Int) = _
  have e1 : (BitVec.ofInt 64 ((m : Int) * 256)).toNat = m * 256 := by
    rw [show ((m : Int) * 256) = ((m * 256 : Nat) : Int) by omega, BitVec.ofInt_natCast, BitVec.toNat_ofNat]
    exact Nat.mod_eq_of_lt (by omega)
  have e2 : (BitVec.ofInt 64 (x : Int)).toNat = x := by
    rw [BitVec.ofInt_natCast, BitVec.toNat_ofNat]
    exact Nat.mod_eq_of_lt (by omega)
  rw [BitVec.toNat_or, e1, e2, or_nat m x hx, IntKind.wrap_i64]
  omega

set_option maxRecDepth 100000 in
set_option maxHeartbeats 1000000 in
theorem number_any (A : Option Addr) (c : Nat) (l : List UInt8) (w : World) (h : By w w.heap.size A l) (hl : l.length ≤ 1000) :
    Calls Try.prog 50 #[.slice A l.length c] w fun e w' => e = .returned (.tuple #[.int .i64 (numR l).1, .int .i64 (numR l).2]) ∧ w = w' := by
  have HS := Lib.hid (fun W => sized_any (l.length : Int) W)
  cases hz : sizedB (l.length : Int)
  · rw [hz] at HS
    have HR := Lib.hid (show numR l = (0, 2) by unfold numR; rw [hz]; rfl)
    clear hz
    go_enter Try.func50, Try.ntmps50
    go_wp2_with (go_at_call 52; refine (HS.out _).mono ?_; rintro e w' ⟨rfl, rfl⟩)
    go_ret2
    rw [HR.out]
    exact ⟨rfl, rfl⟩
  · rw [hz] at HS
    have HR := Lib.hid (show numR l = (((numL l : Nat) : Int), 0) by unfold numR; rw [hz]; rfl)
    have hl4 : l.length ≤ 4 := by simp [sizedB] at hz; omega
    clear hz
    go_enter Try.func50, Try.ntmps50
    go_wp2_with (go_at_call 52; refine (HS.out _).mono ?_; rintro e w' ⟨rfl, rfl⟩)
    go_loop [4, 13] (fun n i => ∃ k m : Nat, k ≤ l.length ∧ i = .int .i64 k ∧ n = .int .i64 (m : Int) ∧ m = numL (l.take k)) (fun _ i => l.length - (intOf i).toNat)
    case atStart => exact ⟨0, 0, Nat.zero_le _, rfl, rfl, rfl⟩
    case round =>
      obtain ⟨k, m, hk, rfl, rfl, hm⟩ := hrel
      have HM := Lib.hid hm
      have hml : m < 256 ^ k := by rw [hm]; have := numL_lt (l.take k); rwa [List.length_take, Nat.min_eq_left hk] at this
      clear hm
      by_cases hlt : k < l.length
      · obtain ⟨x, hx⟩ : ∃ x, l[k]? = some x := ⟨_, List.getElem?_eq_getElem hlt⟩
        obtain ⟨b, o, rfl, hb, hc⟩ := h.at_ k x hx
        have hml2 : m < 16777216 := Nat.lt_of_lt_of_le hml (Nat.pow_le_pow_right (by omega) (show k ≤ 3 by omega))
        have hxx := x.toNat_lt
        go_wp2
        rw [or_i64 m x.toNat hml2 hxx]
        go_round
        case rel => exact ⟨k + 1, m * 256 + x.toNat, by omega, by go_num, rfl, by rw [take_snoc_of l k x hx, numL_snoc, ← HM.out]⟩
        case measure => simp [intOf]; omega
      · go_wp2
        go_ret2
        rw [HR.out, HM.out, List.take_of_length_le (by omega)]
        exact ⟨rfl, rfl⟩

/-- The bytes of a number, the greatest first. -/
def beL (n m : Nat) : List UInt8 := (List.range m).map fun i => UInt8.ofNat (n / 256 ^ (m - 1 - i))
def bytR (n many : Int) : List UInt8 × Int := if sizedB many && decide (0 ≤ n) && decide (n < 256 ^ many.toNat) then (beL n.toNat many.toNat, 0) else ([], 1)

theorem run_makeF (s : Nat) (hs : s ≤ 1048576) (W : World) : (Instr.makeSlice 24 (.int .i64 (s : Int)) (.int .i64 (s : Int))).run Try.prog W = .ok (.slice (some ⟨W.heap.size, 0, none⟩) s s) (W.alloc (.cells (madeCells #[.int .u8 0] s) 5)) := by
  obtain ⟨i, hi, hz0, hz1, hz2⟩ := info_parts Try.infoB
  have h := run_make (P := Try.prog) W 24 5 i (.int .u8 0) Try.underlying24 hi hz0 .i64 .i64 (s : Int) (s : Int) (by omega) (by omega) (by rw [hz2]; omega) (by omega)
  rw [hz1] at h
  simp only [Int.toNat_natCast, Nat.mul_one] at h
  exact h
theorem madeF_own (W : World) (B s : Nat) (hB : B ≤ W.heap.size) (hs : s ≤ 1048576) : (W.alloc (.cells (madeCells #[.int .u8 0] s) 5)).ownsRow B 5 1 (.slice (some ⟨W.heap.size, 0, none⟩) s s) s (bcells (List.replicate s 0)) := by
  have h := World.ownsRow_lit (base := B) (e := 5) (size := 1) W (madeCells #[.int .u8 0] s) s hB (by unfold maxLen; omega) (by rw [size_madeCells]; omega)
  rw [toList_madeCells_one] at h
  have e : bV 0 = .int .u8 0 := rfl
  simp only [bcells, List.map_replicate, e]
  exact h

theorem be_at (n m k : Nat) (hk : k < m) : (beL n m)[k]? = some (UInt8.ofNat (n / 256 ^ (m - 1 - k))) := by simp [beL, hk]
theorem beL_length (n m : Nat) : (beL n m).length = m := by simp [beL]
/-- The first k bytes are there. -/
def part (n m k : Nat) : List UInt8 := (beL n m).take k ++ List.replicate (m - k) 0
theorem part_length (n m k : Nat) (hk : k ≤ m) : (part n m k).length = m := by simp [part, beL_length]; omega
theorem part_zero (n m : Nat) : part n m 0 = List.replicate m 0 := by simp [part]
theorem part_all (n m : Nat) : part n m m = beL n m := by simp [part, List.take_of_length_le, beL_length]
theorem part_set (n m k : Nat) (hk : k < m) : (part n m k).set k (UInt8.ofNat (n / 256 ^ (m - 1 - k))) = part n m (k + 1) := by
  unfold part
  rw [take_snoc_of _ _ _ (be_at n m k hk), List.set_append_right _ _ (by simp [beL_length]; omega), show m - k = (m - (k + 1)) + 1 by omega, List.replicate_succ]
  simp [beL_length, Nat.min_eq_left (Nat.le_of_lt hk)]
theorem bcells_set (l : List UInt8) (k : Nat) (x : UInt8) : (bcells l).set k (bV x) = bcells (l.set k x) := by simp [bcells, List.map_set]
theorem byte_at (n j : Nat) : (n : Int) / 2 ^ (8 * j) % 256 = ((UInt8.ofNat (n / 256 ^ j)).toNat : Int) := by
  rw [UInt8.toNat_ofNat', show (256 : Nat) ^ j = 2 ^ (8 * j) by rw [Nat.pow_mul]]
  have : (n : Int) / 2 ^ (8 * j) % 256 = ((n / 2 ^ (8 * j) % 256 : Nat) : Int) := by rw [Int.natCast_emod, Int.natCast_ediv, Int.natCast_pow]; rfl
  rw [this]
theorem u8_of (n : Nat) : IntKind.u8.wrap (n : Int) = ((UInt8.ofNat n).toNat : Int) := by
  rw [UInt8.toNat_ofNat']
  simp [IntKind.wrap, IntKind.bits, IntKind.signed]

set_option maxRecDepth 100000 in
set_option maxHeartbeats 1000000 in
theorem bytes_ok (n m : Nat) (hm : m ≤ 4) (hs : sizedB (m : Int) = true) (hn : n < 256 ^ m) (w : World) :
    Calls Try.prog 43 #[.int .i64 (n : Int), .int .i64 (m : Int)] w (GivesB w (beL n m) 0) := by
  have HS := Lib.hid (fun W => sized_any (m : Int) W)
  rw [hs] at HS
  clear hs
  have hp : (256 : Nat) ^ m = 2 ^ (8 * m) := by rw [Nat.pow_mul]
  have hd0 : decide ((n : Int) < 0) = false := by simp
  have hd1 : ((n : Int) / 2 ^ (8 * m) != 0) = false := by
    have : n / 2 ^ (8 * m) = 0 := Nat.div_eq_of_lt (by rw [← hp]; exact hn)
    have h2 : (n : Int) / 2 ^ (8 * m) = 0 := by exact_mod_cast this
    simp [h2]
  have HN := Lib.hid hn
  have hmk := run_makeF m (by omega)
  clear hp hn
  go_enter Try.func43, Try.ntmps43
  go_wp2_with (go_at_call 52; refine (HS.out _).mono ?_; rintro e w' ⟨rfl, rfl⟩)
  clear hmk hd1
  have hown0 := madeF_own w w.heap.size m (Nat.le_refl _) (by omega)
  have hB0 : Below w.heap.size w (w.alloc (.cells (madeCells #[.int .u8 0] m) 5)) := (Below.refl _ _).alloc (Nat.le_refl _) _
  go_loopw [26] (fun i wr => ∃ k : Nat, k ≤ m ∧ i = .int .i64 k ∧ wr.ownsRow w.heap.size 5 1 (.slice (some ⟨w.heap.size, 0, none⟩) m m) m (bcells (part n m k)) ∧ Below w.heap.size w wr) (fun i _ => m - (intOf i).toNat)
  case atStart => exact ⟨0, Nat.zero_le _, rfl, by rw [part_zero]; exact hown0, hB0⟩
  case round =>
    obtain ⟨k, hk, rfl, hown, hB⟩ := hrel
    by_cases hlt : k < m
    · have hcell := hown.cellAt k (by omega)
      obtain ⟨y, hy⟩ : ∃ y, (bcells (part n m k))[k]? = some y := ⟨_, List.getElem?_eq_getElem (by rw [bcells_length, part_length _ _ _ hk]; exact hlt)⟩
      rw [hy] at hcell
      have hfr := hown.frozenAt k
      clear hy
      go_wp2
      rw [byte_at]
      have hst := hown.stored k (bV (UInt8.ofNat (n / 256 ^ (m - 1 - k))))
      rw [bcells_set, part_set n m k hlt] at hst
      go_roundw
      case rel => exact ⟨k + 1, by omega, by go_num, hst.1, own_below hB hB.size hown hst.2⟩
      case measure => simp [intOf]; omega
    · obtain rfl : k = m := by omega
      rw [part_all] at hown
      have hby := By.of_own hown
      go_wp2
      go_ret2
      exact ⟨some ⟨w.heap.size, 0, none⟩, k, by rw [beL_length]; rfl, hby, by rw [beL_length]; exact Nat.le_refl _, hB⟩

theorem bytR_bad_many {n many : Int} (h : sizedB many = false) : bytR n many = ([], 1) := by simp [bytR, h]
theorem bytR_neg {n many : Int} (h : n < 0) : bytR n many = ([], 1) := by
  unfold bytR
  rw [if_neg]
  simp
  omega
theorem lt_pow (n m : Nat) : decide ((n : Int) < 256 ^ (m : Int).toNat) = decide (n < 256 ^ m) := by
  rw [Int.toNat_natCast, show (256 : Int) ^ m = ((256 ^ m : Nat) : Int) by rw [Int.natCast_pow]; rfl]
  exact decide_eq_decide.2 Int.ofNat_lt
theorem bytR_big {n m : Nat} (h : 256 ^ m ≤ n) : bytR n m = ([], 1) := by
  unfold bytR
  rw [lt_pow, decide_eq_false (Nat.not_lt.2 h), Bool.and_false]
  rfl
theorem bytR_ok {n m : Nat} (hs : sizedB (m : Int) = true) (h : n < 256 ^ m) : bytR n m = (beL n m, 0) := by
  unfold bytR
  rw [lt_pow, decide_eq_true h, hs, decide_eq_true (Int.natCast_nonneg n), Int.toNat_natCast, Int.toNat_natCast]
  rfl

set_option maxRecDepth 100000 in
set_option maxHeartbeats 1000000 in
theorem bytes_any (n many : Int) (w : World) :
    Calls Try.prog 43 #[.int .i64 n, .int .i64 many] w (GivesB w (bytR n many).1 (bytR n many).2) := by
  cases hs : sizedB many
  · have HS := Lib.hid (fun W => sized_any many W)
    rw [hs] at HS
    have HR := Lib.hid (bytR_bad_many (n := n) hs)
    clear hs
    go_enter Try.func43, Try.ntmps43
    go_wp2_with (go_at_call 52; refine (HS.out _).mono ?_; rintro e w' ⟨rfl, rfl⟩)
    go_ret2
    rw [HR.out]
    exact ⟨none, 0, rfl, By.nil, Nat.le_refl _, Below.refl _ _⟩
  · obtain ⟨m, rfl⟩ : ∃ m : Nat, many = m := ⟨many.toNat, by simp [sizedB] at hs; omega⟩
    have hm4 : m ≤ 4 := by simp [sizedB] at hs; omega
    by_cases hn : n < 0
    · have HS := Lib.hid (fun W => sized_any (m : Int) W)
      rw [hs] at HS
      have HR := Lib.hid (bytR_neg (many := m) hn)
      have hd : decide (n < 0) = true := by simpa using hn
      clear hs
      go_enter Try.func43, Try.ntmps43
      go_wp2_with (go_at_call 52; refine (HS.out _).mono ?_; rintro e w' ⟨rfl, rfl⟩)
      go_ret2
      rw [HR.out]
      exact ⟨none, 0, rfl, By.nil, Nat.le_refl _, Below.refl _ _⟩
    · obtain ⟨q, rfl⟩ : ∃ q : Nat, n = q := ⟨n.toNat, by omega⟩
      by_cases hb : q < 256 ^ m
      · rw [bytR_ok hs hb]
        exact bytes_ok q m hm4 hs hb w
      · have HS := Lib.hid (fun W => sized_any (m : Int) W)
        rw [hs] at HS
        have HR := Lib.hid (bytR_big (n := q) (m := m) (by omega))
        have hd0 : decide ((q : Int) < 0) = false := by simp
        have hd1 : ((q : Int) / 2 ^ (8 * m) != 0) = true := by
          have h1 : 0 < q / 2 ^ (8 * m) := Nat.div_pos (by rw [Nat.pow_mul]; exact Nat.le_of_not_lt hb) (Nat.pow_pos (by omega))
          have h2 : (q : Int) / 2 ^ (8 * m) = ((q / 2 ^ (8 * m) : Nat) : Int) := by rw [Int.natCast_ediv, Int.natCast_pow]; rfl
          rw [h2]
          simp
          omega
        clear hs hb hn
        go_enter Try.func43, Try.ntmps43
        go_wp2_with (go_at_call 52; refine (HS.out _).mono ?_; rintro e w' ⟨rfl, rfl⟩)
        go_ret2
        rw [HR.out]
        exact ⟨none, 0, rfl, By.nil, Nat.le_refl _, Below.refl _ _⟩
end Go.Proofs.Ytmlckjccgdmknaa
