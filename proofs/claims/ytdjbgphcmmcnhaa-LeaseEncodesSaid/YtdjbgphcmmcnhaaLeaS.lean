/- The lease's and the document's small functions: Bare, Over, time; put, take. -/
import Derived.Test.YtdjbgphcmmcnhaaLeaM
import Derived.BigQuiet
import Derived.Deep.QuietTactic
import Derived.Lib.AppendStr
import Derived.Deep.DeepCutAuto
namespace Go.Proofs.Ytdjbgphcmmcnhaa
open Go.RowKit Go.Sort

theorem over_any (m : LV) (w : World) : Calls Try.prog 12 #[m.v] w fun e w' => e = .returned (.int .i64 (overL m)) ∧ Below w.heap.size w w' := by
  have hB : Below w.heap.size w (w.alloc (lbox m)) := (Below.refl _ _).alloc (Nat.le_refl _) _
  have HX := LBox.new w m
  have c3 := HX.c3
  have c5 := HX.c5
  clear HX
  go_enter Try.func12, Try.ntmps12
  go_wp2
  all_goals
    go_ret
    refine ⟨?_, hB⟩
    show Ending.returned (.int .i64 _) = _
    congr 2
    unfold overL
    split <;> omega
theorem rover_any (m : LV) (w : World) : Calls Try.prog 13 #[m.v] w fun e w' => e = .returned (.int .i64 (overL m)) ∧ Below w.heap.size w w' := by
  have hB : Below w.heap.size w (w.alloc (lbox m)) := (Below.refl _ _).alloc (Nat.le_refl _) _
  have HX := LBox.new w m
  have c3 := HX.c3
  have c5 := HX.c5
  clear HX
  go_enter Try.func13, Try.ntmps13
  go_wp2
  all_goals
    go_ret
    refine ⟨?_, hB⟩
    show Ending.returned (.int .i64 _) = _
    congr 2
    unfold overL
    split <;> omega

theorem time_any (n : Int) (W : World) : Calls Try.prog 21 #[.int .i64 n] W fun e w' => e = .returned (.bool (decide (TimeL n))) ∧ W = w' := by
  unfold TimeL
  by_cases h : 0 ≤ n
  · have hd : decide (0 ≤ n) = true := decide_eq_true h
    go_enter Try.func21, Try.ntmps21
    go_wp2
    go_ret
    exact ⟨by simp [h], rfl⟩
  · have hd : decide (0 ≤ n) = false := decide_eq_false h
    have h' := Lib.hid h
    clear h
    go_enter Try.func21, Try.ntmps21
    go_wp2
    go_ret
    have h2 := h'.out
    rw [decide_eq_false (fun h : 0 ≤ n ∧ n ≤ 1099511627776 => absurd h.1 (by omega))]
    exact ⟨rfl, rfl⟩

theorem bare_end {w W : World} {g : Nat} {q : LV} {t : Array Value} (hz : LBox W g zeroL) (hB : Below w.heap.size w W) (hg : w.heap.size ≤ g) (h2 : t[6]?.getD undef = .pointer (some ⟨g, 0, none⟩)) :
    bodyPost Try.prog Try.f16 (fun e w' => e = .returned q.v ∧ Below w.heap.size w w') .ret { tmps := t, defers := [] } (storeL W g q) := by
  refine bodyPost_ret (v := q.v) ?_ ?_ ?_
  · obtain ⟨r0, r1, r2, r3, r4, r5, r6, r7⟩ := (storeL_box hz q).all
    simp [results, Try.f16, go_sem, h2, r0, r1, r2, r3, r4, r5, r6, r7]
  · rfl
  · exact ⟨rfl, hB.trans (storeL_low W _ g hg q)⟩
theorem rbare_end {w W : World} {g : Nat} {q : LV} {t : Array Value} (hz : LBox W g zeroL) (hB : Below w.heap.size w W) (hg : w.heap.size ≤ g) (h2 : t[6]?.getD undef = .pointer (some ⟨g, 0, none⟩)) :
    bodyPost Try.prog Try.f17 (fun e w' => e = .returned q.v ∧ Below w.heap.size w w') .ret { tmps := t, defers := [] } (storeL W g q) := by
  refine bodyPost_ret (v := q.v) ?_ ?_ ?_
  · obtain ⟨r0, r1, r2, r3, r4, r5, r6, r7⟩ := (storeL_box hz q).all
    simp [results, Try.f17, go_sem, h2, r0, r1, r2, r3, r4, r5, r6, r7]
  · rfl
  · exact ⟨rfl, hB.trans (storeL_low W _ g hg q)⟩

set_option maxRecDepth 100000 in
set_option maxHeartbeats 1000000 in
theorem bare_any (a : Nat) (b v : Int) (w : World) : Calls Try.prog 16 #[.int .u32 (a : Int), .int .i64 b, .int .i64 v] w fun e w' => e = .returned (bareL a b v).v ∧ Below w.heap.size w w' := by
  obtain ⟨w0, hw0⟩ : ∃ w0, w0 = w.alloc (.cells #[.int .u32 0, .int .i64 0, .string ⟨#[]⟩, .int .i64 0, .int .i64 0, .int .i64 0, .int .i64 0, .int .i64 0] 25) := ⟨_, rfl⟩
  have HZ : Hid (LBox w0 w.heap.size zeroL) := Lib.hid (by rw [hw0]; exact LBox.new w zeroL)
  have HB0 : Hid (Below w.heap.size w w0) := Lib.hid (by rw [hw0]; exact (Below.refl _ _).alloc (Nat.le_refl _) _)
  have HW0 := Lib.hid hw0
  clear hw0
  obtain ⟨z0, z1, z2, z3, z4, z5, z6, z7⟩ := HZ.out.all
  obtain ⟨f0, f1, f2, f3, f4, f5, f6, f7⟩ := HZ.out.allF
  go_enter Try.func16, Try.ntmps16
  go_upto_region 1 with fail
  rw [← HW0.out]
  go_wp2
  exact bare_end (q := bareL a b v) (W := w0) HZ.out HB0.out (Nat.le_refl _) rfl
set_option maxRecDepth 100000 in
set_option maxHeartbeats 1000000 in
theorem rbare_any (a : Nat) (b v : Int) (w : World) : Calls Try.prog 17 #[.int .u32 (a : Int), .int .i64 b, .int .i64 v] w fun e w' => e = .returned (bareL a b v).v ∧ Below w.heap.size w w' := by
  obtain ⟨w0, hw0⟩ : ∃ w0, w0 = w.alloc (.cells #[.int .u32 0, .int .i64 0, .string ⟨#[]⟩, .int .i64 0, .int .i64 0, .int .i64 0, .int .i64 0, .int .i64 0] 25) := ⟨_, rfl⟩
  have HZ : Hid (LBox w0 w.heap.size zeroL) := Lib.hid (by rw [hw0]; exact LBox.new w zeroL)
  have HB0 : Hid (Below w.heap.size w w0) := Lib.hid (by rw [hw0]; exact (Below.refl _ _).alloc (Nat.le_refl _) _)
  have HW0 := Lib.hid hw0
  clear hw0
  obtain ⟨z0, z1, z2, z3, z4, z5, z6, z7⟩ := HZ.out.all
  obtain ⟨f0, f1, f2, f3, f4, f5, f6, f7⟩ := HZ.out.allF
  go_enter Try.func17, Try.ntmps17
  go_upto_region 1 with fail
  rw [← HW0.out]
  go_wp2
  exact rbare_end (q := bareL a b v) (W := w0) HZ.out HB0.out (Nat.le_refl _) rfl

set_option maxRecDepth 100000 in
set_option maxHeartbeats 1000000 in
theorem put_any (w0 : World) (A : Option Addr) (c : Nat) (l : List UInt8) (x size : Nat) (hs : size ≤ 6) (hl : l.length ≤ 1000) (w : World) (h : Row w0 w (.slice A l.length c) l) :
    Calls Try.prog 18 #[.slice A l.length c, .int .i64 (x : Int), .int .i64 (size : Int)] w fun e w' => ∃ A' c' l', e = .returned (.slice A' l'.length c') ∧ Hid (l' = l ++ beL x size) ∧ Row w0 w' (.slice A' l'.length c') l' ∧ l'.length ≤ c' := by
  have HR := Lib.hid h
  clear h
  go_enter Try.func18, Try.ntmps18
  go_wp2
  go_loopw [0, 7, 9] (fun b t i wr => ∃ (j : Nat) (A' : Option Addr) (c' : Nat) (d : List UInt8), j ≤ size ∧ i = .int .i64 j ∧ b = .slice A' d.length c' ∧ Hid (d = l ++ (beL x size).take j) ∧ Hid (Row w0 wr (.slice A' d.length c') d)) (fun _ _ i _ => size - (intOf i).toNat)
  case atStart => exact ⟨0, A, c, l, Nat.zero_le _, rfl, rfl, Lib.hid (by simp), HR⟩
  case round =>
    obtain ⟨j, A', c', d, hj, rfl, rfl, HD, HV⟩ := hrel
    clear HR
    have hdn : d.length = l.length + j := by rw [HD.out, List.length_append, List.length_take, beL_length]; omega
    by_cases hlt : j < size
    · obtain ⟨i, hi⟩ : ∃ i, i = size - 1 - j := ⟨_, rfl⟩
      obtain ⟨q, hq⟩ : ∃ q, q = 8 * i := ⟨_, rfl⟩
      have e1 : IntKind.i64.wrap ((size : Int) - 1) = (size : Int) - 1 := by rw [IntKind.wrap_i64]; omega
      have e2 : IntKind.i64.wrap ((size : Int) - 1 - (j : Int)) = (i : Int) := by rw [IntKind.wrap_i64]; omega
      have e3 : IntKind.i64.wrap (8 * (i : Int)) = (q : Int) := by rw [IntKind.wrap_i64]; omega
      have q0 : (0 : Int) ≤ (q : Int) := by omega
      have q1 : (q : Int) ≤ 64 := by omega
      have hbyte : (x : Int) / 2 ^ q % 256 = ((UInt8.ofNat (x / 256 ^ i)).toNat : Int) := by rw [hq, byte_at]
      have hby := By.new wr [UInt8.ofNat (x / 256 ^ i)] 5
      simp only [bcells, List.map_cons, List.map_nil, bV, ← hbyte] at hby
      have hlen2 : d.length + [UInt8.ofNat (x / 256 ^ i)].length ≤ 140737488355328 := by rw [List.length_singleton]; omega
      have HNX : Hid (l ++ (beL x size).take (j + 1) = d ++ [UInt8.ofNat (x / 256 ^ i)]) := Lib.hid (by rw [take_snoc_of _ _ _ (be_at x size j hlt), HD.out, hi, List.append_assoc])
      have HBY := Lib.hid hby
      have HL := Lib.hid hlen2
      have HQ := Lib.hid hq
      have HI := Lib.hid hi
      have HDN := Lib.hid hdn
      clear hby hlen2 hq hi hdn hbyte
      go_wp2_with (at_builtin; refine wpList_row rfl (.tmp 12) (.tmp 21) rfl rfl (HV.out.alloc _) [UInt8.ofNat (x / 256 ^ i)] rfl rfl HBY.out HL.out ?_; intro v1 w1 hR1 hg1; obtain ⟨A1, k1, rfl, hk1, _⟩ := hR1.form)
      go_roundw
      case rel => exact ⟨j + 1, A1, k1, d ++ [UInt8.ofNat (x / 256 ^ i)], by omega, by go_num, by rw [List.length_append]; rfl, Lib.hid HNX.out.symm, Lib.hid hR1⟩
      case measure => simp [intOf]; omega
    · obtain rfl : j = size := by omega
      rw [List.take_of_length_le (by rw [beL_length]; exact Nat.le_refl _)] at HD
      go_wp2
      go_ret
      obtain ⟨A1, k1, e1, hk1, _⟩ := HV.out.form
      injection e1 with e1 e2 e3
      subst e3
      exact ⟨A', c', d, rfl, HD, HV.out, hk1⟩

set_option maxRecDepth 100000 in
set_option maxHeartbeats 1000000 in
theorem take_any (B : Nat) (A : Option Addr) (c : Nat) (l : List UInt8) (size : Nat) (hs : size ≤ 6) (W : World) (h : By W B A l) (hlc : l.length ≤ c) (hsl : size ≤ l.length) :
    Calls Try.prog 22 #[.slice A l.length c, .int .i64 (size : Int)] W fun e W' => ∃ A', e = .returned (.tuple #[.int .i64 ((numL (l.take size) : Nat) : Int), .slice A' (l.length - size) (c - size)]) ∧ (∀ V : World, ∀ B', By V B' A l → By V B' A' (l.drop size)) ∧ ∃ n, W' = W.drewN n := by
  have htail := run_tailB A l.length c (size : Int) (by omega) (by omega)
  simp only [Int.toNat_natCast] at htail
  have hcut : ∀ V : World, ∀ B', By V B' A l → By V B' (if c = size then A else A.map (·.add size)) (l.drop size) := fun V B' h => h.cut hsl hlc
  obtain ⟨A2, hA2⟩ : ∃ A2, A2 = (if c = size then A else A.map (·.add size)) := ⟨_, rfl⟩
  rw [← hA2] at htail hcut
  have HBY := Lib.hid h
  have HCUT := Lib.hid hcut
  clear h hcut hA2
  go_enter Try.func22, Try.ntmps22
  go_wp2
  go_loop [6, 7, 9] (fun nv _ iv => ∃ k m : Nat, k ≤ size ∧ iv = .int .i64 k ∧ nv = .int .i64 (m : Int) ∧ m = numL (l.take k)) (fun _ _ i => size - (intOf i).toNat)
  case atStart => exact ⟨0, 0, Nat.zero_le _, rfl, rfl, rfl⟩
  case round =>
    obtain ⟨k, m, hk, rfl, rfl, hm⟩ := hrel
    have HM := Lib.hid hm
    have hml : m < 256 ^ k := by rw [hm]; have := numL_lt (l.take k); rwa [List.length_take, Nat.min_eq_left (by omega)] at this
    clear hm
    by_cases hlt : k < size
    · obtain ⟨y, hy⟩ : ∃ y, l[k]? = some y := ⟨_, List.getElem?_eq_getElem (by omega)⟩
      obtain ⟨b, o, hA, hbb, hc⟩ := HBY.out.at_ k y hy
      subst hA
      have hml2 : m < 36028797018963968 := Nat.lt_of_lt_of_le hml (Nat.le_trans (Nat.pow_le_pow_right (by omega) (show k ≤ 5 by omega)) (by decide))
      have hyy := y.toNat_lt
      have HY := Lib.hid hy
      clear hy hml
      go_wp2
      rw [or_i64 m y.toNat hml2 hyy]
      go_round
      case rel => exact ⟨k + 1, m * 256 + y.toNat, by omega, by go_num, rfl, by rw [take_snoc_of l k y HY.out, numL_snoc, ← HM.out]⟩
      case measure => simp [intOf]; omega
    · obtain rfl : k = size := by omega
      clear hml
      go_wp2
      go_quiet (fail)
      go_wp2
      go_ret2
      exact ⟨A2, by rw [HM.out]; rfl, HCUT.out, nq, rfl⟩
/-- The same, the number and the bytes that are left under letters. -/
theorem take_let (B : Nat) (A : Option Addr) (c : Nat) (l : List UInt8) (size : Nat) (hs : size ≤ 6) (W : World) (h : By W B A l) (hlc : l.length ≤ c) (hsl : size ≤ l.length) :
    Calls Try.prog 22 #[.slice A l.length c, .int .i64 (size : Int)] W fun e W' => ∃ (A' : Option Addr) (c' : Nat) (d : List UInt8) (k : Nat), e = .returned (.tuple #[.int .i64 (k : Int), .slice A' d.length c']) ∧ Hid (d = l.drop size) ∧ Hid (k = numL (l.take size)) ∧ k < 256 ^ size ∧ d.length ≤ c' ∧ Hid (∀ V : World, ∀ B', By V B' A l → By V B' A' d) ∧ Below W.heap.size W W' := by
  refine (take_any B A c l size hs W h hlc hsl).mono ?_
  rintro e W' ⟨A', rfl, hby, n, rfl⟩
  have hd : (l.drop size).length = l.length - size := List.length_drop
  have hk : numL (l.take size) < 256 ^ size := by have := numL_lt (l.take size); rwa [List.length_take, Nat.min_eq_left hsl] at this
  exact ⟨A', c - size, l.drop size, _, by rw [hd], Lib.hid rfl, Lib.hid rfl, hk, by omega, Lib.hid hby, rfl, rfl, rfl, Nat.le_refl _, fun _ _ => rfl⟩
end Go.Proofs.Ytdjbgphcmmcnhaa
