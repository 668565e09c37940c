/- awake; the laws FsmNexts and FsmTells, walked. -/
import Derived.Test.YtbgkhggohlbdbaaDoorFsmD
namespace Go.Proofs.YtbgkhggohlbdbaaDoor
open Go.RowKit

theorem fawake_any (w : World) (hT : TabF w) : Calls Tryd.prog 8 #[] w fun e w' => e = .returned (.bool true) ∧ Below w.heap.size w w' := by
  have HN := Lib.hid (fun (s e o : Int) V (h : TabF V) => next_any s e o V h)
  have h1 : nextI evN 1 1 0 = 2 := by decide
  have h2 : nextI evN 0 0 3 = 6 := by decide
  have H1 := Lib.hid (HN.out 1 1 0)
  have H2 := Lib.hid (HN.out 0 0 3)
  have H3 := Lib.hid (fun V (h : TabF V) => name_any 1 V h)
  rw [h1] at H1
  rw [h2] at H2
  rw [show nameF 1 = ⟨#[78, 111, 114, 109, 97, 108]⟩ from rfl] at H3
  have HT := Lib.hid hT
  clear HN h1 h2 hT
  go_enter Tryd.func8, Tryd.ntmps8
  go_wp2_with fail
  refine (H1.out _ HT.out).mono ?_
  rintro e w1 ⟨rfl, hb1⟩
  have HB1 := Lib.hid hb1
  have HT1 := Lib.hid (HT.out.next hb1)
  clear hb1
  go_wp2_with fail
  refine (H2.out _ HT1.out).mono ?_
  rintro e w2 ⟨rfl, hb2⟩
  have HB2 := Lib.hid (HB1.out.trans (hb2.mono HB1.out.size))
  have HT2 := Lib.hid (HT1.out.next hb2)
  clear hb2
  go_wp2_with fail
  refine (H3.out _ HT2.out).mono ?_
  rintro e w3 ⟨rfl, rfl⟩
  go_wp2
  go_ret
  exact ⟨rfl, HB2.out⟩

theorem law_nexts (s e o : Int) (w : World) (hT : TabF w) : Calls Tryd.prog 3 #[.int .i64 s, .int .i64 e, .int .i64 o] w fun e' w' => e' = .returned (.bool true) ∧ Below w.heap.size w w' := by
  have HA := Lib.hid (fun V (h : TabF V) => fawake_any V h)
  have H1 := Lib.hid (fun V (h : TabF V) => next_any s e o V h)
  have H2 := Lib.hid (fun V => rnext_any s e o V)
  generalize nextI evN s e o = x at *
  have s1 : (x == x) = true := by simp
  have HT := Lib.hid hT
  clear hT
  go_enter Tryd.func3, Tryd.ntmps3
  go_wp2_with fail
  refine (HA.out _ HT.out).mono ?_
  rintro e w1 ⟨rfl, hb1⟩
  have HB1 := Lib.hid hb1
  have HT1 := Lib.hid (HT.out.next hb1)
  clear hb1
  go_wp2_with fail
  refine (H1.out _ HT1.out).mono ?_
  rintro e w2 ⟨rfl, hb2⟩
  have HB2 := Lib.hid (HB1.out.trans (hb2.mono HB1.out.size))
  clear hb2
  go_wp2_with fail
  refine (H2.out _).mono ?_
  rintro e w3 ⟨rfl, rfl⟩
  go_wp2
  go_ret
  exact ⟨by simp, HB2.out⟩

theorem law_tells (s : Int) (w : World) (hT : TabF w) : Calls Tryd.prog 4 #[.int .i64 s] w fun e' w' => e' = .returned (.bool true) ∧ Below w.heap.size w w' := by
  have HA := Lib.hid (fun V (h : TabF V) => fawake_any V h)
  have H1 := Lib.hid (fun V => serves_any s V)
  have H2 := Lib.hid (fun V => rserves_any s V)
  have H3 := Lib.hid (fun V => restart_any s V)
  have H4 := Lib.hid (fun V => rrestart_any s V)
  have H5 := Lib.hid (fun V (h : TabF V) => name_any s V h)
  have H6 := Lib.hid (fun V => rname_any s V)
  generalize decide (ServesI s) = x at *
  generalize restartI s = y at *
  generalize nameF s = z at *
  have s1 : (x == x) = true := by simp
  have s2 : (y == y) = true := by simp
  have s3 : (z.toList == z.toList) = true := by simp
  have HT := Lib.hid hT
  clear hT
  go_enter Tryd.func4, Tryd.ntmps4
  go_wp2_with fail
  refine (HA.out _ HT.out).mono ?_
  rintro e w1 ⟨rfl, hb1⟩
  have HB1 := Lib.hid hb1
  have HT1 := Lib.hid (HT.out.next hb1)
  clear hb1
  go_wp2_with fail
  refine (H1.out _).mono ?_
  rintro e w3 ⟨rfl, rfl⟩
  go_wp2_with fail
  refine (H2.out _).mono ?_
  rintro e w3 ⟨rfl, rfl⟩
  go_wp2_with fail
  refine (H3.out _).mono ?_
  rintro e w3 ⟨rfl, rfl⟩
  go_wp2_with fail
  refine (H4.out _).mono ?_
  rintro e w3 ⟨rfl, rfl⟩
  go_wp2_with fail
  refine (H5.out _ HT1.out).mono ?_
  rintro e w3 ⟨rfl, rfl⟩
  go_wp2_with fail
  refine (H6.out _).mono ?_
  rintro e w3 ⟨rfl, rfl⟩
  go_wp2
  go_ret
  exact ⟨by simp, HB1.out⟩
end Go.Proofs.YtbgkhggohlbdbaaDoor
