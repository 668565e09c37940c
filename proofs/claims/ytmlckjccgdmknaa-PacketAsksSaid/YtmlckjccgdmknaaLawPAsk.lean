/- The law PacketAsks. -/
import Derived.Test.YtmlckjccgdmknaaPktQ
import Derived.Test.YtmlckjccgdmknaaAskL
import Derived.Test.YtmlckjccgdmknaaRefN
namespace Go.Proofs.Ytmlckjccgdmknaa
open Go.RowKit Go.Sort

theorem PBox.no_u8 {w : World} {g : Nat} {p : PktV} (h : PBox w g p) {k : Nat} {n : Int} (hc : w.cell? ⟨g, k, none⟩ = some (.int .u8 n)) : False := by
  rw [h.at_ k] at hc
  match k, hc with
  | 0, hc => simp at hc
  | 1, hc => simp at hc
  | 2, hc => simp at hc
  | 3, hc => simp at hc
  | 4, hc => simp at hc
  | 5, hc => simp at hc
  | 6, hc => simp at hc
  | 7, hc => simp at hc
  | 8, hc => simp at hc
  | 9, hc => simp at hc
  | k + 10, hc => simp at hc
theorem PBox.no_opt {w : World} {g : Nat} {p : PktV} (h : PBox w g p) {k : Nat} {n : Int} {a : Option Addr} {l c : Nat} (h0 : w.cell? ⟨g, k, none⟩ = some (.int .i64 n)) (h1 : w.cell? ⟨g, k + 1, none⟩ = some (.slice a l c)) : False := by
  rw [h.at_ k] at h0
  rw [h.at_ (k + 1)] at h1
  match k, h0, h1 with
  | 0, _, h1 => simp at h1
  | 1, h0, _ => simp at h0
  | 2, _, h1 => simp at h1
  | 3, _, h1 => simp at h1
  | 4, h0, _ => simp at h0
  | 5, h0, _ => simp at h0
  | 6, h0, _ => simp at h0
  | 7, h0, _ => simp at h0
  | 8, h0, _ => simp at h0
  | 9, h0, _ => simp at h0
  | k + 10, h0, _ => simp at h0

/-- A packet's box with other options. -/
def PktV.with_ (p : PktV) (A : Option Addr) (c : Nat) (L : List OptV) : PktV := { p with opA := A, opC := c, L := L }
section
variable {w : World} {g B : Nat} {p : PktV} {A : Option Addr} {c : Nat} {L : List OptV} {u : Value}
theorem PBox.put (h : PBox w g p) : PBox (w.setCell ⟨g, 9, none⟩ (.slice A L.length c)) g (p.with_ A c L) := by
  have := heap_setCell_same w g 9 _ _ (.slice A L.length c) h
  simpa [PBox, PktV.with_] using this
theorem By.unboxed {A' : Option Addr} {l : List UInt8} (hb : By w B A' l) (h : PBox w g p) : By (w.setCell ⟨g, 9, none⟩ u) B A' l := by
  refine ⟨fun i x hx => ?_⟩
  obtain ⟨b, o, rfl, hlt, hc⟩ := hb.at_ i x hx
  refine ⟨b, o, rfl, hlt, ?_⟩
  have hne : b ≠ g := fun e => by subst e; exact h.no_u8 hc
  exact (World.cell?_of_block (heap_setCell_other w ⟨g, 9, none⟩ b u hne)).trans hc
theorem Op.unboxed {A' : Option Addr} {l : List OptV} (hb : Op w B A' l) (h : PBox w g p) : Op (w.setCell ⟨g, 9, none⟩ u) B A' l := by
  refine ⟨fun i x hx => ?_, fun x hx => (hb.data x hx).unboxed h⟩
  obtain ⟨b, o, rfl, hlt, h1, h2⟩ := hb.at_ i x hx
  have hne : b ≠ g := fun e => by subst e; exact h.no_opt h1 h2
  exact ⟨b, o, rfl, hlt, (World.cell?_of_block (heap_setCell_other w ⟨g, 9, none⟩ b u hne)).trans h1, (World.cell?_of_block (heap_setCell_other w ⟨g, 9, none⟩ b u hne)).trans h2⟩
end

/-- Block g holds three numbers. -/
def XBox (w : World) (g : Nat) (x0 x1 x2 : Int) : Prop := w.heap[g]? = some (.cells #[.int .i64 x0, .int .i64 x1, .int .i64 x2] 42 (0, 0))
section
variable {w w' : World} {g : Nat} {x0 x1 x2 : Int}
theorem XBox.lt (h : XBox w g x0 x1 x2) : g < w.heap.size := (Array.getElem?_eq_some_iff.1 h).1
theorem XBox.later (h : XBox w g x0 x1 x2) (hb : Below w.heap.size w w') : XBox w' g x0 x1 x2 := (hb.block g h.lt).trans h
theorem XBox.c0 (h : XBox w g x0 x1 x2) : w.cell? ⟨g, 0, none⟩ = some (.int .i64 x0) := cell_of_row w g 0 _ _ _ h
theorem XBox.c1 (h : XBox w g x0 x1 x2) : w.cell? ⟨g, 1, none⟩ = some (.int .i64 x1) := cell_of_row w g 1 _ _ _ h
theorem XBox.c2 (h : XBox w g x0 x1 x2) : w.cell? ⟨g, 2, none⟩ = some (.int .i64 x2) := cell_of_row w g 2 _ _ _ h
end

set_option maxRecDepth 100000 in
set_option maxHeartbeats 1000000 in
theorem pasks_early (p : PktV) (x0 x1 x2 : Int) (A0 : Option Addr) (cn : Nat) (name : List UInt8) (w : World) (hp : Pk w w.heap.size p) (hlm : p.L.length ≤ 9223372036854775807) (hdm : ∀ x ∈ p.L, x.data.length ≤ 9223372036854775807) (hhm : p.hw.length ≤ 9223372036854775807)
    (hx0 : x0 < 9223372036854775808) (hx1 : x1 < 9223372036854775808) (hx2 : x2 < 9223372036854775808)
    (hwhy : pfewB p = false ∨ pfewB p = true ∧ (((bytR x0 4).2 != 0) = true ∨ ((bytR x0 4).2 != 0) = false ∧ (((bytR x1 4).2 != 0) = true ∨ ((bytR x1 4).2 != 0) = false ∧ (((bytR x2 1).2 != 0) = true ∨ ((bytR x2 1).2 != 0) = false ∧ decide ((32 : Int) < (name.length : Int)) = true)))) :
    Calls Try.prog 7 #[p.v, .agg #[.int .i64 x0, .int .i64 x1, .int .i64 x2], .slice A0 name.length cn] w fun e w' => e = .returned (.bool true) ∧ Below w.heap.size w w' := by
  obtain ⟨w0, hw0⟩ : ∃ w0, w0 = (w.alloc (pbox p)).alloc (.cells #[.int .i64 x0, .int .i64 x1, .int .i64 x2] 42) := ⟨_, rfl⟩
  have HB0 : Hid (Below w.heap.size w w0) := Lib.hid (by rw [hw0]; exact ((Below.refl _ _).alloc (Nat.le_refl _) _).alloc (by simp) _)
  have HX0 : Hid (PBox w0 w.heap.size p) := Lib.hid (by rw [hw0]; exact (PBox.new w p).later ((Below.refl _ _).alloc (Nat.le_refl _) _))
  have HZ0 : Hid (XBox w0 (w.heap.size + 1) x0 x1 x2) := Lib.hid (by rw [hw0]; have := heap_alloc_new (w.alloc (pbox p)) (.cells #[.int .i64 x0, .int .i64 x1, .int .i64 x2] 42); simp only [World.size_alloc] at this; exact this)
  have HP0 : Hid (Pk w0 w0.heap.size p) := Lib.hid (hp.later HB0.out)
  have HA := Lib.hid (awake_any w0)
  have HF := Lib.hid (fun W (h : Pk W W.heap.size p) => pfew_any p W h hlm hdm hhm)
  have HY0 := Lib.hid (fun W => rbytes_any x0 4 hx0 W)
  have HY1 := Lib.hid (fun W => rbytes_any x1 4 hx1 W)
  have HY2 := Lib.hid (fun W => rbytes_any x2 1 hx2 W)
  have HW := Lib.hid hw0
  clear hp hdm hw0 hx0 hx1 hx2
  rcases hwhy with hfew | ⟨hfew, he | ⟨he, hf | ⟨hf, hg | ⟨hg, hn⟩⟩⟩⟩
  all_goals
    go_enter Try.func7, Try.ntmps7
    go_wp2_with fail
    rw [← HW.out]
    refine HA.out.mono ?_
    rintro e w1 ⟨rfl, hB1⟩
    obtain ⟨c0, c1, c2, c3, c4, c5, c6, c7, c8, c9⟩ := (HX0.out.later hB1).all
    have HB1 := Lib.hid (HB0.out.trans (hB1.mono HB0.out.size))
    go_wp2_with fail
    refine (HF.out w1 (HP0.out.later hB1)).mono ?_
    rintro e w2 ⟨rfl, hw2⟩
    have hB2 : Below w1.heap.size w1 w2 := by rw [hw2]; exact (Below.refl _ _).alloc (Nat.le_refl _) _
    have HZ2 := Lib.hid ((HZ0.out.later hB1).later hB2)
    have HB2 := Lib.hid (HB1.out.trans (hB2.mono HB1.out.size))
    clear hw2 c0 c1 c2 c3 c4 c5 c6 c7 c8 c9 hB1 hB2
    have z0 := HZ2.out.c0
    go_wp2_with fail
    refine (HY0.out _).mono ?_
    rintro e w3 ⟨A3, k3, rfl, _, _, hB3⟩
    have HZ3 := Lib.hid (HZ2.out.later hB3)
    have HB3 := Lib.hid (HB2.out.trans (hB3.mono HB2.out.size))
    clear hB3 z0
    have z1 := HZ3.out.c1
    go_wp2_with fail
    refine (HY1.out _).mono ?_
    rintro e w4 ⟨A4, k4, rfl, _, _, hB4⟩
    have HZ4 := Lib.hid (HZ3.out.later hB4)
    have HB4 := Lib.hid (HB3.out.trans (hB4.mono HB3.out.size))
    clear hB4 z1
    have z2 := HZ4.out.c2
    go_wp2_with fail
    refine (HY2.out _).mono ?_
    rintro e w5 ⟨A5, k5, rfl, _, _, hB5⟩
    have HB5 := Lib.hid (HB4.out.trans (hB5.mono HB4.out.size))
    clear hB5 z2
    go_wp2
    go_ret
    exact ⟨rfl, HB5.out⟩

set_option maxRecDepth 100000 in
set_option maxHeartbeats 1000000 in
theorem pasks_good (p : PktV) (n0 n1 n2 : Nat) (A0 : Option Addr) (cn : Nat) (name : List UInt8) (w : World) (hp : Pk w w.heap.size p) (hlm : p.L.length ≤ 9223372036854775807) (hdm : ∀ x ∈ p.L, x.data.length ≤ 9223372036854775807) (hhm : p.hw.length ≤ 9223372036854775807)
    (h0 : n0 < 256 ^ 4) (h1 : n1 < 256 ^ 4) (h2 : n2 < 256 ^ 1) (hn : name.length ≤ 32) (hname : By w w.heap.size A0 name) (hfew : pfewB p = true) :
    Calls Try.prog 7 #[p.v, .agg #[.int .i64 (n0 : Int), .int .i64 (n1 : Int), .int .i64 (n2 : Int)], .slice A0 name.length cn] w fun e w' => e = .returned (.bool true) ∧ Below w.heap.size w w' := by
  obtain ⟨w0, hw0⟩ : ∃ w0, w0 = (w.alloc (pbox p)).alloc (.cells #[.int .i64 (n0 : Int), .int .i64 (n1 : Int), .int .i64 (n2 : Int)] 42) := ⟨_, rfl⟩
  have HB0 : Hid (Below w.heap.size w w0) := Lib.hid (by rw [hw0]; exact ((Below.refl _ _).alloc (Nat.le_refl _) _).alloc (by simp) _)
  have HX0 : Hid (PBox w0 w.heap.size p) := Lib.hid (by rw [hw0]; exact (PBox.new w p).later ((Below.refl _ _).alloc (Nat.le_refl _) _))
  have HZ0 : Hid (XBox w0 (w.heap.size + 1) n0 n1 n2) := Lib.hid (by rw [hw0]; have := heap_alloc_new (w.alloc (pbox p)) (.cells #[.int .i64 (n0 : Int), .int .i64 (n1 : Int), .int .i64 (n2 : Int)] 42); simp only [World.size_alloc] at this; exact this)
  have HP0 : Hid (Pk w0 w0.heap.size p) := Lib.hid (hp.later HB0.out)
  have HHW : Hid (By w w.heap.size p.hwA p.hw) := Lib.hid hp.hw
  have HNM := Lib.hid hname
  have HA := Lib.hid (awake_any w0)
  have HF := Lib.hid (fun W (h : Pk W W.heap.size p) => pfew_any p W h hlm hdm hhm)
  have HY0 : Hid (∀ W, Calls Try.prog 23 #[.int .i64 (n0 : Int), .int .i64 4] W (GivesB W (beL n0 4) 0)) := Lib.hid (fun W => by
    have h := rbytes_any (n0 : Int) ((4 : Nat) : Int) (by omega) W
    rw [bytR_ok (by decide) h0] at h; exact h)
  have HY1 : Hid (∀ W, Calls Try.prog 23 #[.int .i64 (n1 : Int), .int .i64 4] W (GivesB W (beL n1 4) 0)) := Lib.hid (fun W => by
    have h := rbytes_any (n1 : Int) ((4 : Nat) : Int) (by omega) W
    rw [bytR_ok (by decide) h1] at h; exact h)
  have HY2 : Hid (∀ W, Calls Try.prog 23 #[.int .i64 (n2 : Int), .int .i64 1] W (GivesB W (beL n2 1) 0)) := Lib.hid (fun W => by
    have h := rbytes_any (n2 : Int) ((1 : Nat) : Int) (by omega) W
    rw [bytR_ok (by decide) h2] at h; exact h)
  have hfl : (p.L.length ≤ 100 ∧ ∀ x ∈ p.L, x.data.length ≤ 1000) ∧ p.hw.length < 1000 := by
    simp [pfewB] at hfew
    exact ⟨(few_iff p.L).1 hfew.1, hfew.2⟩
  have HFL := Lib.hid hfl
  have HW := Lib.hid hw0
  have HH0 := Lib.hid h0
  have HH1 := Lib.hid h1
  have HH2 := Lib.hid h2
  rw [hfew] at HF
  have hdn : decide ((32 : Int) < (name.length : Int)) = false := by simp; omega
  clear hp hdm hw0 hname hfl hfew h0 h1 h2
  go_enter Try.func7, Try.ntmps7
  go_wp2_with fail
  rw [← HW.out]
  refine HA.out.mono ?_
  rintro e w1 ⟨rfl, hB1⟩
  have HX1 := Lib.hid (HX0.out.later hB1)
  have HB1 := Lib.hid (HB0.out.trans (hB1.mono HB0.out.size))
  obtain ⟨c0, c1, c2, c3, c4, c5, c6, c7, c8, c9⟩ := HX1.out.all
  go_wp2_with fail
  refine (HF.out w1 (HP0.out.later hB1)).mono ?_
  rintro e w2 ⟨rfl, hw2⟩
  have hB2 : Below w1.heap.size w1 w2 := by rw [hw2]; exact (Below.refl _ _).alloc (Nat.le_refl _) _
  have HX2 := Lib.hid (HX1.out.later hB2)
  have HZ2 := Lib.hid ((HZ0.out.later hB1).later hB2)
  have HP2 := Lib.hid ((HP0.out.later hB1).later hB2)
  have HB2 := Lib.hid (HB1.out.trans (hB2.mono HB1.out.size))
  clear hw2 c0 c1 c2 c3 c4 c5 c6 c7 c8 c9 hB1 hB2
  have z0 := HZ2.out.c0
  go_wp2_with fail
  refine (HY0.out _).mono ?_
  rintro e w3 ⟨A3, k3, rfl, hby3, _, hB3⟩
  have HX3 := Lib.hid (HX2.out.later hB3)
  have HZ3 := Lib.hid (HZ2.out.later hB3)
  have HP3 := Lib.hid (HP2.out.later hB3)
  have HB3 := Lib.hid (HB2.out.trans (hB3.mono HB2.out.size))
  have HD3 := Lib.hid hby3
  clear hB3 z0 hby3
  have z1 := HZ3.out.c1
  go_wp2_with fail
  refine (HY1.out _).mono ?_
  rintro e w4 ⟨A4, k4, rfl, hby4, _, hB4⟩
  have HX4 := Lib.hid (HX3.out.later hB4)
  have HZ4 := Lib.hid (HZ3.out.later hB4)
  have HP4 := Lib.hid (HP3.out.later hB4)
  have HB4 := Lib.hid (HB3.out.trans (hB4.mono HB3.out.size))
  have HD34 := Lib.hid (HD3.out.later hB4)
  have HD4 := Lib.hid hby4
  clear hB4 z1 hby4
  have z2 := HZ4.out.c2
  go_wp2_with fail
  refine (HY2.out _).mono ?_
  rintro e w5 ⟨A5, k5, rfl, hby5, _, hB5⟩
  have HX5 := Lib.hid (HX4.out.later hB5)
  have HZ5 := Lib.hid (HZ4.out.later hB5)
  have HP5 := Lib.hid (HP4.out.later hB5)
  have HB5 := Lib.hid (HB4.out.trans (hB5.mono HB4.out.size))
  have HD35 := Lib.hid (HD34.out.later hB5)
  have HD45 := Lib.hid (HD4.out.later hB5)
  have HD5 := Lib.hid hby5
  clear hB5 z2 hby5
  have c9 := HX5.out.c9
  have HPut1 := Lib.hid (rput_any p.opA A3 p.opC k3 p.L 50 (beL n0 4) w5 HP5.out.opt (Nat.le_trans HFL.out.1.1 (by decide)) HD35.out (by rw [beL_length]; omega))
  go_wp2_with fail
  refine HPut1.out.mono ?_
  rintro e w6 ⟨A6, k6, L6, rfl, hab6, hop6, hB6⟩
  have hl6 : L6.length ≤ 101 := by rw [← absL_length, hab6]; have := putL_length (absL p.L) 50 (beL n0 4); have h := HFL.out.1.1; rw [absL_length] at this; omega
  have HX6 := Lib.hid (HX5.out.later hB6)
  have HZ6 := Lib.hid (HZ5.out.later hB6)
  have HB6 := Lib.hid (HB5.out.trans (hB6.mono HB5.out.size))
  have HD46 := Lib.hid (HD45.out.later hB6)
  have HD56 := Lib.hid (HD5.out.later hB6)
  have HPut2 := Lib.hid (rput_any A6 A4 k6 k4 L6 51 (beL n1 4) w6 hop6 (by omega) HD46.out (by rw [beL_length]; omega))
  rw [hab6] at HPut2
  clear c9 hB6 hop6
  go_wp2_with fail
  refine HPut2.out.mono ?_
  rintro e w7 ⟨A7, k7, L7, rfl, hab7, hop7, hB7⟩
  have hl7 : L7.length ≤ 102 := by rw [← absL_length, hab7, ← hab6]; have := putL_length (absL L6) 51 (beL n1 4); rw [absL_length] at this; omega
  have HX7 := Lib.hid (HX6.out.later hB7)
  have HZ7 := Lib.hid (HZ6.out.later hB7)
  have HB7 := Lib.hid (HB6.out.trans (hB7.mono HB6.out.size))
  have HD57 := Lib.hid (HD56.out.later hB7)
  have HPut3 := Lib.hid (rput_any A7 A5 k7 k5 L7 53 (beL n2 1) w7 hop7 (by omega) HD57.out (by rw [beL_length]; omega))
  rw [hab7] at HPut3
  clear hB7 hop7 hl6 hab6
  go_wp2_with fail
  refine HPut3.out.mono ?_
  rintro e w8 ⟨A8, k8, L8, rfl, hab8, hop8, hB8⟩
  have hl8 : L8.length ≤ 103 := by rw [← absL_length, hab8, ← hab7]; have := putL_length (absL L7) 53 (beL n2 1); rw [absL_length] at this; omega
  have HX8 := Lib.hid (HX7.out.later hB8)
  have HZ8 := Lib.hid (HZ7.out.later hB8)
  have HB8 := Lib.hid (HB7.out.trans (hB8.mono HB7.out.size))
  have HPut4 := Lib.hid (rput_any A8 A0 k8 cn L8 61 name w8 hop8 (by omega) (HNM.out.later HB8.out) (by omega))
  rw [hab8] at HPut4
  clear hB8 hop8 hl7 hab7
  go_wp2_with fail
  refine HPut4.out.mono ?_
  rintro e w9 ⟨A9, k9, L9, rfl, hab9, hop9, hB9⟩
  have hl9 : L9.length ≤ 104 := by rw [← absL_length, hab9, ← hab8]; have := putL_length (absL L8) 61 name; rw [absL_length] at this; omega
  have HX9 := Lib.hid (HX8.out.later hB9)
  have HZ9 := Lib.hid (HZ8.out.later hB9)
  have HB9 := Lib.hid (HB8.out.trans (hB9.mono HB8.out.size))
  have HAB := Lib.hid (show absL L9 = putAll (absL p.L) (beL n0 4) (beL n1 4) (beL n2 1) name from hab9)
  have HOP9 := Lib.hid hop9
  clear hB9 hop9 hl8 hab8 hab9
  -- the store
  obtain ⟨w10, hw10⟩ : ∃ w10, w10 = w9.setCell ⟨w.heap.size, 9, none⟩ (.slice A9 L9.length k9) := ⟨_, rfl⟩
  obtain ⟨q, hq⟩ : ∃ q, q = p.with_ A9 k9 L9 := ⟨_, rfl⟩
  have HX10 : Hid (PBox w10 w.heap.size q) := Lib.hid (by rw [hw10, hq]; exact HX9.out.put)
  have HZ10 : Hid (XBox w10 (w.heap.size + 1) n0 n1 n2) := Lib.hid (by rw [hw10]; exact (heap_setCell_other w9 ⟨w.heap.size, 9, none⟩ (w.heap.size + 1) _ (by simp)).trans HZ9.out)
  have HB10 : Hid (Below w.heap.size w w10) := Lib.hid (by rw [hw10]; exact HB9.out.setCell (by simp) _)
  have HP10 : Hid (Pk w10 w10.heap.size q) := Lib.hid (by
    rw [hq]
    refine ⟨HHW.out.later HB10.out, ?_⟩
    have := HOP9.out.unboxed (u := .slice A9 L9.length k9) HX9.out
    rw [← hw10] at this
    exact this.more (by rw [hw10]; simp [World.setCell]))
  obtain ⟨c0, c1, c2, c3, c4, c5, c6, c7, c8, c9⟩ := HX9.out.all
  have f9 := frozen_of_row w9 w.heap.size 9 _ _ HX9.out
  have HW10 := Lib.hid hw10
  have HQ := Lib.hid hq
  have hqL : q.L.length ≤ 1000 := by rw [hq]; show L9.length ≤ 1000; omega
  have HQD : Hid (∀ x ∈ q.L, x.data.length ≤ 1000) := Lib.hid (by
    rw [hq]
    intro x hx
    have hm : x.abs ∈ absL L9 := List.mem_map.2 ⟨x, hx, rfl⟩
    rw [HAB.out] at hm
    refine all_data (absL p.L) n0 n1 n2 name hn (fun y hy => ?_) _ hm
    obtain ⟨z, hz, rfl⟩ := List.mem_map.1 hy
    exact HFL.out.1.2 z hz)
  have HT := Lib.hid (told_all q (absL p.L) n0 n1 n2 name HH0.out HH1.out HH2.out hn (by rw [hq]; exact HAB.out))
  have HAS := Lib.hid (asked_any q w10 HP10.out hqL HQD.out)
  rw [HT.out.1, HT.out.2.1] at HAS
  rw [hq] at HAS
  clear hw10 hq
  go_wp2_with fail
  rw [← HW10.out]
  refine HAS.out.mono ?_
  rintro e w11 ⟨rfl, hB11⟩
  have HX11 := Lib.hid (HX10.out.later hB11)
  have HZ11 := Lib.hid (HZ10.out.later hB11)
  have HP11 := Lib.hid (HP10.out.later hB11)
  have HB11 := Lib.hid (HB10.out.trans (hB11.mono HB10.out.size))
  clear hB11 c0 c1 c2 c3 c4 c5 c6 c7 c8 c9 f9 hdn
  have hs := str_run cn (HNM.out.later HB11.out)
  obtain ⟨d0, d1, d2, d3, d4, d5, d6, d7, d8, d9⟩ := HX11.out.all
  have k0 := cell_regrown d0
  have k1 := cell_regrown d1
  have k2 := cell_regrown d2
  have k3 := cell_regrown d3
  have k4 := cell_regrown d4
  have k5 := cell_regrown d5
  have k6 := cell_regrown d6
  have k7 := cell_regrown d7
  have k8 := cell_regrown d8
  have k9 := cell_regrown d9
  have z0 := cell_regrown HZ11.out.c0
  have z1 := cell_regrown HZ11.out.c1
  have z2 := cell_regrown HZ11.out.c2
  have CK := Lib.hid (fun d os => Calls.regrown_of (kind_any q (grow (redrawn w11 d) os) (HP11.out.regrown d os) hqL HQD.out))
  have CC := Lib.hid (fun d os => Calls.regrown_of (client_any q (grow (redrawn w11 d) os) (HP11.out.regrown d os) hqL HQD.out))
  rw [HT.out.2.2.1] at CK
  rw [HT.out.2.2.2] at CC
  have hb0 : n0 < 4294967296 := HH0.out
  have hself0 : ((n0 : Int) == (n0 : Int)) = true := by simp
  have hself1 : ((n1 : Int) == (n1 : Int)) = true := by simp
  have hself2 : ((n2 : Int) == (n2 : Int)) = true := by simp
  clear d0 d1 d2 d3 d4 d5 d6 d7 d9
  by_cases hz : name.length = 0
  · rw [if_pos hz] at CC
    have hq0 : ((name.length : Int) == 0) = true := by simp [hz]
    have hs2 := str_run q.hwC HP11.out.hw
    have hself3 : (q.hw == q.hw) = true := by simp
    clear hz
    go_wp2_with fail
    have hwr : IntKind.i64.wrap (n0 : Int) = n0 := by rw [IntKind.wrap_i64]; omega
    refine wp_region_quiet_below (by kernel_rfl) (by kernel_rfl) ?_
    repeat (quiet_step (first | (go_at_call 19; exact CK.out _ _) | (go_at_call 21; exact CC.out _ _)))
    refine wpQuiet_nil ?_
    intro _ hw'
    obtain ⟨⟨dq, osq⟩, hw''⟩ := hw'
    subst hw''
    go_wp2
    go_ret
    exact ⟨by simp, HB11.out.trans ((below_regrown w11 dq osq).mono HB11.out.size)⟩
  · rw [if_neg hz] at CC
    have hq0 : ((name.length : Int) == 0) = false := by simpa using hz
    have hself3 : (name == name) = true := by simp
    clear hz
    go_wp2_with fail
    have hwr : IntKind.i64.wrap (n0 : Int) = n0 := by rw [IntKind.wrap_i64]; omega
    refine wp_region_quiet_below (by kernel_rfl) (by kernel_rfl) ?_
    repeat (quiet_step (first | (go_at_call 19; exact CK.out _ _) | (go_at_call 21; exact CC.out _ _)))
    refine wpQuiet_nil ?_
    intro _ hw'
    obtain ⟨⟨dq, osq⟩, hw''⟩ := hw'
    subst hw''
    go_wp2
    go_ret
    exact ⟨by simp, HB11.out.trans ((below_regrown w11 dq osq).mono HB11.out.size)⟩

theorem law_pasks (p : PktV) (x0 x1 x2 : Int) (A0 : Option Addr) (cn : Nat) (name : List UInt8) (w : World) (hp : Pk w w.heap.size p) (hlm : p.L.length ≤ 9223372036854775807) (hdm : ∀ x ∈ p.L, x.data.length ≤ 9223372036854775807) (hhm : p.hw.length ≤ 9223372036854775807)
    (hx0 : x0 < 9223372036854775808) (hx1 : x1 < 9223372036854775808) (hx2 : x2 < 9223372036854775808) (hname : By w w.heap.size A0 name) :
    Calls Try.prog 7 #[p.v, .agg #[.int .i64 x0, .int .i64 x1, .int .i64 x2], .slice A0 name.length cn] w fun e w' => e = .returned (.bool true) ∧ Below w.heap.size w w' := by
  have early := pasks_early p x0 x1 x2 A0 cn name w hp hlm hdm hhm hx0 hx1 hx2
  cases hfew : pfewB p
  · exact early (.inl hfew)
  rcases byt_fixed x0 4 (by decide) with h0 | ⟨n0, rfl, b0, e0⟩
  · exact early (.inr ⟨hfew, .inl h0⟩)
  have g0 : ((bytR (n0 : Int) 4).2 != 0) = false := by rw [show bytR (n0 : Int) 4 = (beL n0 4, 0) from e0]; rfl
  rcases byt_fixed x1 4 (by decide) with h1 | ⟨n1, rfl, b1, e1⟩
  · exact early (.inr ⟨hfew, .inr ⟨g0, .inl h1⟩⟩)
  have g1 : ((bytR (n1 : Int) 4).2 != 0) = false := by rw [show bytR (n1 : Int) 4 = (beL n1 4, 0) from e1]; rfl
  rcases byt_fixed x2 1 (by decide) with h2 | ⟨n2, rfl, b2, e2⟩
  · exact early (.inr ⟨hfew, .inr ⟨g0, .inr ⟨g1, .inl h2⟩⟩⟩)
  have g2 : ((bytR (n2 : Int) 1).2 != 0) = false := by rw [show bytR (n2 : Int) 1 = (beL n2 1, 0) from e2]; rfl
  by_cases hn : 32 < name.length
  · exact early (.inr ⟨hfew, .inr ⟨g0, .inr ⟨g1, .inr ⟨g2, by simp; omega⟩⟩⟩⟩)
  · exact pasks_good p n0 n1 n2 A0 cn name w hp hlm hdm hhm b0 b1 b2 (by omega) hname hfew
end Go.Proofs.Ytmlckjccgdmknaa
