/- The law FsmMeets, walked. -/
import Derived.Test.YtbgkhggohlbdbaaDoorFsmF
namespace Go.Proofs.YtbgkhggohlbdbaaDoor
open Go.RowKit Go.Sort

theorem lcalm_any (s : Int) (W : World) : Calls Tryd.prog 17 #[.int .i64 s] W fun e w' => e = .returned (.bool ((s == 0) || (s == 1) || (s == 2))) ∧ W = w' := by
  cases h1 : s == 0 <;> cases h2 : s == 1 <;> cases h3 : s == 2
  all_goals
    go_enter Tryd.func17, Tryd.ntmps17
    go_wp2
    go_ret
    exact ⟨rfl, rfl⟩
theorem calm3_or (s : Int) : (((s == 0) || (s == 1) || (s == 2)) = true ∧ Calm3 s) ∨ ((s == 0) || (s == 1) || (s == 2)) = false := by
  by_cases h : Calm3 s
  · refine .inl ⟨?_, h⟩
    unfold Calm3 at h
    simpa [or_assoc] using h
  · refine .inr ?_
    unfold Calm3 at h
    simp
    omega
/-- Two numbers in a block of their own. -/
def Box2 (w : World) (g : Nat) (p q : Int) : Prop := w.heap[g]? = some (.cells #[.int .i64 p, .int .i64 q] 29 (0, 0))
section
variable {w w' : World} {g : Nat} {p q : Int}
theorem Box2.c0 (h : Box2 w g p q) : w.cell? ⟨g, 0, none⟩ = some (.int .i64 p) := by rw [cell_of_row w g 0 _ _ _ h]; rfl
theorem Box2.c1 (h : Box2 w g p q) : w.cell? ⟨g, 1, none⟩ = some (.int .i64 q) := by rw [cell_of_row w g 1 _ _ _ h]; rfl
theorem Box2.f (h : Box2 w g p q) (i : Nat) : w.frozen? ⟨g, i, none⟩ = false := by
  unfold Box2 at h
  simp [World.frozen?, h]
theorem Box2.lt (h : Box2 w g p q) : g < w.heap.size := heap_lt h
theorem Box2.next (h : Box2 w g p q) (hb : Below w.heap.size w w') : Box2 w' g p q := (hb.block g h.lt).trans h
theorem Box2.set0 (h : Box2 w g p q) (x : Int) : Box2 (w.setCell ⟨g, 0, none⟩ (.int .i64 x)) g x q := by
  unfold Box2 at *
  simp [World.setCell, Array.getElem?_modify, h]
theorem Box2.set1 (h : Box2 w g p q) (x : Int) : Box2 (w.setCell ⟨g, 1, none⟩ (.int .i64 x)) g p x := by
  unfold Box2 at *
  simp [World.setCell, Array.getElem?_modify, h]
end

set_option maxRecDepth 100000 in
set_option maxHeartbeats 4000000 in
theorem law_meets (a b : Int) (A : Option Addr) (c : Nat) (L : List Bool) (w : World) (hT : TabF w) (hL : Bls w w.heap.size A L) (hlen : L.length ≤ 9223372036854775807) :
    Calls Tryd.prog 7 #[.int .i64 a, .int .i64 b, .slice A L.length c] w fun e' w' => e' = .returned (.bool true) ∧ Below w.heap.size w w' := by
  have HA := Lib.hid (fun V (h : TabF V) => fawake_any V h)
  have HT := Lib.hid hT
  have HP := Lib.hid hL
  have HC := Lib.hid (fun V => lcalm_any a V)
  have HD := Lib.hid (fun V => lcalm_any b V)
  clear hT hL
  rcases calm3_or a with ⟨ha, ha3⟩ | ha
  · rcases calm3_or b with ⟨hb, hb3⟩ | hb
    · by_cases hlen2 : L.length ≤ 100
      · have hd3 : decide ((100 : Int) < (L.length : Int)) = false := by simp; omega
        rw [ha] at HC
        rw [hb] at HD
        clear ha hb
        go_enter Tryd.func7, Tryd.ntmps7
        go_wp2_with fail
        refine (HA.out _ HT.out).mono ?_
        rintro e w1 ⟨rfl, hb1⟩
        have HB1 := Lib.hid hb1
        clear hb1
        go_wp2_with fail
        refine (HC.out _).mono ?_
        rintro e w' ⟨rfl, rfl⟩
        go_wp2_with fail
        refine (HD.out _).mono ?_
        rintro e w' ⟨rfl, rfl⟩
        go_wp2
        have HX1 : Hid (Box2 (w1.alloc (.cells #[.int .i64 0, .int .i64 0] 29)) w1.heap.size 0 0) := Lib.hid (heap_alloc_new w1 _)
        have HY1 : Hid (Below w.heap.size w (w1.alloc (.cells #[.int .i64 0, .int .i64 0] 29))) := Lib.hid (HB1.out.alloc HB1.out.size _)
        have hg : w.heap.size ≤ w1.heap.size := HB1.out.size
        generalize w1.heap.size = g at *
        go_loopw [0, 1, 9] (fun s t i wr => ∃ (k : Nat) (x y m n : Int), k ≤ L.length ∧ i = .int .i64 k ∧ s = .int .i64 x ∧ t = .int .i64 y ∧ Calm3 x ∧ Calm3 y ∧ 0 ≤ m ∧ 0 ≤ n ∧ m + n = k ∧ (m = 0 ∨ x = 1) ∧ (n = 0 ∨ y = 1) ∧ Box2 wr g m n ∧ Below w.heap.size w wr) (fun _ _ i _ => L.length - (intOf i).toNat)
        case atStart => exact ⟨0, a, b, 0, 0, Nat.zero_le _, rfl, rfl, rfl, ha3, hb3, by omega, by omega, by omega, .inl rfl, .inl rfl, HX1.out, HY1.out⟩
        case round =>
          obtain ⟨k, x, y, m, n, hk, rfl, rfl, rfl, hx, hy, hm, hn, hmn, hmx, hny, hbox, hb⟩ := hrel
          by_cases hlt : k < L.length
          · have hd : decide ((k : Int) < (L.length : Int)) = true := by simp; omega
            obtain ⟨v, hv⟩ : ∃ y, L[k]? = some y := ⟨_, List.getElem?_eq_getElem hlt⟩
            obtain ⟨bb, q, rfl, hB, c1⟩ := (HP.out.below hb).at_ k _ hv
            have HTr := Lib.hid (HT.out.next hb)
            have HN1 := Lib.hid (next_any x 0 y wr HTr.out)
            have HN2 := Lib.hid (next_any y 0 x wr HTr.out)
            rw [show nextI evN x 0 y = 1 from (heardI_meets x y hx hy)] at HN1
            rw [show nextI evN y 0 x = 1 from (heardI_meets y x hy hx)] at HN2
            have HB := Lib.hid hb
            have HX := Lib.hid hbox
            have HCx := Lib.hid hx
            have HCy := Lib.hid hy
            clear hb hbox hx hy hv
            cases v
            · go_wp2_with fail
              refine HN2.out.mono ?_
              rintro e w2 ⟨rfl, hb2⟩
              have HX2 := Lib.hid (HX.out.next hb2)
              have HB2 := Lib.hid (HB.out.trans (hb2.mono HB.out.size))
              have f0 := HX2.out.f 1
              have k0 := HX2.out.c0
              have k1 := HX2.out.c1
              have HX3 := Lib.hid (HX2.out.set1 (n + 1))
              have k2 := HX3.out.c0
              have k3 := HX3.out.c1
              have HB3 : Hid (Below w.heap.size w (w2.setCell ⟨g, 1, none⟩ (.int .i64 (n + 1)))) := Lib.hid (HB2.out.setCell hg _)
              clear hb2
              have q1 : decide (0 < n + 1) = true := by simp; omega
              have m2 : n + 1 ≤ 200 := by omega
              rcases hmx with rfl | rfl
              · go_wp2
                go_roundw
                case rel => exact ⟨k + 1, x, 1, 0, (n + 1), by omega, by go_num, rfl, rfl, HCx.out, (.inr (.inl rfl)), by omega, by omega, by omega, .inl rfl, .inr rfl, HX3.out, HB3.out⟩
                case measure => simp [intOf]; omega
              · by_cases hm0 : 0 < m
                · have q2 : decide (0 < m) = true := decide_eq_true hm0
                  go_wp2
                  go_roundw
                  case rel => exact ⟨k + 1, 1, 1, m, (n + 1), by omega, by go_num, rfl, rfl, (.inr (.inl rfl)), (.inr (.inl rfl)), by omega, by omega, by omega, .inr rfl, .inr rfl, HX3.out, HB3.out⟩
                  case measure => simp [intOf]; omega
                · have q2 : decide (0 < m) = false := decide_eq_false hm0
                  go_wp2
                  go_roundw
                  case rel => exact ⟨k + 1, 1, 1, m, (n + 1), by omega, by go_num, rfl, rfl, (.inr (.inl rfl)), (.inr (.inl rfl)), by omega, by omega, by omega, .inr rfl, .inr rfl, HX3.out, HB3.out⟩
                  case measure => simp [intOf]; omega
            · go_wp2_with fail
              refine HN1.out.mono ?_
              rintro e w2 ⟨rfl, hb2⟩
              have HX2 := Lib.hid (HX.out.next hb2)
              have HB2 := Lib.hid (HB.out.trans (hb2.mono HB.out.size))
              have f0 := HX2.out.f 0
              have k0 := HX2.out.c0
              have k1 := HX2.out.c1
              have HX3 := Lib.hid (HX2.out.set0 (m + 1))
              have k2 := HX3.out.c0
              have k3 := HX3.out.c1
              have HB3 : Hid (Below w.heap.size w (w2.setCell ⟨g, 0, none⟩ (.int .i64 (m + 1)))) := Lib.hid (HB2.out.setCell hg _)
              clear hb2
              have q1 : decide (0 < m + 1) = true := by simp; omega
              have m2 : m + 1 ≤ 200 := by omega
              rcases hny with rfl | rfl
              · go_wp2
                go_roundw
                case rel => exact ⟨k + 1, 1, y, (m + 1), 0, by omega, by go_num, rfl, rfl, (.inr (.inl rfl)), HCy.out, by omega, by omega, by omega, .inr rfl, .inl rfl, HX3.out, HB3.out⟩
                case measure => simp [intOf]; omega
              · by_cases hn0 : 0 < n
                · have q2 : decide (0 < n) = true := decide_eq_true hn0
                  go_wp2
                  go_roundw
                  case rel => exact ⟨k + 1, 1, 1, (m + 1), n, by omega, by go_num, rfl, rfl, (.inr (.inl rfl)), (.inr (.inl rfl)), by omega, by omega, by omega, .inr rfl, .inr rfl, HX3.out, HB3.out⟩
                  case measure => simp [intOf]; omega
                · have q2 : decide (0 < n) = false := decide_eq_false hn0
                  go_wp2
                  go_roundw
                  case rel => exact ⟨k + 1, 1, 1, (m + 1), n, by omega, by go_num, rfl, rfl, (.inr (.inl rfl)), (.inr (.inl rfl)), by omega, by omega, by omega, .inr rfl, .inr rfl, HX3.out, HB3.out⟩
                  case measure => simp [intOf]; omega
          · have hd : decide ((k : Int) < (L.length : Int)) = false := by simp; omega
            have HB := Lib.hid hb
            clear hb
            go_wp2
            go_ret
            exact ⟨rfl, HB.out⟩
      · have hd3 : decide ((100 : Int) < (L.length : Int)) = true := by simp; omega
        rw [ha] at HC
        rw [hb] at HD
        go_enter Tryd.func7, Tryd.ntmps7
        go_wp2_with fail
        refine (HA.out _ HT.out).mono ?_
        rintro e w1 ⟨rfl, hb1⟩
        have HB1 := Lib.hid hb1
        clear hb1
        go_wp2_with fail
        refine (HC.out _).mono ?_
        rintro e w' ⟨rfl, rfl⟩
        go_wp2_with fail
        refine (HD.out _).mono ?_
        rintro e w' ⟨rfl, rfl⟩
        go_wp2
        go_ret
        exact ⟨rfl, HB1.out⟩
    · rw [ha] at HC
      rw [hb] at HD
      go_enter Tryd.func7, Tryd.ntmps7
      go_wp2_with fail
      refine (HA.out _ HT.out).mono ?_
      rintro e w1 ⟨rfl, hb1⟩
      have HB1 := Lib.hid hb1
      clear hb1
      go_wp2_with fail
      refine (HC.out _).mono ?_
      rintro e w' ⟨rfl, rfl⟩
      go_wp2_with fail
      refine (HD.out _).mono ?_
      rintro e w' ⟨rfl, rfl⟩
      go_wp2
      go_ret
      exact ⟨rfl, HB1.out⟩
  · rw [ha] at HC
    go_enter Tryd.func7, Tryd.ntmps7
    go_wp2_with fail
    refine (HA.out _ HT.out).mono ?_
    rintro e w1 ⟨rfl, hb1⟩
    have HB1 := Lib.hid hb1
    clear hb1
    go_wp2_with fail
    refine (HC.out _).mono ?_
    rintro e w' ⟨rfl, rfl⟩
    go_wp2
    go_ret
    exact ⟨rfl, HB1.out⟩
end Go.Proofs.YtbgkhggohlbdbaaDoor
