/- The steps: limit, Encode's closure, Decode's closure. -/
import Derived.Test.YtgdkioegadbnmaaMsgG
import Derived.Deep.RegionLaw
import Derived.Deep.RegionHeld3
import Derived.StillTailTactics
import Derived.Shelf.Abstract
import Derived.BigRegion
namespace Go.Proofs.Ytgdkioegadbnmaa
open Go.RowKit

/-- limit as a step. -/
def limS : StepF Unit := fun s n _ lo hi => (limI n lo hi, s)
def limV : Nat → (Nat → Prop) → Unit → World → Prop := fun _ P _ W => ∀ k, P k → k < W.heap.size
theorem limit_steps (base : Nat) : Steps base 19 #[] limS (fun _ => True) limV where
  enters := fun args w => enters_of Try.func19 (by kernel_rfl) rfl args w
  lt := fun h => h
  ext := fun o h k hk => by
    rcases hk with hk | hk
    · have := h k hk; simp; omega
    · simp; omega
  keep := fun h hs _ k hk => Nat.lt_of_lt_of_le (h k hk) hs
  weak := fun h hP k hk => h k (hP k hk)
  less := fun h _ => h
  call := fun {n P s W} x size lo hi h _ _ => (limit_any x size lo hi W).mono fun e w' ⟨he, hw⟩ => by
    subst hw
    exact ⟨he, h, Kp.refl _ _⟩

/-- Encode's closure as a step: the bytes of a number are put behind those that are there. -/
def encS : StepF (List UInt8) := fun l n size _ _ => (n, l ++ beL n.toNat size)
def encW (base g : Nat) (P : Nat → Prop) (l : List UInt8) (W : World) : Prop :=
  ∃ v, W.heap[g]? = some (.cells #[v] 27 (0, 0)) ∧ W.ownsRow base 5 1 v l.length (bcells l) ∧ g < base ∧ base ≤ W.heap.size ∧ ¬ P g ∧ (∀ k, P k → k < W.heap.size) ∧ (∀ k, v.ownBlock = some k → ¬ P k)
def encV (base g : Nat) : Nat → (Nat → Prop) → List UInt8 → World → Prop := fun n P l W => l.length + 8 * n ≤ 100000 ∧ encW base g P l W

theorem own_apart {w : World} {base g : Nat} {e : TypeId} {size n : Nat} {v : Value} {xs : List Value} (h : w.ownsRow base e size v n xs) (hg : g < base) : some g ≠ v.ownBlock := by
  rcases h.2 with ⟨rfl, _⟩ | ⟨b, _, _, rfl, hb, _⟩
  · simp [Value.ownBlock]
  · intro he
    injection he with he
    subst he
    omega
theorem box_grown {W w1 : World} {row : Option Nat} {g : Nat} {o : Obj} (hg : W.grownBy w1 row) (hb : W.heap[g]? = some o) (hne : some g ≠ row) : w1.heap[g]? = some o :=
  (hg.block g (Array.getElem?_eq_some_iff.1 hb).1 hne).trans hb

theorem Kp.grown {P : Nat → Prop} {w w' w'' : World} {row : Option Nat} (h : Kp P w w') (hg : w'.grownBy w'' row) (hP : ∀ k, P k → k < w'.heap.size ∧ some k ≠ row) : Kp P w w'' :=
  h.trans ⟨hg.os, hg.tape, hg.output, hg.size, fun k hk => hg.block k (hP k hk).1 (hP k hk).2⟩

theorem cell_grownBy (W : World) (g i : Nat) (u : Value) : W.grownBy (W.setCell ⟨g, i, none⟩ u) (some g) :=
  ⟨rfl, rfl, rfl, by rw [World.size_setCell]; exact Nat.le_refl _, fun k _ hk => Below.heap_setCell W _ u k (fun e => hk (by rw [e]))⟩

/-- What the closure's state is behind one byte. -/
theorem enc_next {base g : Nat} {P : Nat → Prop} {d : List UInt8} {b : UInt8} {W wr w1 : World} {v : Value} {A : Option Addr} {k : Nat} {o : Obj} (HK : Kp P W wr) (hgb : g < base) (hbs : base ≤ wr.heap.size) (hPg : ¬ P g) (hPlt : ∀ k, P k → k < wr.heap.size) (hPo : ∀ k, v.ownBlock = some k → ¬ P k)
    (hc1 : w1.heap[g]? = some (.cells #[v] 27 (0, 0))) (hown1 : w1.ownsRow base 5 1 (.slice A (d.length + 1) k) (d.length + 1) (bcells d ++ bcells [b])) (hg1 : (wr.drew.alloc o).grownBy w1 v.ownBlock) (hv1 : (Value.slice A (d.length + 1) k).ownBlock = v.ownBlock ∨ (Value.slice A (d.length + 1) k).ownBlock = some (wr.drew.alloc o).heap.size) :
    encW base g P (d ++ [b]) (w1.setCell ⟨g, 0, none⟩ (.slice A (d.length + 1) k)) ∧ Kp P W (w1.setCell ⟨g, 0, none⟩ (.slice A (d.length + 1) k)) := by
  have hsz : wr.heap.size ≤ w1.heap.size := by have := hg1.size; simp at this; omega
  have hg0 : wr.grownBy (wr.drew.alloc o) none := ⟨rfl, rfl, rfl, by simp, fun k hk _ => Below.heap_alloc wr.drew o k hk⟩
  have K1 : Kp P W w1 := (HK.grown hg0 fun k hk => ⟨hPlt k hk, by simp⟩).grown hg1 fun k hk => ⟨by have := hPlt k hk; simp; omega, fun e => hPo k e.symm hk⟩
  refine ⟨⟨.slice A (d.length + 1) k, ?_, ?_, hgb, by rw [World.size_setCell]; omega, hPg, fun k hk => by rw [World.size_setCell]; have := hPlt k hk; omega, fun k hk => ?_⟩, K1.set hPg _⟩
  · exact heap_setCell_same w1 g 0 _ _ _ hc1
  · have h := hown1.kept (cell_grownBy w1 g 0 (.slice A (d.length + 1) k)) (.inr (fun e => own_apart hown1 hgb e.symm))
    rw [List.length_append, bcells_append]
    exact h
  · rcases hv1 with h | h
    · exact hPo k (h.symm.trans hk)
    · intro hp
      have := hPlt k hp
      rw [h] at hk
      injection hk with hk
      simp at hk
      omega

set_option maxRecDepth 100000 in
set_option maxHeartbeats 1000000 in
theorem enc_call (base g n : Nat) (P : Nat → Prop) (l : List UInt8) (x : Nat) (size : Nat) (lo hi : Int) (hs : size ≤ 6) (W : World) (h : encV base g (n + 1) P l W) :
    Calls Try.prog 17 #[.int .i64 (x : Int), .int .i64 (size : Int), .int .i64 lo, .int .i64 hi, .pointer (some ⟨g, 0, none⟩)] W fun e W' => e = .returned (.int .i64 (x : Int)) ∧ encV base g n P (l ++ beL x size) W' ∧ Kp P W W' := by
  obtain ⟨hlen, hw0⟩ := h
  go_enter Try.func17, Try.ntmps17
  go_wp2
  go_loopw [10, 12] (fun t i wr => ∃ j : Nat, j ≤ size ∧ i = .int .i64 j ∧ encW base g P (l ++ (beL x size).take j) wr ∧ Kp P W wr) (fun _ i _ => size - (intOf i).toNat)
  case atStart => exact ⟨0, Nat.zero_le _, rfl, by simpa using hw0, Kp.refl _ _⟩
  case round =>
    obtain ⟨j, hj, rfl, hV, hK⟩ := hrel
    have HK := Lib.hid hK
    clear hK hw0
    obtain ⟨d, hd⟩ : ∃ d, d = l ++ (beL x size).take j := ⟨_, rfl⟩
    rw [← hd] at hV
    have HD := Lib.hid hd
    clear hd
    by_cases hlt : j < size
    · have hdn : d.length = l.length + j := by rw [HD.out, List.length_append, List.length_take, beL_length]; omega
      obtain ⟨v, hc, hown, hgb, hbs, hPg, hPlt, hPo⟩ := hV
      have c0 := cell_of_row wr g 0 _ _ _ hc
      simp at c0
      have fz : wr.frozen? ⟨g, 0, none⟩ = false := by simp [World.frozen?, hc]
      obtain ⟨i, hi⟩ : ∃ i, i = size - 1 - j := ⟨_, rfl⟩
      obtain ⟨q, hq⟩ : ∃ q, q = 8 * i := ⟨_, rfl⟩
      have e1 : IntKind.i64.wrap ((size : Int) - 1) = (size : Int) - 1 := by rw [IntKind.wrap_i64]; omega
      have e2 : IntKind.i64.wrap ((size : Int) - 1 - (j : Int)) = (i : Int) := by rw [IntKind.wrap_i64]; omega
      have e3 : IntKind.i64.wrap (8 * (i : Int)) = (q : Int) := by rw [IntKind.wrap_i64]; omega
      have q0 : (0 : Int) ≤ (q : Int) := by omega
      have q1 : (q : Int) ≤ 64 := by omega
      have hbyte : (x : Int) / 2 ^ q % 256 = ((UInt8.ofNat (x / 256 ^ i)).toNat : Int) := by rw [hq, byte_at]
      have hby := By.new wr.drew [UInt8.ofNat (x / 256 ^ i)] 5
      simp only [bcells, List.map_cons, List.map_nil, bV, ← hbyte] at hby
      have hlen2 : d.length + 1 ≤ 140737488355328 := by omega
      have HNX : Hid (l ++ (beL x size).take (j + 1) = d ++ [UInt8.ofNat (x / 256 ^ i)]) := Lib.hid (by rw [take_snoc_of _ _ _ (be_at x size j hlt), HD.out, hi, List.append_assoc])
      have HQ := Lib.hid hq
      have HI := Lib.hid hi
      have HB := Lib.hid hbyte
      have HO := Lib.hid hown
      have HBS := Lib.hid hbs
      have HBY := Lib.hid hby
      have HL := Lib.hid hlen2
      have HC := Lib.hid hc
      have HP := Lib.hid hPo
      have HPL := Lib.hid hPlt
      clear hq hi hbyte hown hbs hby hlen2 hc hPo hPlt hdn
      go_wp2
      have HNE := Lib.hid (own_apart HO.out hgb)
      have HC1 : Hid ((wr.drew.alloc (.cells #[.int .u8 (IntKind.u8.wrap ((x : Int) / 2 ^ q))] 5)).heap[g]? = some (.cells #[v] 27 (0, 0))) := Lib.hid (Below.heap_alloc wr.drew _ g (Array.getElem?_eq_some_iff.1 HC.out).1 |>.trans HC.out)
      have c2 : (wr.alloc (.cells #[.int .u8 (IntKind.u8.wrap ((x : Int) / 2 ^ q))] 5)).cell? ⟨g, 0, none⟩ = some v := by
        have h := cell_of_row _ g 0 _ _ _ (Below.heap_alloc wr (.cells #[.int .u8 (IntKind.u8.wrap ((x : Int) / 2 ^ q))] 5) g (Array.getElem?_eq_some_iff.1 HC.out).1 |>.trans HC.out)
        simpa using h
      go_region_law (first | (refine step_appB rfl (.tmp 15) (.tmp 24) rfl base v _ _ rfl (HO.out.drew.alloc _) _ _ [UInt8.ofNat (x / 256 ^ i)] 1 rfl HBY.out HL.out (by have := HBS.out; simp; omega) ?_; intro v1 w1 hown1 hg1 hv1; obtain ⟨A1, k1, rfl, hk1⟩ := own_form hown1; have hc1 := box_grown hg1 HC1.out HNE.out; have d1 := cell_of_row w1 g 0 _ _ _ hc1; simp at d1; have f1 := frozen_of_row w1 g 0 _ _ hc1))
      all_goals
        have HX := Lib.hid (enc_next HK.out hgb HBS.out hPg HPL.out HP.out hc1 hown1 hg1 hv1)
        clear hown1 hg1 hv1 hk1 hc1 d1 f1 c2 e1 e2 e3 q0 q1
        go_wp2
        go_roundw
        case rel => exact ⟨j + 1, by omega, by go_num, by rw [HNX.out]; exact HX.out.1, HX.out.2⟩
        case measure => simp [intOf]; omega
    · obtain rfl : j = size := by omega
      rw [List.take_of_length_le (by rw [beL_length]; exact Nat.le_refl _)] at HD
      have HV := Lib.hid hV
      clear hV
      go_wp2
      go_ret
      rw [← HD.out]
      refine ⟨rfl, ⟨?_, HV.out⟩, HK.out⟩
      rw [HD.out, List.length_append, beL_length]
      omega

theorem enc_steps (base g : Nat) : Steps base 17 #[.pointer (some ⟨g, 0, none⟩)] encS (fun n => 0 ≤ n) (encV base g) where
  enters := fun args w => enters_of Try.func17 (by kernel_rfl) rfl args w
  lt := fun ⟨_, v, _, _, _, _, _, h, _⟩ => h
  ext := fun {n P s W} o ⟨hl, v, h1, h2, h3, h4, h5, h6, h7⟩ => by
    have hv : ∀ k, v.ownBlock = some k → k < W.heap.size := fun k hk => (h2.lt k hk).2
    refine ⟨hl, v, (Below.heap_alloc W o g (by omega)).trans h1, h2.alloc _, h3, by simp; omega, fun h => ?_, fun k hk => ?_, fun k hk h => ?_⟩
    · rcases h with h | h
      · exact h5 h
      · omega
    · rcases hk with hk | hk
      · have := h6 k hk; simp; omega
      · simp; omega
    · have := hv k hk
      rcases h with h | h
      · exact h7 k hk h
      · omega
  keep := fun {n P s W W'} ⟨hl, v, h1, h2, h3, h4, h5, h6, h7⟩ hs hk => by
    refine ⟨hl, v, (hk g (by omega) (.inl h3)).trans h1, ⟨h2.1, ?_⟩, h3, by omega, h5, fun k hp => Nat.lt_of_lt_of_le (h6 k hp) hs, h7⟩
    rcases h2.2 with h | ⟨b, cap, cur, rfl, hb, hh, hr⟩
    · exact .inl h
    · exact .inr ⟨b, cap, cur, rfl, hb, (hk b (Array.getElem?_eq_some_iff.1 hh).1 (.inr (h7 b rfl))).trans hh, hr⟩
  weak := fun ⟨hl, v, h1, h2, h3, h4, h5, h6, h7⟩ hP => ⟨hl, v, h1, h2, h3, h4, fun h => h5 (hP _ h), fun k hk => h6 k (hP k hk), fun k hk h => h7 k hk (hP k h)⟩
  less := fun ⟨hl, h⟩ hm => ⟨by omega, h⟩
  call := fun {n P s W} x size lo hi h hx hs => by
    obtain ⟨m, rfl⟩ : ∃ m : Nat, x = m := ⟨x.toNat, by omega⟩
    exact (enc_call base g n P s m size lo hi hs W h).mono fun e w' ⟨he, hv, hk⟩ => ⟨he, hv, hk⟩

/-- Decode's closure as a step: a number is taken off the bytes that are left. -/
def decS : StepF (List UInt8) := fun l _ size _ _ => if l.length < size then (0, l) else (((numL (l.take size) : Nat) : Int), l.drop size)
def decV (base g : Nat) : Nat → (Nat → Prop) → List UInt8 → World → Prop := fun _ P l W =>
  ∃ A c, W.heap[g]? = some (.cells #[.slice A l.length c] 27 (0, 0)) ∧ By W g A l ∧ l.length ≤ c ∧ g < base ∧ base ≤ W.heap.size ∧ ¬ P g ∧ (∀ k, P k → k < W.heap.size)

set_option maxRecDepth 100000 in
set_option maxHeartbeats 1000000 in
theorem dec_call (base g n : Nat) (P : Nat → Prop) (l : List UInt8) (x : Int) (size : Nat) (lo hi : Int) (hs : size ≤ 6) (W : World) (h : decV base g (n + 1) P l W) :
    Calls Try.prog 21 #[.int .i64 x, .int .i64 (size : Int), .int .i64 lo, .int .i64 hi, .pointer (some ⟨g, 0, none⟩)] W fun e W' => e = .returned (.int .i64 (decS l x size lo hi).1) ∧ decV base g n P (decS l x size lo hi).2 W' ∧ Kp P W W' := by
  obtain ⟨A, c, hb, hby, hlc, hgb, hbs, hPg, hPl⟩ := h
  have c0 := cell_of_row W g 0 _ _ _ hb
  simp at c0
  have f0 := frozen_of_row W g 0 _ _ hb
  by_cases hsh : l.length < size
  · have HD : Hid (decS l x size lo hi = (0, l)) := Lib.hid (by simp [decS, hsh])
    have HV : Hid (decV base g n P l W) := Lib.hid ⟨A, c, hb, hby, hlc, hgb, hbs, hPg, hPl⟩
    have hd : decide (l.length < size) = true := decide_eq_true hsh
    clear hb hby hPl hPg hsh
    go_enter Try.func21, Try.ntmps21
    go_wp2
    go_ret
    rw [HD.out]
    exact ⟨rfl, HV.out, Kp.refl _ _⟩
  · have HD : Hid (decS l x size lo hi = (((numL (l.take size) : Nat) : Int), l.drop size)) := Lib.hid (by simp [decS, hsh])
    have hd : decide (l.length < size) = false := decide_eq_false hsh
    have hhead := run_headB A l.length c (size : Int) (by omega) (by omega)
    simp only [Int.toNat_natCast] at hhead
    have htail := run_tailB A l.length c (size : Int) (by omega) (by omega)
    simp only [Int.toNat_natCast] at htail
    have hcut := hby.cut (k := size) (cap := c) (by omega) hlc
    obtain ⟨A2, hA2⟩ : ∃ A2, A2 = (if c = size then A else A.map (·.add size)) := ⟨_, rfl⟩
    rw [← hA2] at htail hcut
    have HB := Lib.hid hb
    have HBY := Lib.hid hby
    have HCUT := Lib.hid hcut
    have HPL := Lib.hid hPl
    clear hb hby hcut hPl hA2
    go_enter Try.func21, Try.ntmps21
    go_wp2
    go_loop [10, 12, 21] (fun nv _ iv => ∃ k m : Nat, k ≤ size ∧ iv = .int .i64 k ∧ nv = .int .i64 (m : Int) ∧ m = numL (l.take k)) (fun _ _ i => size - (intOf i).toNat)
    case atStart => exact ⟨0, 0, Nat.zero_le _, rfl, rfl, rfl⟩
    case round =>
      obtain ⟨k, m, hk, rfl, rfl, hm⟩ := hrel
      have HM := Lib.hid hm
      have hml : m < 256 ^ k := by rw [hm]; have := numL_lt (l.take k); rwa [List.length_take, Nat.min_eq_left (by omega)] at this
      clear hm
      by_cases hlt : k < size
      · obtain ⟨y, hy⟩ : ∃ y, l[k]? = some y := ⟨_, List.getElem?_eq_getElem (by omega)⟩
        obtain ⟨b, o, hA, hbb, hc⟩ := HBY.out.at_ k y hy
        subst hA
        have hml2 : m < 36028797018963968 := Nat.lt_of_lt_of_le hml (Nat.le_trans (Nat.pow_le_pow_right (by omega) (show k ≤ 5 by omega)) (by decide))
        have hyy := y.toNat_lt
        have HY := Lib.hid hy
        clear hy hml
        go_wp2
        rw [or_i64 m y.toNat hml2 hyy]
        go_round
        case rel => exact ⟨k + 1, m * 256 + y.toNat, by omega, by go_num, rfl, by rw [take_snoc_of l k y HY.out, numL_snoc, ← HM.out]⟩
        case measure => simp [intOf]; omega
      · obtain rfl : k = size := by omega
        clear hml
        go_wp2
        go_ret
        rw [HD.out, ← HM.out]
        dsimp only
        have hdl : (l.drop k).length = l.length - k := List.length_drop
        refine ⟨rfl, ⟨A2, c - k, ?_, ?_, by rw [hdl]; omega, hgb, by rw [World.size_setCell]; exact hbs, hPg, fun j hj => by rw [World.size_setCell]; exact HPL.out j hj⟩, (Kp.refl P W).set hPg _⟩
        · rw [hdl]
          exact heap_setCell_same W g 0 _ _ _ HB.out
        · exact HCUT.out.keep fun p hp => World.cell?_of_block (Below.heap_setCell W _ _ p.block (by show p.block ≠ g; omega))

theorem dec_steps (base g : Nat) : Steps base 21 #[.pointer (some ⟨g, 0, none⟩)] decS (fun _ => True) (decV base g) where
  enters := fun args w => enters_of Try.func21 (by kernel_rfl) rfl args w
  lt := fun ⟨_, _, _, _, _, _, _, _, h⟩ => h
  ext := fun {n P s W} o ⟨A, c, h1, h2, h3, h4, h5, h6, h7⟩ => by
    refine ⟨A, c, (Below.heap_alloc W o g (by omega)).trans h1, h2.keep fun p hp => World.cell?_of_block (Below.heap_alloc W o p.block (by omega)), h3, h4, by simp; omega, fun h => ?_, fun k hk => ?_⟩
    · rcases h with h | h
      · exact h6 h
      · omega
    · rcases hk with hk | hk
      · have := h7 k hk; simp; omega
      · simp; omega
  keep := fun {n P s W W'} ⟨A, c, h1, h2, h3, h4, h5, h6, h7⟩ hs hk =>
    ⟨A, c, (hk g (by omega) (.inl h4)).trans h1, h2.keep fun p hp => World.cell?_of_block (hk p.block (by omega) (.inl (by omega))), h3, h4, by omega, h6, fun k hp => Nat.lt_of_lt_of_le (h7 k hp) hs⟩
  weak := fun ⟨A, c, h1, h2, h3, h4, h5, h6, h7⟩ hP => ⟨A, c, h1, h2, h3, h4, h5, fun h => h6 (hP _ h), fun k hk => h7 k (hP k hk)⟩
  less := fun h _ => h
  call := fun {n P s W} x size lo hi h _ hs => dec_call base g n P s x size lo hi hs W h
end Go.Proofs.Ytgdkioegadbnmaa
