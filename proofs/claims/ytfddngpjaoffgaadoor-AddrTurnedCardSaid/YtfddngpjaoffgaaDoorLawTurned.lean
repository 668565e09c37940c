/- The law AddrTurned answers true. -/
import Derived.Test.YtfddngpjaoffgaaDoorAddrM
import Derived.Test.YtfddngpjaoffgaaDoorAddrW
import Derived.Test.YtfddngpjaoffgaaDoorAddrE
import Derived.Laws.AppendOwnNone
namespace Go.Proofs.YtfddngpjaoffgaaDoor
open Go.RowKit

theorem wpl_append_rg {P : Program} {w : World} {ops : Array Oper} {rest : List Oper} {o : Oper} {a : Act} {Q : Exit → Act → World → Prop} (hgd : o.guard = none) (s x : Operand) (t : TypeId)
    (ho : o.op = .call { callee := .builtin .append, args := #[s, x], argTypes := #[t, t] })
    (base : Nat) (e : TypeId) (i : TypeInfo) (z : Value) (ht : P.underlying t = some (.slice e)) (hi : P.info? e = some i) (hz : i.zero = some z) (hsize : i.size = 2) (hby : i.bytes = 8) (hzs : z.cells.size = 2)
    (v : Value) (n : Nat) (xs : List Value) (hs : a.eval s = v) (hown : w.ownsRow base e 2 v n xs) (A : Option Addr) (c B : Nat) (l : List (Nat × Nat)) (hx : a.eval x = .slice A l.length c) (hr : Rg w B A l) (hA : A = none → c = 0)
    (h63 : n + l.length ≤ maxLen) (hbytes : (n + l.length) * 8 ≤ 140737488355328) (hbase : base ≤ w.heap.size)
    (h : ∀ v' w', w'.ownsRow base e 2 v' (n + l.length) (xs ++ rcells l) → w.grownBy w' v.ownBlock → wpList P ops Q rest (a.put o.dst v') w') : wpList P ops Q (o :: rest) a w := by
  cases A with
  | none =>
    have hl : l = [] := by
      cases l with
      | nil => rfl
      | cons y r => obtain ⟨b, o, h, _⟩ := hr.at_ 0 y rfl; cases h
    subst hl
    obtain rfl := hA rfl
    exact wpList_append_own_none hgd s x t ho base e i 2 ht hi v n xs hs hown hx (h v w (by simpa [rcells] using hown) (World.grownBy.refl w _))
  | some ad => exact wpList_append_own w hgd s x t ho base e i z 2 8 ht hi hz hsize hby hzs (by decide) v n xs hs hown ad l.length c (rcells l) hx (rcells_length l) hr.cells (rcells_one l) h63 hbytes hbase fun v' w' h1 h2 _ => h v' w' h1 h2

theorem same_self (A B : Option Addr) (c d : Nat) (l : List (Nat × Nat)) (w : World) (hr : Rg w w.heap.size A l) (hs : Rg w w.heap.size B l) (hl : l.length ≤ 1000) :
    Calls Tryd.prog 15 #[.slice A l.length c, .slice B l.length d] w fun e w' => e = .returned (.bool true) ∧ ∃ n, w' = w.drewN n :=
  (same_any A B c d l l w hr hs hl hl).mono fun e w' ⟨he, hw⟩ => ⟨by rw [he]; simp, hw⟩

set_option maxRecDepth 100000 in
theorem slice_from {w : World} {base : Nat} {v : Value} {L : List (Nat × Nat)} (h32 : W32 L) (h : w.ownsRow base 40 2 v L.length (rcells L)) (k : Nat) (hk : k ≤ L.length) (hL : L.length ≤ 1000) :
    ∃ A2 c2, (∀ W, (Instr.slice 30 v (some (.int .i64 (k : Int))) none none).run Tryd.prog W = .ok (.slice A2 (L.drop k).length c2) W) ∧ Rg w w.heap.size A2 (L.drop k) := by
  rcases h.2 with ⟨rfl, h0⟩ | ⟨g, cap, cur, rfl, hg, hh, hcc, hcm, _⟩
  · have hk0 : k = 0 := by omega
    have hL0 : L = [] := List.eq_nil_of_length_eq_zero h0
    subst hk0 hL0
    refine ⟨none, 0, fun W => ?_, ⟨fun x hx => by simp at hx, fun i x hx => by simp at hx⟩⟩
    go_simp
  · have hR := Rg.of_own h32 h
    unfold maxLen at hcm
    by_cases hck : cap = k
    · have hkL : k = L.length := by omega
      refine ⟨some ⟨g, 0, none⟩, cap - k, fun W => ?_, ⟨fun x hx => by simp [hkL] at hx, fun i x hx => by simp [hkL] at hx⟩⟩
      have e : L.drop k = [] := by simp [hkL]
      rw [e]
      go_simp
    · refine ⟨some ⟨g, k * 2, none⟩, cap - k, fun W => ?_, ⟨fun x hx => h32 x (List.mem_of_mem_drop hx), fun i x hx => ?_⟩⟩
      · rw [List.length_drop]
        go_simp
      · rw [List.getElem?_drop] at hx
        obtain ⟨b, o, hA, hb, h1, h2⟩ := hR.at_ _ x hx
        cases hA
        refine ⟨g, k * 2, rfl, hb, ?_, ?_⟩
        · rw [show k * 2 + i * 2 = 0 + (k + i) * 2 by omega]; exact h1
        · rw [show k * 2 + i * 2 + 1 = 0 + (k + i) * 2 + 1 by omega]; exact h2

set_option maxRecDepth 100000 in
set_option maxHeartbeats 2000000 in
theorem law_turned (A : Option Addr) (c : Nat) (l : List (Nat × Nat)) (w : World) (hr : Rg w w.heap.size A l) (hT : Tab w) (hlm : l.length ≤ 9223372036854775807) (hA0 : A = none → c = 0) :
    Calls Tryd.prog 7 #[.slice A l.length c] w fun e w' => e = .returned (.bool true) ∧ Below w.heap.size w w' := by
  have HA := Lib.hid (awake_any w hT)
  have HR := Lib.hid hr
  clear hr hT
  obtain ⟨i0, hi, hz0, hz1, hz2⟩ := info_parts Tryd.infoR
  by_cases h100 : 100 < l.length
  · go_enter Tryd.func7, Tryd.ntmps7
    go_wp2_with fail
    refine HA.out.mono ?_
    rintro e w1 ⟨rfl, hB1⟩
    go_wp2
    go_ret
    exact ⟨rfl, hB1⟩
  · have hd100 : decide ((100 : Int) < (l.length : Int)) = false := by simp; omega
    go_enter Tryd.func7, Tryd.ntmps7
    go_wp2_with fail
    refine HA.out.mono ?_
    rintro e w1 ⟨rfl, hB1⟩
    have HR1 := Lib.hid ((HR.out.below hB1).more hB1.size)
    have HRa := Lib.hid (fun o => HR1.out.keep (w' := w1.alloc o) fun p hp => World.cell?_alloc_lt w1 o p hp)
    have HA0 := Lib.hid hA0
    clear hA0
    go_wp2_with (at_builtin; refine wpl_append_rg rfl _ _ 30 rfl w1.heap.size 40 i0 _ Tryd.underlying30 hi hz0 hz1 hz2 rfl _ 0 [] rfl (World.ownsRow_made w1 #[] 0 (Nat.le_refl _) (Nat.zero_le _) (by simp)) A c w1.heap.size l rfl (HRa.out _) HA0.out (by unfold maxLen; omega) (by omega) (by simp) ?_; intro v' w2 hown' hgrow)
    have hB2 : Below w1.heap.size w1 w2 := ((Below.refl w1.heap.size w1).alloc (Nat.le_refl _) _).grown hgrow (by simp) (fun k e => by cases e; exact Nat.le_refl _)
    rw [Nat.zero_add, List.nil_append] at hown'
    go_loopw [4, 5] (fun v iv wr => ∃ j : Nat, j ≤ l.length ∧ iv = .int .i64 ((j : Int) - 1) ∧ wr.ownsRow w1.heap.size 40 2 v (l.length + (l.length - j)) (rcells (l ++ (l.drop j).reverse)) ∧ Below w1.heap.size w1 wr) (fun _ iv _ => (intOf iv + 1).toNat)
    case atStart => exact ⟨l.length, Nat.le_refl _, rfl, by simpa using hown', hB2⟩
    case round =>
      obtain ⟨j, hj, rfl, hown, hBr⟩ := hrel
      clear hown' hgrow hB2
      have hsr := hBr.size
      cases j with
      | zero =>
        have hneg : decide ((0 : Int) ≤ ((0 : Nat) : Int) - 1) = false := by decide
        have hback : wr.ownsRow w1.heap.size 40 2 u4 (l.length + l.length) (rcells (l ++ l.reverse)) := by simpa using hown
        clear hown
        have HP1 := Lib.hid (pool_any A c l wr ((HR1.out.below hBr).more hsr) (by omega))
        obtain ⟨A2, c2, hsl, hR2⟩ := slice_from (L := l ++ l.reverse) (fun x hx => HR1.out.w32 x (by simpa using hx)) (by simpa using hback) (l.length / 2) (by simp; omega) (by simp; omega)
        have ek : ((l.length / 2 : Nat) : Int) = (l.length : Int) / 2 := by omega
        rw [ek] at hsl
        have hmem : ∀ x, x ∈ l ↔ x ∈ (l ++ l.reverse).drop (l.length / 2) := by
          intro x
          rw [List.drop_append_of_le_length (by omega), List.mem_append, List.mem_reverse]
          exact ⟨fun h => .inr h, fun h => h.elim List.mem_of_mem_drop id⟩
        have HM := Lib.hid hmem
        have hbl : ((l ++ l.reverse).drop (l.length / 2)).length ≤ 200 := by simp; omega
        have HR2 := Lib.hid hR2
        clear hback hmem hR2 ek
        generalize (l ++ l.reverse).drop (l.length / 2) = bk at *
        go_wp2_with fail
        refine HP1.out.mono ?_
        rintro e w3 ⟨ol, code, p, cap, rfl, hres, hR3, hB3⟩
        dsimp only
        have HP2 := Lib.hid (pool_any A2 c2 bk w3 ((HR2.out.below hB3).more hB3.size) (by omega))
        have HR3 := Lib.hid hR3
        have HE := Lib.hid hres
        have hol := pool_len hres
        clear hR3 hres
        go_wp2_with fail
        refine HP2.out.mono ?_
        rintro e w4 ⟨ol2, code2, p2, cap2, rfl, hres2, hR4, hB4⟩
        obtain ⟨rfl, rfl⟩ := pool_det HE.out hres2 HM.out
        dsimp only
        clear hsl
        have HR4 := Lib.hid hR4
        have HR34 := Lib.hid ((HR3.out.below hB4).more hB4.size)
        have HP3 := Lib.hid (pool_any p cap ol w4 HR34.out (by omega))
        clear hR4 hres2
        go_wp2_with fail
        refine HP3.out.mono ?_
        rintro e w5 ⟨ol3, code3, p3, cap3, rfl, hres3, hR5, hB5⟩
        dsimp only
        have hol3 := pool_len hres3
        have HS1 := Lib.hid (same_self p p2 cap cap2 ol w5 ((HR34.out.below hB5).more hB5.size) ((HR4.out.below hB5).more hB5.size) (by omega))
        have HS2 := Lib.hid (fun n => same_any p p3 cap cap3 ol ol3 (w5.drewN n) (((HR34.out.below hB5).more hB5.size).keep (w' := w5.drewN n) (fun _ _ => rfl)) (hR5.keep (w' := w5.drewN n) (fun _ _ => rfl)) (by omega) (by omega))
        have HE3 := Lib.hid hres3
        clear hR5 hres3
        have hBall : Below w.heap.size w w5 := by
          have h1 := hB1.size
          have h2 := hBr.size
          have h3 := hB3.size
          have h4 := hB4.size
          exact hB1.trans ((hBr.mono (by omega)).trans ((hB3.mono (by omega)).trans ((hB4.mono (by omega)).trans (hB5.mono (by omega)))))
        go_wp2_with fail
        refine HS1.out.mono ?_
        rintro e w6 ⟨rfl, n1, rfl⟩
        dsimp only
        go_wp2_with fail
        refine (HS2.out n1).mono ?_
        rintro e w7 ⟨rfl, n2, rfl⟩
        have HQ : Hid (code = 0 → decide (ol = ol3) = true) := by
          intro hc
          subst hc
          obtain ⟨hcan, hlen, -⟩ := pool_ok HE.out
          obtain ⟨rfl, rfl⟩ := pool_self hcan hlen HE3.out
          simp
        have HQ3 : Hid (code = 0 → code3 = 0) := by
          intro hc
          subst hc
          obtain ⟨hcan, hlen, -⟩ := pool_ok HE.out
          exact (pool_self hcan hlen HE3.out).2
        generalize decide (ol = ol3) = s2 at *
        dsimp only
        have hcc : (code == code) = true := by simp
        by_cases hc : code = 0
        · subst hc
          obtain rfl := HQ.out rfl
          obtain rfl := HQ3.out rfl
          go_wp2
          go_ret
          exact ⟨rfl, hBall.drewN' _⟩
        · have h1 : (code != 0) = true := by simp [hc]
          go_wp2
          go_ret
          exact ⟨rfl, hBall.drewN' _⟩
      | succ j =>
        obtain ⟨x, hx⟩ : ∃ x, l[j]? = some x := ⟨_, List.getElem?_eq_getElem (by omega)⟩
        obtain ⟨b, o, rfl, hb, hc1, hc2⟩ := (HR1.out.below hBr).at_ j x hx
        have HX := Lib.hid hx
        have ej : (((j + 1 : Nat) : Int) - 1) = (j : Int) := by omega
        rw [ej]
        clear ej hx
        have hnn : decide ((0 : Int) ≤ (j : Int)) = true := by simp
        have hjl : j < l.length := by omega
        go_wp2_with (at_builtin; refine wpList_append_own _ rfl _ _ 30 rfl w1.heap.size 40 i0 _ 2 8 Tryd.underlying30 hi hz0 hz1 hz2 rfl (by decide) _ _ _ rfl (hown.alloc _) ⟨wr.heap.size, 0, none⟩ 1 1 [.int .u32 x.1, .int .u32 x.2] rfl rfl (two_new _ _ _ _ (by simp)) (by simp [Value.oneCell']) (by unfold maxLen; omega) (by omega) (by simp; omega) ?_; intro v2 w3 hown3 hgrow3 _)
        go_roundw
        case rel =>
          have e : l ++ (l.drop j).reverse = (l ++ (l.drop (j + 1)).reverse) ++ [x] := by
            rw [List.drop_eq_getElem_cons hjl, List.reverse_cons, ← List.append_assoc]
            have := (List.getElem?_eq_some_iff.1 HX.out).2
            rw [this]
          refine ⟨j, by omega, by rfl, ?_, (hBr.alloc hsr _).grown hgrow3 (by simp; omega) ?_⟩
          · have := push_row (out := l ++ (l.drop (j + 1)).reverse) (x := x) (by simp) rfl hown3 e
            rw [show (l ++ (l.drop j).reverse).length = l.length + (l.length - j) by simp] at this
            exact this
          · intro k e
            rcases hown.2 with ⟨h0, _⟩ | ⟨g, cap', cur, h0, hg, _⟩
            · rw [h0] at e; cases e
            · rw [h0] at e; cases e; exact hg
        case measure => simp [intOf]
end Go.Proofs.YtfddngpjaoffgaaDoor
