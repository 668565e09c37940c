/- The disk of the code: the closure of Append. -/
import Derived.Test.YtdeahiccgjldbaaDskE
import Derived.Deep.RegionLaw
namespace Go.Proofs.Ytdeahiccgjldbaa
open Go.RowKit

theorem DAt.grow {ty : TypeId} {base : Nat} {w w1 : World} {D : Nat} {s : DS} {v v' : Value} (h : DAt ty base w D s v) (hg : w.grownBy w1 v.ownBlock) (l : List UInt8) (ho : w1.ownsRow base 5 1 v' l.length (bcells l)) : DAt ty base (w1.setCell ⟨D, 1, none⟩ v') D { s with bs := l } v' :=
  ⟨heap_setCell_same w1 D 1 _ _ v' ((hg.block D h.dlt (fun e => by have := (h.ob D e.symm).1; have := h.lt; omega)).trans h.box), ownsRow_setCell_below ho h.lt _, h.lt, by rw [World.size_setCell]; exact Nat.le_trans h.size hg.size⟩
theorem Oth.grown {w w1 : World} {D : Nat} {v : Value} (hg : w.grownBy w1 v.ownBlock) : Kp (Oth w D v) w w1 := Kp.of_grown hg fun _ hk => ⟨hk.1, fun e => hk.2.2 e.symm⟩

/-- Appending in a region that draws its order: what came of it, and in which block it lies. -/
theorem step_appO {w : World} {ops : Array Oper} {o : Oper} {a : Act} {K : Act → World → Prop} {Q : Exit → Act → World → Prop} {E : Prop} (hgd : o.guard = none) (s x : Operand)
    (ho : o.op = .call { callee := .builtin .append, args := #[s, x], argTypes := #[40, 40] }) (base : Nat) (v : Value) (n : Nat) (xs : List Value) (hs : a.eval s = v) (hown : w.ownsRow base 5 1 v n xs)
    (B : Nat) (A : Option Addr) (l : List UInt8) (m c : Nat) (hm : m = l.length) (hx : a.eval x = .slice A m c) (hr : By w B A l) (k : Nat) (hk : n + m = k) (hsz : n + m ≤ 140737488355328) (hbase : base ≤ w.heap.size)
    (h : ∀ A' c' w', w'.ownsRow base 5 1 (.slice A' k c') k (xs ++ bcells l) → w.grownBy w' v.ownBlock → ((Value.slice A' k c').ownBlock = v.ownBlock ∨ (Value.slice A' k c').ownBlock = some w.heap.size) → K (a.put o.dst (.slice A' k c')) w') :
    if Region.wanted o (yielded ops a.tmps) = true then Oper.wp Try.prog o a w K Q else E := by
  subst hm hk
  refine step_appB hgd s x ho base v n xs hs hown B A l c hx hr hsz hbase fun v' w' h1 h2 h3 => ?_
  obtain ⟨A', c', rfl, _⟩ := own_form h1
  exact h A' c' w' h1 h2 h3

set_option maxRecDepth 100000 in
set_option maxHeartbeats 1000000 in
theorem append1_any {base : Nat} {w : World} {D : Nat} {s : DS} {v : Value} (h : DAt DT base w D s v) (ho : s.Ok) {gb gd : Nat} {A : Option Addr} {c : Nat} {b : List UInt8} (hA : By w w.heap.size A b)
    (hb : Bx w D v gb (.slice A b.length c) 40) (hd : Bx w D v gd (ptr D) 25) :
    Calls Try.prog 47 #[ptr gb, ptr gd] w (Num fun n w' =>
      (s.room < s.bs.length + b.length ∧ n = 3 ∧ Did DT base w D v w' s) ∨ (¬ s.room < s.bs.length + b.length ∧ n = 0 ∧ Did DT base w D v w' { s with bs := s.bs ++ b })) := by
  obtain ⟨A0, c0, rfl, hc0, _⟩ := h.form
  have e0 := h.c0
  have e1 := h.c1
  have cb := hb.cell
  have cd := hd.cell
  have b1 := ho.len
  have b2 := ho.r1
  have H := Lib.hid h
  have HB := Lib.hid hb
  have HD := Lib.hid hd
  have HA := Lib.hid hA
  clear h hb hd hA ho hc0
  obtain ⟨l, hl⟩ : ∃ l, l = s.bs.length := ⟨_, rfl⟩
  obtain ⟨r, hr⟩ : ∃ r, r = s.room := ⟨_, rfl⟩
  obtain ⟨m, hm⟩ : ∃ m, m = b.length := ⟨_, rfl⟩
  rw [← hl] at e1 b1
  rw [← hr] at e0 b1 b2
  rw [← hm] at cb
  have HL := Lib.hid hl
  have HR := Lib.hid hr
  have HM := Lib.hid hm
  clear hl hr hm
  have w1 : IntKind.i64.wrap ((r : Int) - (l : Int)) = (r : Int) - (l : Int) := IntWalk.i64_in _ (by omega)
  by_cases hbig : r < l + m
  · have d : decide ((r : Int) - (l : Int) < (m : Int)) = true := decide_eq_true (by omega)
    have HBig := Lib.hid hbig
    clear hbig
    have B := Lib.hid (And.intro b1 b2)
    clear b1 b2
    go_enter Try.func47, Try.ntmps47
    go_wp2_with fail
    go_region
    go_wp2
    go_ret
    exact ⟨3, rfl, .inl ⟨by rw [← HR.out, ← HL.out, ← HM.out]; exact HBig.out, rfl, _, H.out.drew, (Kp.refl _ _).drew, fun _ hk => .inl hk⟩⟩
  · have d : decide ((r : Int) - (l : Int) < (m : Int)) = false := decide_eq_false (by omega)
    have HBig := Lib.hid hbig
    clear hbig
    have B := Lib.hid (And.intro b1 b2)
    clear b1 b2
    go_enter Try.func47, Try.ntmps47
    go_wp2_with fail
    go_region
    have hH := H.out.drew
    have hHB : Bx w.drew D (.slice A0 s.bs.length c0) gb (.slice A m c) 40 := by rw [HM.out]; exact HB.out.kp (Kp.refl _ _).drew
    have hHD := HD.out.kp (Kp.refl (Oth w D _) w).drew
    have hHA : By w.drew w.drew.heap.size A b := HA.out.drew
    have hK0 : Kp (Oth w D (.slice A0 s.bs.length c0)) w w.drew := (Kp.refl _ _).drew
    rw [← HL.out] at hHB hHD hK0
    clear e0 e1 cb cd w1 d
    generalize w.drew = W at hH hHB hHD hHA hK0 ⊢
    have e1 := hH.c1
    rw [← HL.out] at e1
    have cb := hHB.cell
    have cd := hHD.cell
    have hown := hH.own
    rw [← HL.out] at hown
    have hs := hH.size
    have hl3 : l + m ≤ 140737488355328 := by have := HBig.out; have := B.out; omega
    have HH := Lib.hid hH
    have HHB := Lib.hid hHB
    have HHD := Lib.hid hHD
    have HK0 := Lib.hid hK0
    have HHA := Lib.hid hHA
    have HOwn := Lib.hid hown
    have HS := Lib.hid hs
    have HL3 := Lib.hid hl3
    clear hH hHB hHD hHA hK0 hown hs hl3
    have HK1 : Hid (∀ w1, W.drew.grownBy w1 (Value.slice A0 l c0).ownBlock → w1.cell? ⟨gd, 0, none⟩ = some (ptr D) ∧ w1.cell? ⟨D, 1, none⟩ = some (.slice A0 l c0) ∧ w1.frozen? ⟨D, 1, none⟩ = false) := Lib.hid fun w1 hg1 => by
      have hne : (Value.slice A0 l c0).ownBlock ≠ some D := fun e => by have := (HOwn.out.lt D e).1; have := HH.out.lt; omega
      have hbx : w1.heap[D]? = W.heap[D]? := hg1.block D HH.out.dlt (fun e => hne e.symm)
      refine ⟨(cell_grown (p := ⟨gd, 0, none⟩) hg1 HHD.out.lt HHD.out.own).trans HHD.out.cell, (cell_grown (p := ⟨D, 1, none⟩) hg1 HH.out.dlt hne).trans ?_, ?_⟩
      · rw [HL.out]; exact HH.out.c1
      · simp [World.frozen?, hbx, HH.out.box]
    have HFin : Hid (∀ A1 c1 w1, w1.ownsRow base 5 1 (.slice A1 (l + m) c1) (l + m) (bcells s.bs ++ bcells b) → W.drew.grownBy w1 (Value.slice A0 l c0).ownBlock → ((Value.slice A1 (l + m) c1).ownBlock = (Value.slice A0 l c0).ownBlock ∨ (Value.slice A1 (l + m) c1).ownBlock = some W.drew.heap.size) →
        Did DT base w D (.slice A0 s.bs.length c0) (w1.setCell ⟨D, 1, none⟩ (.slice A1 (l + m) c1)) { s with bs := s.bs ++ b }) := Lib.hid fun A1 c1 w1 hown1 hg1 hob1 => by
      have hlen : (s.bs ++ b).length = l + m := by rw [List.length_append, HL.out, HM.out]
      rw [← bcells_append] at hown1
      have hD := HH.out.drew
      rw [← HL.out] at hD ⊢
      refine ⟨.slice A1 (l + m) c1, hD.grow hg1 (s.bs ++ b) (by rw [hlen]; exact hown1), (HK0.out.drew.trans ((Oth.grown hg1).weak fun k hk => ⟨Nat.lt_of_lt_of_le hk.1 HK0.out.size, hk.2⟩)).set (fun h => h.2.1 rfl) _, fun k hk => ?_⟩
      rcases hob1 with e | e
      · exact .inl (e ▸ hk)
      · rw [e] at hk
        injection hk with hk
        subst hk
        exact .inr HK0.out.size
    go_wp2_with fail
    go_region_law (first | (refine step_appO rfl (.tmp 20) (.tmp 21) rfl base _ _ _ rfl HOwn.out.drew _ _ b m c HM.out rfl HHA.out.drew (l + m) rfl HL3.out HS.out ?_; intro A1 c1 w1 hown1 hg1 hob1; obtain ⟨d1, d2, d3⟩ := HK1.out w1 hg1))
    all_goals
      have HX := Lib.hid (HFin.out A1 c1 w1 hown1 hg1 hob1)
      clear hown1 hg1 hob1 d1 d2 d3
      go_wp2
      go_ret
      exact ⟨0, rfl, .inr ⟨by rw [← HR.out, ← HL.out, ← HM.out]; exact HBig.out, rfl, HX.out⟩⟩

end Go.Proofs.Ytdeahiccgjldbaa
