/- packet.number, lessorref03.number, lessorref03.of; rows of bytes that grow. -/
import Derived.Test.YtmlckjccgdmknaaPktH
import Derived.Test.YtmlckjccgdmknaaRefN
import Derived.Test.YtmlckjccgdmknaaOptZ
namespace Go.Proofs.Ytmlckjccgdmknaa
open Go.RowKit

/-- Bytes are answered; nothing that lay has turned. -/
def GivesV (w : World) (l : List UInt8) (e : Ending) (w' : World) : Prop :=
  ∃ A c, e = .returned (.slice A l.length c) ∧ By w' w'.heap.size A l ∧ Below w.heap.size w w'

set_option maxRecDepth 100000 in
set_option maxHeartbeats 1000000 in
theorem pnum_any (n m : Nat) (hm : m ≤ 4) (hs : sizedB (m : Int) = true) (hn : n < 256 ^ m) (w : World) :
    Calls Try.prog 28 #[.int .i64 (n : Int), .int .i64 (m : Int)] w (GivesV w (beL n m)) := by
  have HB := Lib.hid (bytes_ok n m hm hs hn w)
  clear hs hn
  go_enter Try.func28, Try.ntmps28
  go_wp2_with fail
  refine HB.out.mono ?_
  rintro e w1 ⟨A, c, rfl, hby, _, hB⟩
  go_wp2
  go_ret
  exact ⟨A, c, rfl, hby, hB⟩

set_option maxRecDepth 100000 in
set_option maxHeartbeats 1000000 in
theorem rpnum_any (n m : Nat) (hm : m ≤ 4) (hm1 : 1 ≤ m) (hn : n < 9223372036854775808) (w : World) :
    Calls Try.prog 29 #[.int .i64 (n : Int), .int .i64 (m : Int)] w (GivesV w (beL n m)) := by
  have hmk := run_makeF m (by omega)
  have hown0 := madeF_own w w.heap.size m (Nat.le_refl _) (by omega)
  have hB0 : Below w.heap.size w (w.alloc (.cells (madeCells #[.int .u8 0] m) 5)) := (Below.refl _ _).alloc (Nat.le_refl _) _
  go_enter Try.func29, Try.ntmps29
  go_wp2
  clear hmk
  go_loopw [0, 6] (fun nv i wr => ∃ k q : Nat, k ≤ m ∧ i = .int .i64 ((m : Int) - 1 - k) ∧ nv = .int .i64 (q : Int) ∧ q = n / 256 ^ k ∧ wr.ownsRow w.heap.size 5 1 (.slice (some ⟨w.heap.size, 0, none⟩) m m) m (bcells (tailP n m k)) ∧ Below w.heap.size w wr) (fun _ i _ => (intOf i + 1).toNat)
  case atStart => exact ⟨0, n, Nat.zero_le _, by simp, rfl, by simp, by rw [tailP_zero]; exact hown0, hB0⟩
  case round =>
    obtain ⟨k, q, hk, rfl, rfl, hq, hown, hB⟩ := hrel
    have hqn : q ≤ n := by rw [hq]; exact Nat.div_le_self _ _
    have HQ := Lib.hid hq
    clear hq
    by_cases hlt : k < m
    · obtain ⟨j, hj⟩ : ∃ j, j = m - 1 - k := ⟨_, rfl⟩
      have hjm : (m : Int) - 1 - k = (j : Int) := by omega
      have hcell := hown.cellAt j (by omega)
      obtain ⟨y, hy⟩ : ∃ y, (bcells (tailP n m k))[j]? = some y := ⟨_, List.getElem?_eq_getElem (by rw [bcells_length, tailP_length]; omega)⟩
      rw [hy] at hcell
      have hfr := hown.frozenAt j
      have hjlt : j < m := by omega
      have HJ := Lib.hid hj
      have HJM := Lib.hid hjm
      rw [hjm]
      clear hy hj hjm
      go_wp2
      have eb : (q : Int) % 256 = ((UInt8.ofNat q).toNat : Int) := by rw [UInt8.toNat_ofNat']; rfl
      rw [eb]
      have hst := hown.stored j (bV (UInt8.ofNat q))
      rw [bcells_set, HQ.out, HJ.out, tailP_set n m k hlt] at hst
      rw [← HQ.out, ← HJ.out] at hst
      go_roundw
      case rel => exact ⟨k + 1, q / 256, by omega, by have := HJM.out; congr 1; omega, by go_num, by rw [HQ.out, Nat.div_div_eq_div_mul, Nat.pow_succ], hst.1, own_below hB hB.size hown hst.2⟩
      case measure => simp [intOf]
    · obtain rfl : k = m := by omega
      rw [tailP_all] at hown
      have hby := By.of_own hown
      rw [show (k : Int) - 1 - k = -1 by omega]
      go_wp2
      go_ret
      exact ⟨some ⟨w.heap.size, 0, none⟩, k, by rw [beL_length]; rfl, hby, hB⟩

set_option maxRecDepth 100000 in
set_option maxHeartbeats 1000000 in
theorem of_any (B : Nat) (A : Option Addr) (c : Nat) (l : List UInt8) (w : World) (h : By w B A l) (hl4 : l.length ≤ 4) :
    Calls Try.prog 35 #[.slice A l.length c] w fun e w' => e = .returned (.int .i64 ((numL l : Nat) : Int)) ∧ w = w' := by
  go_enter Try.func35, Try.ntmps35
  go_wp2
  go_loop [3, 4] (fun n i => ∃ k m : Nat, k ≤ l.length ∧ i = .int .i64 k ∧ n = .int .i64 (m : Int) ∧ m = numL (l.take k)) (fun _ i => l.length - (intOf i).toNat)
  case atStart => exact ⟨0, 0, Nat.zero_le _, rfl, rfl, rfl⟩
  case round =>
    obtain ⟨k, m, hk, rfl, rfl, hm⟩ := hrel
    have HM := Lib.hid hm
    have hml : m < 256 ^ k := by rw [hm]; have := numL_lt (l.take k); rwa [List.length_take, Nat.min_eq_left hk] at this
    clear hm
    by_cases hlt : k < l.length
    · obtain ⟨x, hx⟩ : ∃ x, l[k]? = some x := ⟨_, List.getElem?_eq_getElem hlt⟩
      obtain ⟨b, o, rfl, hb, hc⟩ := h.at_ k x hx
      have hml2 : m < 16777216 := Nat.lt_of_lt_of_le hml (Nat.pow_le_pow_right (by omega) (show k ≤ 3 by omega))
      have hxx := x.toNat_lt
      go_wp2
      go_round
      case rel => exact ⟨k + 1, m * 256 + x.toNat, by omega, by go_num, by go_num, by rw [take_snoc_of l k x hx, numL_snoc, ← HM.out]⟩
      case measure => simp [intOf]; omega
    · go_wp2
      go_ret
      rw [HM.out, List.take_of_length_le (by omega)]
      exact ⟨rfl, rfl⟩

/-- The value v reads as the bytes l in a row of its own, made since w0. -/
structure Row (w0 w : World) (v : Value) (l : List UInt8) : Prop where
  own : w.ownsRow w0.heap.size 5 1 v l.length (bcells l)
  low : Below w0.heap.size w0 w
section
variable {w0 w w' : World} {v : Value} {l : List UInt8}
theorem grownBy_of_below {V V' : World} (hb : Below V.heap.size V V') : V.grownBy V' none := ⟨hb.os, hb.tape, hb.output, hb.size, fun i hi _ => hb.block i hi⟩
theorem Row.later (h : Row w0 w v l) (hb : Below w.heap.size w w') : Row w0 w' v l :=
  ⟨h.own.kept (grownBy_of_below hb) (by cases v.ownBlock <;> simp), h.low.trans (hb.mono h.low.size)⟩
theorem Row.alloc (h : Row w0 w v l) (o : Obj) : Row w0 (w.alloc o) v l := h.later ((Below.refl _ _).alloc (Nat.le_refl _) _)
theorem Row.drew (h : Row w0 w v l) : Row w0 w.drew v l := ⟨h.own.drew, h.low.drew⟩
theorem Row.form (h : Row w0 w v l) : ∃ A c, v = .slice A l.length c ∧ l.length ≤ c ∧ By w w.heap.size A l := by
  obtain ⟨A, c, rfl, hc⟩ := own_form h.own
  exact ⟨A, c, rfl, hc, By.of_own h.own⟩
/-- A block of another type is not the row's. -/
theorem Row.apart (h : Row w0 w v l) {g : Nat} {cs : Array Value} {t : TypeId} {fr : Nat × Nat} (hg : w.heap[g]? = some (.cells cs t fr)) (ht : t ≠ 5) : v.ownBlock ≠ some g := by
  rcases h.own.2 with ⟨rfl, _⟩ | ⟨g1, _, _, rfl, _, hh1, _⟩
  · simp [Value.ownBlock]
  · intro e
    simp [Value.ownBlock] at e
    subst e
    rw [hh1] at hg
    injection hg with hg
    injection hg with _ h2
    exact ht h2.symm
theorem Row.grows (h : Row w0 w v l) {v' : Value} {l' : List UInt8} (ho : w'.ownsRow w0.heap.size 5 1 v' l'.length (bcells l')) (hg : w.grownBy w' v.ownBlock) : Row w0 w' v' l' :=
  ⟨ho, own_below h.low h.low.size h.own hg⟩
end

theorem wpList_row {w0 w : World} {ops : Array Oper} {rest : List Oper} {o : Oper} {a : Act} {Q : Exit → Act → World → Prop} (hgd : o.guard = none) (s x : Operand)
    (ho : o.op = .call { callee := .builtin .append, args := #[s, x], argTypes := #[24, 24] }) {v : Value} {l : List UInt8} (hs : a.eval s = v) (h : Row w0 w v l)
    {B : Nat} {A : Option Addr} (l2 : List UInt8) {m c : Nat} (hm : l2.length = m) (hx : a.eval x = .slice A m c) (hr : By w B A l2) (hsz : l.length + l2.length ≤ 140737488355328)
    (hk : ∀ v' w', Row w0 w' v' (l ++ l2) → w.grownBy w' v.ownBlock → wpList Try.prog ops Q rest (a.put o.dst v') w') :
    wpList Try.prog ops Q (o :: rest) a w := by
  subst hm
  refine wpList_appB hgd s x ho w0.heap.size v l.length (bcells l) hs h.own B A l2 c hx hr hsz h.low.size fun v' w' h1 h2 _ => hk v' w' (h.grows ?_ h2) h2
  rw [List.length_append, bcells_append]
  exact h1

theorem wpList_rowZ {w0 w : World} {ops : Array Oper} {rest : List Oper} {o : Oper} {a : Act} {Q : Exit → Act → World → Prop} (hgd : o.guard = none) (s x : Operand)
    (ho : o.op = .call { callee := .builtin .append, args := #[s, x], argTypes := #[24, 3] }) {v : Value} {l : List UInt8} (hs : a.eval s = v) (h : Row w0 w v l) (hl : 0 < l.length)
    (n : Nat) {N : Int} (hN : N = (n : Int)) (hx : a.eval x = .int .i64 N) (hsz : l.length + n ≤ 1048576)
    (hk : ∀ v' w', Row w0 w' v' (l ++ List.replicate n 0) → w.grownBy w' v.ownBlock → wpList Try.prog ops Q rest (a.put o.dst v') w') :
    wpList Try.prog ops Q (o :: rest) a w := by
  subst hN
  have hown := h.own
  rcases hown.2 with ⟨_, h0⟩ | ⟨g, cap, cur, rfl, _⟩
  · omega
  refine wpList_plain hgd fun K hK => ?_
  obtain ⟨A', c', w', h1, h2, h3⟩ := run_zeros w w0.heap.size o.type g l.length cap n (bcells l) hown hsz h.low.size
  unfold Oper.wp execOp
  simp only [ho, resolve, invoke, builtin, Sem.run_bind, Sem.run_pure, Result.andThen_ok, List.map_toArray, List.map_cons, List.map_nil, hs, hx, h1]
  refine hK _ _ (hk _ w' (h.grows ?_ h3) h3)
  rw [List.length_append, bcells_append, List.length_replicate]
  exact h2

end Go.Proofs.Ytmlckjccgdmknaa
