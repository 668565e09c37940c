/- Rows of bytes that grow by bytes, by one byte, by a text; blocks of one byte. (Gathered from MsgT.) -/
import Derived.Test.YtdjbgphcmmcnhaaBytN
import Derived.Lib.AppendStr
import Derived.Deep.RegionHeld3
namespace Go.Proofs.Ytdjbgphcmmcnhaa
open Go.RowKit

theorem len_data (x : ByteArray) : x.data.toList.length = x.size := Array.length_toList (xs := x.data)
theorem oneI (w : World) (t : TypeId) (c : Int) (h0 : 0 ≤ c) (h1 : c < 256) : By (w.alloc (.cells #[.int .u8 c] t)) (w.heap.size + 1) (some ⟨w.heap.size, 0, none⟩) [UInt8.ofNat c.toNat] := by
  have h := one_byte w t c.toNat (by omega)
  rw [Int.toNat_of_nonneg h0] at h
  exact h
theorem rowI (w0 w : World) (c : Int) (h0 : 0 ≤ c) (h1 : c < 256) (hB : Below w0.heap.size w0 w) : Row w0 (w.alloc (.cells #[.int .u8 c] 5)) (.slice (some ⟨w.heap.size, 0, none⟩) 1 1) [UInt8.ofNat c.toNat] := by
  have e1 : ((UInt8.ofNat c.toNat).toNat : Int) = c := by
    rw [UInt8.toNat_ofNat', Nat.mod_eq_of_lt (by omega)]; omega
  have h := World.ownsRow_lit (base := w0.heap.size) (e := 5) (size := 1) w #[.int .u8 c] 1 hB.size (by unfold maxLen; omega) rfl
  refine ⟨?_, hB.alloc hB.size _⟩
  simp only [bcells, List.map_cons, List.map_nil, bV, e1]
  exact h
theorem wayA {w w2 : World} {o : Obj} (h : Below (w.alloc o).drew.heap.size (w.alloc o).drew w2) : Below w.heap.size w w2 :=
  ⟨h.os, h.tape, h.output, Nat.le_trans (by show w.heap.size ≤ (w.alloc o).heap.size; simp) h.size, fun k hk => (h.block k (by show k < (w.alloc o).heap.size; simp; omega)).trans (Below.heap_alloc w o k hk)⟩
theorem wayB {w w2 : World} (h : Below w.drew.heap.size w.drew w2) : Below w.heap.size w w2 := ⟨h.os, h.tape, h.output, h.size, h.block⟩
theorem rowA {w w2 : World} {c : Int} (h0 : 0 ≤ c) (h1 : c < 256) (h : Below (w.alloc (.cells #[.int .u8 c] 5)).drew.heap.size (w.alloc (.cells #[.int .u8 c] 5)).drew w2) : Row w w2 (.slice (some ⟨w.heap.size, 0, none⟩) 1 1) [UInt8.ofNat c.toNat] :=
  (rowI w w c h0 h1 (Below.refl _ w)).drew.later h
theorem step_row {w0 w : World} {ops : Array Oper} {o : Oper} {a : Act} {K : Act → World → Prop} {Q : Exit → Act → World → Prop} {E : Prop} (hgd : o.guard = none) (s x : Operand)
    (ho : o.op = .call { callee := .builtin .append, args := #[s, x], argTypes := #[27, 27] }) {v : Value} {l : List UInt8} (hs : a.eval s = v) (h : Row w0 w v l)
    {B : Nat} {A : Option Addr} (l2 : List UInt8) {m c : Nat} (hm : l2.length = m) (hx : a.eval x = .slice A m c) (hr : By w B A l2) (hsz : l.length + l2.length ≤ 140737488355328)
    (hk : ∀ A' c' w', Row w0 w' (.slice A' (l ++ l2).length c') (l ++ l2) → w.grownBy w' v.ownBlock → K (a.put o.dst (.slice A' (l ++ l2).length c')) w') :
    if Region.wanted o (yielded ops a.tmps) = true then Oper.wp Try.prog o a w K Q else E := by
  subst hm
  refine step_appB hgd s x ho w0.heap.size v l.length (bcells l) hs h.own B A l2 c hx hr hsz h.low.size fun v' w' h1 h2 _ => ?_
  have h3 : Row w0 w' v' (l ++ l2) := h.grows (by rw [List.length_append, bcells_append]; exact h1) h2
  obtain ⟨A', c', rfl, _, _⟩ := h3.form
  exact hk A' c' w' h3 h2
/-- Bytes in a block that is newer than a row stay where the row grows. -/
theorem By.newer {w w' : World} {v : Value} {l2 : List UInt8} {A : Option Addr} {b n : Nat} (h : By w n A l2) (hA : A = some ⟨b, 0, none⟩) (hn : n ≤ w.heap.size) (hv : ∀ k, v.ownBlock = some k → k ≠ b) (hg : w.grownBy w' v.ownBlock) : By w' n A l2 := by
  refine ⟨fun i x hx => ?_⟩
  obtain ⟨b', o, e, hb, hc⟩ := h.at_ i x hx
  rw [hA] at e
  injection e with e
  injection e with e1 e2
  subst e1 e2
  exact ⟨b, 0, hA, hb, (World.cell?_of_block (hg.block b (by omega) (fun e => hv b e.symm rfl))).trans hc⟩
theorem Row.lt {w0 w : World} {v : Value} {l : List UInt8} (h : Row w0 w v l) : ∀ k, v.ownBlock = some k → k < w.heap.size := fun k hk => (h.own.lt k hk).2

theorem newA (w w2 : World) (c : Int) (h0 : 0 ≤ c) (h1 : c < 256) (h : Below (w.alloc (.cells #[.int .u8 c] 5)).drew.heap.size (w.alloc (.cells #[.int .u8 c] 5)).drew w2) : By w2 (w.heap.size + 1) (some ⟨w.heap.size, 0, none⟩) [UInt8.ofNat c.toNat] ∧ w.heap.size + 1 ≤ w2.heap.size ∧ Below w.heap.size w w2 := by
  have hs : w.heap.size + 1 ≤ w2.heap.size := by have := h.size; have e : (w.alloc (.cells #[.int .u8 c] 5)).drew.heap.size = w.heap.size + 1 := by show (w.alloc _).heap.size = _; simp
                                                 omega
  refine ⟨?_, hs, wayA h⟩
  have hb : Below (w.heap.size + 1) (w.alloc (.cells #[.int .u8 c] 5)).drew w2 := h.mono (by show _ ≤ (w.alloc _).heap.size; simp)
  exact ((oneI w 5 c h0 h1).drew).below hb
theorem newC {w0 w w2 w3 : World} {v : Value} {l l2 : List UInt8} (hR : Row w0 w v l) (hg : w2.grownBy w3 v.ownBlock) (h : By w2 (w.heap.size + 1) (some ⟨w.heap.size, 0, none⟩) l2 ∧ w.heap.size + 1 ≤ w2.heap.size ∧ Below w.heap.size w w2) : By w3 (w.heap.size + 1) (some ⟨w.heap.size, 0, none⟩) l2 :=
  h.1.newer rfl h.2.1 (fun k hk => by have := hR.lt k hk; omega) hg
theorem newB {w0 w w3 : World} {v : Value} {l : List UInt8} {c : Int} (hR : Row w0 w v l) (h0 : 0 ≤ c) (h1 : c < 256) (hg : (w.alloc (.cells #[.int .u8 c] 5)).grownBy w3 v.ownBlock) : By w3 (w.heap.size + 1) (some ⟨w.heap.size, 0, none⟩) [UInt8.ofNat c.toNat] :=
  (oneI w 5 c h0 h1).newer rfl (by simp) (fun k hk => by have := hR.lt k hk; omega) hg
theorem oneN (w : World) (t : TypeId) (c : Nat) (h1 : c < 256) : By (w.alloc (.cells #[.int .u8 (c : Int)] t)) (w.heap.size + 1) (some ⟨w.heap.size, 0, none⟩) [UInt8.ofNat c] := one_byte w t c h1

theorem wpList_rowV {w0 w : World} {ops : Array Oper} {rest : List Oper} {o : Oper} {a : Act} {Q : Exit → Act → World → Prop} (hgd : o.guard = none) (s x : Operand)
    (ho : o.op = .call { callee := .builtin .append, args := #[s, x], argTypes := #[27, 27] }) {v : Value} {l : List UInt8} (hs : a.eval s = v) (h : Row w0 w v l)
    {B : Nat} {A : Option Addr} (l2 : List UInt8) {m c : Nat} (hm : l2.length = m) (hx : a.eval x = .slice A m c) (hr : By w B A l2) (n n2 : Nat) (hn : l.length ≤ n) (hn2 : l2.length ≤ n2) (hsz : n + n2 ≤ 100000)
    (hk : ∀ A' c' w' l3, Hid (l3 = l ++ l2) → l3.length ≤ n + n2 → Row w0 w' (.slice A' l3.length c') l3 → l3.length ≤ c' → By w' w'.heap.size A' l3 → wpList Try.prog ops Q rest (a.put o.dst (.slice A' l3.length c')) w') :
    wpList Try.prog ops Q (o :: rest) a w := by
  refine wpList_row hgd s x ho hs h l2 hm hx hr (by omega) fun v' w' h1 _ => ?_
  obtain ⟨A', c', rfl, h2, h3⟩ := h1.form
  exact hk A' c' w' _ (Lib.hid rfl) (by rw [List.length_append]; omega) h1 h2 h3
theorem step_rowV {w0 w : World} {ops : Array Oper} {o : Oper} {a : Act} {K : Act → World → Prop} {Q : Exit → Act → World → Prop} {E : Prop} (hgd : o.guard = none) (s x : Operand)
    (ho : o.op = .call { callee := .builtin .append, args := #[s, x], argTypes := #[27, 27] }) {v : Value} {l : List UInt8} (hs : a.eval s = v) (h : Row w0 w v l)
    {B : Nat} {A : Option Addr} (l2 : List UInt8) {m c : Nat} (hm : l2.length = m) (hx : a.eval x = .slice A m c) (hr : By w B A l2) (n n2 : Nat) (hn : l.length ≤ n) (hn2 : l2.length ≤ n2) (hsz : n + n2 ≤ 100000)
    (hk : ∀ A' c' w' l3, Hid (l3 = l ++ l2) → l3.length ≤ n + n2 → Row w0 w' (.slice A' l3.length c') l3 → l3.length ≤ c' → By w' w'.heap.size A' l3 → w.grownBy w' v.ownBlock → K (a.put o.dst (.slice A' l3.length c')) w') :
    if Region.wanted o (yielded ops a.tmps) = true then Oper.wp Try.prog o a w K Q else E := by
  refine step_row hgd s x ho hs h l2 hm hx hr (by omega) fun A' c' w' h1 h2 => ?_
  obtain ⟨A2, c2, e, h3, h4⟩ := h1.form
  injection e with e1 e2 e3
  subst e1 e3
  exact hk A' c' w' _ (Lib.hid rfl) (by rw [List.length_append]; omega) h1 h3 h4 h2

theorem wpList_rowS {w0 w : World} {ops : Array Oper} {rest : List Oper} {o : Oper} {a : Act} {Q : Exit → Act → World → Prop} (hgd : o.guard = none) (s x : Operand)
    (ho : o.op = .call { callee := .builtin .append, args := #[s, x], argTypes := #[27, 9] }) {v : Value} {l : List UInt8} (hs : a.eval s = v) (h : Row w0 w v l)
    (t : ByteArray) (hx : a.eval x = .string t) (hsz : l.length + t.size ≤ 140737488355328)
    (hk : ∀ A' c' w' l3, Hid (l3 = l ++ t.data.toList) → Row w0 w' (.slice A' l3.length c') l3 → l3.length ≤ c' → By w' w'.heap.size A' l3 → wpList Try.prog ops Q rest (a.put o.dst (.slice A' l3.length c')) w') :
    wpList Try.prog ops Q (o :: rest) a w := by
  obtain ⟨i, hi, hz0, hz1, hz2⟩ := info_parts Try.infoB
  refine wpList_plain hgd fun K hK => ?_
  obtain ⟨v', w', h1, h2, h3, _⟩ := Lib.run_append_own_string (P := Try.prog) w w0.heap.size 27 9 o.type 5 i Try.underlying27 Try.underlying9 hi hz0 hz1 hz2 v l.length (bcells l) h.own t (by unfold maxLen; omega) hsz h.low.size
  have h4 : Row w0 w' v' (l ++ t.data.toList) := h.grows (by rw [List.length_append, bcells_append, len_data]; exact h2) h3
  unfold Oper.wp execOp
  simp only [ho, resolve, invoke, builtin, Sem.run_bind, Sem.run_pure, Result.andThen_ok, List.map_toArray, List.map_cons, List.map_nil, hs, hx, h1]
  obtain ⟨A', c', rfl, h5, h6⟩ := h4.form
  exact hK _ _ (hk A' c' w' _ (Lib.hid rfl) h4 h5 h6)

end Go.Proofs.Ytdjbgphcmmcnhaa
