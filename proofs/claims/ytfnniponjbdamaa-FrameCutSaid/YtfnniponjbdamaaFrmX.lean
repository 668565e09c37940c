/- Rows of numbers that grow beside rows of bytes: where frames end. -/
import Derived.Test.YtfnniponjbdamaaLawFBack
namespace Go.Proofs.Ytfnniponjbdamaa
open Go.RowKit

def icells (l : List Nat) : List Value := l.map fun (n : Nat) => .int .i64 (n : Int)
theorem icells_length (l : List Nat) : (icells l).length = l.length := by simp [icells]
theorem icells_snoc (l : List Nat) (n : Nat) : icells (l ++ [n]) = icells l ++ [.int .i64 (n : Int)] := by simp [icells]

theorem Try.infoI : (Try.prog.info? 3).map (fun i => (i.zero, i.size, i.bytes)) = some (some (.int .i64 0), 1, 8) := by kernel_rfl

/-- The value v reads as the numbers l in a row of its own, made since w0. -/
structure RowI (w0 w : World) (v : Value) (l : List Nat) : Prop where
  own : w.ownsRow w0.heap.size 3 1 v l.length (icells l)
  low : Below w0.heap.size w0 w
section
variable {w0 w w' : World} {v vb : Value} {l : List Nat} {lb : List UInt8}
theorem RowI.later (h : RowI w0 w v l) (hb : Below w.heap.size w w') : RowI w0 w' v l :=
  ⟨h.own.kept (grownBy_of_below hb) (by cases v.ownBlock <;> simp), h.low.trans (hb.mono h.low.size)⟩
theorem RowI.form (h : RowI w0 w v l) (hl : 0 < l.length) : ∃ g c, v = .slice (some ⟨g, 0, none⟩) l.length c ∧ l.length ≤ c ∧ g < w.heap.size ∧ ∀ (j n : Nat), l[j]? = some n → w.cell? ⟨g, j, none⟩ = some (.int .i64 (n : Int)) := by
  rcases h.own.2 with ⟨_, h0⟩ | ⟨g, cap, cur, rfl, _, hh, hnc, _⟩
  · omega
  · refine ⟨g, cap, rfl, hnc, (Array.getElem?_eq_some_iff.1 hh).1, fun j n hn => ?_⟩
    have h1 := h.own.cells (g := g) rfl j (.int .i64 (n : Int)) (by simp [icells, hn])
    rw [add_at, Nat.zero_add] at h1
    exact h1
theorem RowI.zero (w : World) : RowI w (w.alloc (.cells #[.int .i64 0] 3)) (.slice (some ⟨w.heap.size, 0, none⟩) 1 1) [0] :=
  ⟨World.ownsRow_lit (base := w.heap.size) (e := 3) (size := 1) w #[.int .i64 0] 1 (Nat.le_refl _) (by unfold maxLen; omega) rfl, (Below.refl _ _).alloc (Nat.le_refl _) _⟩
/-- The bytes grow: the numbers stay. -/
theorem RowI.bytes (h : RowI w0 w v l) (hb : Row w0 w vb lb) (hg : w.grownBy w' vb.ownBlock) (hlow : Below w0.heap.size w0 w') : RowI w0 w' v l :=
  ⟨h.own.kept hg (own_apart h.own hb.own (by decide)), hlow⟩
/-- The numbers grow: the bytes stay. -/
theorem Row.numbers (hb : Row w0 w vb lb) (h : RowI w0 w v l) (hg : w.grownBy w' v.ownBlock) (hlow : Below w0.heap.size w0 w') : Row w0 w' vb lb :=
  ⟨hb.own.kept hg (own_apart hb.own h.own (by decide)), hlow⟩
end

theorem wpList_rowI {w0 w1 : World} {ops : Array Oper} {rest : List Oper} {o : Oper} {a : Act} {Q : Exit → Act → World → Prop} (hgd : o.guard = none) (s x : Operand)
    (ho : o.op = .call { callee := .builtin .append, args := #[s, x], argTypes := #[32, 32] }) {v vb : Value} {l : List Nat} {lb : List UInt8} (hs : a.eval s = v) (h : RowI w0 w1 v l) (hb : Row w0 w1 vb lb)
    (n : Nat) (hx : a.eval x = .slice (some ⟨w1.heap.size, 0, none⟩) 1 1) (hsz : l.length ≤ 1048576)
    (hk : ∀ v' w', RowI w0 w' v' (l ++ [n]) → Row w0 w' vb lb → wpList Try.prog ops Q rest (a.put o.dst v') w') :
    wpList Try.prog ops Q (o :: rest) a (w1.alloc (.cells #[.int .i64 (n : Int)] 3)) := by
  obtain ⟨i, hi, hz0, hz1, hz2⟩ := info_parts Try.infoI
  have hb1 := h.low.alloc h.low.size (.cells #[.int .i64 (n : Int)] 3)
  have hbel : Below w1.heap.size w1 (w1.alloc (.cells #[.int .i64 (n : Int)] 3)) := (Below.refl _ w1).alloc (Nat.le_refl _) _
  refine wpList_append_own _ hgd s x _ ho w0.heap.size 3 i _ 1 8 Try.underlying32 hi hz0 hz1 hz2 rfl (by decide) v l.length _ hs (h.own.alloc _) ⟨w1.heap.size, 0, none⟩ 1 1 [.int .i64 (n : Int)] hx rfl (World.news_of_block (cs := #[.int .i64 (n : Int)]) (t := 3) (fr := (0, 0)) (heap_alloc_new w1 _)) (by simp [Value.oneCell']) (by unfold maxLen; omega) (by omega) hb1.size ?_
  intro v' w' hown' hg _
  have hlow := own_below hb1 hb1.size (h.own.alloc _) hg
  refine hk v' w' ⟨?_, hlow⟩ ((hb.later hbel).numbers (h.later hbel) hg hlow)
  rw [List.length_append, icells_snoc]
  exact hown'

/-- Where frames end. -/
def endsL (ds : List (List UInt8)) (k : Nat) : List Nat := (List.range (k + 1)).map fun j => tot (ds.take j)
theorem endsL_length (ds : List (List UInt8)) (k : Nat) : (endsL ds k).length = k + 1 := by simp [endsL]
theorem endsL_zero (ds : List (List UInt8)) : endsL ds 0 = [0] := by simp [endsL, tot_nil]
theorem endsL_succ (ds : List (List UInt8)) (k : Nat) : endsL ds (k + 1) = endsL ds k ++ [tot (ds.take (k + 1))] := by
  unfold endsL
  rw [List.range_succ, List.map_append]
  rfl
theorem endsL_at (ds : List (List UInt8)) (k j : Nat) (h : j ≤ k) : (endsL ds k)[j]? = some (tot (ds.take j)) := by
  unfold endsL
  rw [List.getElem?_map, List.getElem?_range (by omega)]
  rfl

/-- Which frames are whole. -/
def Whole (ds : List (List UInt8)) (cut m wh : Nat) : Prop := wh < m ∧ tot (ds.take wh) ≤ cut ∧ ∀ j, wh < j → j < m → cut < tot (ds.take j)
theorem Whole.start (ds : List (List UInt8)) (cut : Nat) : Whole ds cut 1 0 := ⟨by omega, by simp [tot_nil], fun j h1 h2 => by omega⟩
theorem Whole.yes {ds : List (List UInt8)} {cut m wh : Nat} (_ : Whole ds cut m wh) (h : tot (ds.take m) ≤ cut) : Whole ds cut (m + 1) m := ⟨by omega, h, fun j h1 h2 => by omega⟩
theorem Whole.no {ds : List (List UInt8)} {cut m wh : Nat} (hw : Whole ds cut m wh) (h : cut < tot (ds.take m)) : Whole ds cut (m + 1) wh :=
  ⟨by have := hw.1; omega, hw.2.1, fun j h1 h2 => by
    by_cases e : j = m
    · subst e; exact h
    · exact hw.2.2 j h1 (by omega)⟩
theorem Whole.scan {ds : List (List UInt8)} {cut wh : Nat} (hw : Whole ds cut (ds.length + 1) wh) (hg : ∀ r ∈ ds, GoodF r) : scanL ((frs ds).take cut) = ds.take wh := by
  refine scan_cut ds hg wh cut hw.2.1 fun r hr => ?_
  have hlt := (List.getElem?_eq_some_iff.1 hr).1
  have h1 := hw.2.2 (wh + 1) (by omega) (by omega)
  rw [take_snoc_of _ _ _ hr, tot_snoc] at h1
  exact h1
theorem tot_good {ds : List (List UInt8)} (hg : ∀ r ∈ ds, GoodF r) : tot ds ≤ ds.length * 1003 := by
  induction ds with
  | nil => simp [tot_nil]
  | cons r l ih =>
    have h1 := ih fun x hx => hg x (by simp [hx])
    have h2 := (hg r (by simp)).2
    rw [tot_cons, List.length_cons]
    omega
theorem frs_take (ds : List (List UInt8)) (wh : Nat) : (frs ds).take (tot (ds.take wh)) = frs (ds.take wh) := by
  have e : frs ds = frs (ds.take wh) ++ frs (ds.drop wh) := by rw [← frs_append, List.take_append_drop]
  rw [e, List.take_left' (frs_length _)]
end Go.Proofs.Ytfnniponjbdamaa
