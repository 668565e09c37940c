/- Rows of slices of bytes in memory. -/
import Derived.Test.YtdeahiccgjldbaaBytN
import Derived.Test.YtdeahiccgjldbaaFrmP
namespace Go.Proofs.Ytdeahiccgjldbaa
open Go.RowKit

/-- The value v reads as the bytes l, in a row of its own from block lo on. -/
abbrev Own8 (w : World) (lo : Nat) (v : Value) (l : List UInt8) : Prop := w.ownsRow lo 5 1 v l.length (bcells l)

/-- A slice of bytes as it lies. -/
structure SlV where
  ad : Option Addr
  cap : Nat
  data : List UInt8
abbrev SlV.v (x : SlV) : Value := .slice x.ad x.data.length x.cap
instance : Inhabited SlV := ⟨⟨none, 0, []⟩⟩
def scells (l : List SlV) : List Value := l.map SlV.v
def datas (l : List SlV) : List (List UInt8) := l.map SlV.data
theorem scells_length (l : List SlV) : (scells l).length = l.length := by simp [scells]
theorem scells_snoc (l : List SlV) (x : SlV) : scells (l ++ [x]) = scells l ++ [x.v] := by simp [scells]
theorem datas_length (l : List SlV) : (datas l).length = l.length := by simp [datas]
theorem datas_snoc (l : List SlV) (x : SlV) : datas (l ++ [x]) = datas l ++ [x.data] := by simp [datas]
theorem datas_take (l : List SlV) (k : Nat) : datas (l.take k) = (datas l).take k := by simp [datas, List.map_take]
theorem datas_at {l : List SlV} {i : Nat} {x : SlV} (h : l[i]? = some x) : (datas l)[i]? = some x.data := by simp [datas, h]

/-- The slice at A reads as the slices l, and lies below block B, with all their bytes. -/
structure Ls (w : World) (B : Nat) (A : Option Addr) (l : List SlV) : Prop where
  at_ : ∀ i x, l[i]? = some x → ∃ b o, A = some ⟨b, o, none⟩ ∧ b < B ∧ w.cell? ⟨b, o + i, none⟩ = some x.v
  data : ∀ x ∈ l, By w B x.ad x.data
  caps : ∀ x ∈ l, x.data.length ≤ x.cap

section
variable {w w' : World} {B B' : Nat} {A : Option Addr} {l : List SlV}
theorem Ls.nil : Ls w B A [] := ⟨fun i x h => by simp at h, fun x h => by simp at h, fun x h => by simp at h⟩
theorem Ls.keep (h : Ls w B A l) (hk : ∀ p : Addr, p.block < B → w'.cell? p = w.cell? p) : Ls w' B A l :=
  ⟨fun i x hx => by
    obtain ⟨b, o, rfl, hb, h1⟩ := h.at_ i x hx
    exact ⟨b, o, rfl, hb, (hk _ hb).trans h1⟩, fun x hx => (h.data x hx).keep hk, h.caps⟩
theorem Ls.below (h : Ls w B A l) (hb : Below B w w') : Ls w' B A l := h.keep fun _ hp => hb.cell hp
theorem Ls.more (h : Ls w B A l) (hB : B ≤ B') : Ls w B' A l :=
  ⟨fun i x hx => by
    obtain ⟨b, o, rfl, hb, h1⟩ := h.at_ i x hx
    exact ⟨b, o, rfl, by omega, h1⟩, fun x hx => (h.data x hx).more hB, h.caps⟩
theorem Ls.later (h : Ls w w.heap.size A l) (hb : Below w.heap.size w w') : Ls w' w'.heap.size A l := (h.below hb).more hb.size
theorem Ls.drew (h : Ls w B A l) : Ls w.drew B A l := ⟨h.at_, fun x hx => (h.data x hx).drew, h.caps⟩
theorem Ls.drewN (h : Ls w B A l) (n : Nat) : Ls (w.drewN n) B A l := ⟨h.at_, fun x hx => (h.data x hx).drewN n, h.caps⟩
theorem Ls.take (h : Ls w B A l) (k : Nat) : Ls w B A (l.take k) :=
  ⟨fun i x hx => h.at_ i x (by rw [List.getElem?_take] at hx; split at hx; exact hx; cases hx), fun x hx => h.data x (List.mem_of_mem_take hx), fun x hx => h.caps x (List.mem_of_mem_take hx)⟩
theorem Ls.of_own {base : Nat} {e : TypeId} {n c : Nat} (h : w.ownsRow base e 1 (.slice A n c) n (scells l)) (hd : ∀ x ∈ l, By w w.heap.size x.ad x.data) (hc : ∀ x ∈ l, x.data.length ≤ x.cap) : Ls w w.heap.size A l := by
  refine ⟨fun i x hx => ?_, hd, hc⟩
  have hi : i < l.length := (List.getElem?_eq_some_iff.1 hx).1
  have hn : n = l.length := by have := h.1; rw [scells_length] at this; omega
  rcases h.2 with ⟨_, h0⟩ | ⟨g, cap, cur, hv, _, hh, _⟩
  · omega
  have hA : A = some ⟨g, 0, none⟩ := by injection hv
  subst hA
  have hlt : g < w.heap.size := (Array.getElem?_eq_some_iff.1 hh).1
  refine ⟨g, 0, rfl, hlt, ?_⟩
  rw [← add_at]
  exact h.cells (g := g) rfl i _ (by simp [scells, hx])
end

/-- Each slice's bytes lie in a row of their own, from block lo on. -/
def OwnAll (w : World) (lo : Nat) (L : List SlV) : Prop := ∀ x ∈ L, Own8 w lo x.v x.data
theorem OwnAll.nil (w : World) (lo : Nat) : OwnAll w lo [] := fun x h => by simp at h
theorem OwnAll.snoc {w : World} {lo : Nat} {L : List SlV} {x : SlV} (h : OwnAll w lo L) (hx : Own8 w lo x.v x.data) : OwnAll w lo (L ++ [x]) := by
  intro y hy
  rcases List.mem_append.1 hy with hy | hy
  · exact h y hy
  · simp at hy; subst hy; exact hx
theorem OwnAll.below {V V' : World} {lo : Nat} {L : List SlV} (h : OwnAll V lo L) (hb : Below V.heap.size V V') : OwnAll V' lo L :=
  fun x hx => (h x hx).kept (grownBy_of_below hb) (by cases hx' : (Value.slice x.ad x.data.length x.cap).ownBlock <;> simp)
theorem own_lower {w : World} {base lo : Nat} {e : TypeId} {size n : Nat} {v : Value} {xs : List Value} (h : w.ownsRow base e size v n xs) (hl : lo ≤ base) : w.ownsRow lo e size v n xs := by
  refine ⟨h.1, ?_⟩
  rcases h.2 with h | ⟨g, cap, cur, h1, h2, h3⟩
  · exact .inl h
  · exact .inr ⟨g, cap, cur, h1, Nat.le_trans hl h2, h3⟩
theorem own_apart {w : World} {b1 b2 : Nat} {e1 e2 : TypeId} {s1 s2 n1 n2 : Nat} {v1 v2 : Value} {x1 x2 : List Value} (h1 : w.ownsRow b1 e1 s1 v1 n1 x1) (h2 : w.ownsRow b2 e2 s2 v2 n2 x2) (hne : e1 ≠ e2) : v1.ownBlock = none ∨ v1.ownBlock ≠ v2.ownBlock := by
  rcases h1.2 with ⟨rfl, _⟩ | ⟨g1, _, _, rfl, _, hh1, _⟩
  · exact .inl rfl
  · rcases h2.2 with ⟨rfl, _⟩ | ⟨g2, _, _, rfl, _, hh2, _⟩
    · exact .inr (by simp [Value.ownBlock])
    · refine .inr fun e => hne ?_
      simp [Value.ownBlock] at e
      subst e
      rw [hh1] at hh2
      injection hh2 with hh2
      injection hh2
/-- A row of another type grows. -/
theorem OwnAll.grown {V V' : World} {lo b n s : Nat} {L : List SlV} {e : TypeId} {v : Value} {xs : List Value} (h : OwnAll V lo L) (ho : V.ownsRow b e s v n xs) (he : e ≠ 5) (hg : V.grownBy V' v.ownBlock) : OwnAll V' lo L :=
  fun x hx => (h x hx).kept hg (own_apart (h x hx) ho (Ne.symm he))
theorem OwnAll.ls {w : World} {lo base : Nat} {A : Option Addr} {c : Nat} {e : TypeId} {L : List SlV} (h : OwnAll w lo L) (ho : w.ownsRow base e 1 (.slice A L.length c) L.length (scells L)) : Ls w w.heap.size A L := by
  refine Ls.of_own ho (fun x hx => By.of_own (h x hx)) fun x hx => ?_
  obtain ⟨A', c', e', hc⟩ := own_form (h x hx)
  injection e' with _ _ e3
  omega

/-- The value v reads as the slices L, made since w0, as all their bytes. -/
structure RowS (w0 w : World) (v : Value) (L : List SlV) : Prop where
  own : w.ownsRow w0.heap.size 40 1 v L.length (scells L)
  all : OwnAll w w0.heap.size L
  low : Below w0.heap.size w0 w
section
variable {w0 w w' : World} {v : Value} {L : List SlV}
theorem RowS.later (h : RowS w0 w v L) (hb : Below w.heap.size w w') : RowS w0 w' v L :=
  ⟨h.own.kept (grownBy_of_below hb) (by cases v.ownBlock <;> simp), h.all.below hb, h.low.trans (hb.mono h.low.size)⟩
theorem RowS.form (h : RowS w0 w v L) : ∃ A c, v = .slice A L.length c ∧ L.length ≤ c ∧ Ls w w.heap.size A L := by
  obtain ⟨A, c, rfl, hc⟩ := own_form h.own
  exact ⟨A, c, rfl, hc, h.all.ls h.own⟩
theorem RowS.drewN (h : RowS w0 w v L) (n : Nat) : RowS w0 (w.drewN n) v L := ⟨h.own, h.all, ⟨h.low.os, h.low.tape, h.low.output, h.low.size, h.low.block⟩⟩
theorem RowS.none_ (w : World) : RowS w w (.slice none 0 0) [] := ⟨⟨rfl, .inl ⟨rfl, rfl⟩⟩, OwnAll.nil _ _, Below.refl _ _⟩
theorem OwnAll.lower {lo lo' : Nat} (h : OwnAll w lo L) (hl : lo' ≤ lo) : OwnAll w lo' L := fun x hx => own_lower (h x hx) hl
theorem RowS.early {w00 : World} (h : RowS w0 w v L) (hb : Below w00.heap.size w00 w0) : RowS w00 w v L :=
  ⟨own_lower h.own hb.size, h.all.lower hb.size, hb.trans (h.low.mono hb.size)⟩
end

theorem Try.infoS : (Try.prog.info? 40).map (fun i => (i.zero, i.size, i.bytes)) = some (some (.slice none 0 0), 1, 24) := by kernel_rfl

/-- Slices cut off behind. -/
theorem run_headS (A : Option Addr) (n c : Nat) (hi : Int) (h1 : 0 ≤ hi) (h2 : hi ≤ c) (W : World) :
    (Instr.slice 41 (.slice A n c) none (some (.int .i64 hi)) none).run Try.prog W = .ok (.slice A hi.toNat c) W := by
  obtain ⟨i, hi', hz0, hz1, hz2⟩ := info_parts Try.infoS
  have c1 : 0 ≤ hi ∧ hi ≤ (c : Int) := ⟨h1, h2⟩
  cases A with
  | none => simp [Instr.slice, run_underlying Try.underlying41, Instr.sliceBounds, Instr.sliceBound, asIntOf, if_pos c1, sizeOf, typeInfo, hi']
  | some a => simp [Instr.slice, run_underlying Try.underlying41, Instr.sliceBounds, Instr.sliceBound, asIntOf, if_pos c1, sizeOf, typeInfo, hi', Addr.add]
end Go.Proofs.Ytdeahiccgjldbaa
