/- Rows of another kind beside a disk: what a change of the disk leaves alone, what their growing leaves alone; rows of bools. -/
import Derived.Test.YtdeahiccgjldbaaWalW
namespace Go.Proofs.Ytdeahiccgjldbaa
open Go.RowKit

section
variable {ty lty e : TypeId} {base b n : Nat} {w w' : World} {D L : Nat} {s s' : DS} {u v : Value} {xs : List Value}
/-- A row of another type lies in none of the disk's blocks. -/
theorem row_oth (hd : DAt ty base w D s v) (ho : w.ownsRow b e 1 u n xs) (h1 : e ≠ ty) (h2 : e ≠ 5) : ∀ k, u.ownBlock = some k → Oth w D v k := by
  intro k hk
  rcases ho.2 with ⟨rfl, _⟩ | ⟨g, cap, cur, rfl, _, hg, _⟩
  · cases hk
  · simp [Value.ownBlock] at hk
    subst hk
    refine ⟨(Array.getElem?_eq_some_iff.1 hg).1, fun e => ?_, fun e => ?_⟩
    · subst e
      have hb := hd.box
      rw [hg] at hb
      injection hb with hb
      injection hb with _ hb
      exact h1 hb
    · rcases hd.own.2 with ⟨e2, _⟩ | ⟨g2, cap2, cur2, e2, _, hg2, _⟩
      · rw [e2] at e; cases e
      · rw [e2] at e
        simp [Value.ownBlock] at e
        subst e
        rw [hg] at hg2
        injection hg2 with hg2
        injection hg2 with _ hg2
        exact h2 hg2
theorem row_did (ho : w.ownsRow b e 1 u n xs) (hd : DAt ty base w D s v) (h1 : e ≠ ty) (h2 : e ≠ 5) (hdid : Did ty base w D v w' s') : w'.ownsRow b e 1 u n xs := by
  have hp := row_oth hd ho h1 h2
  obtain ⟨_, _, hk, _⟩ := hdid
  exact own_kp ho hk hp
theorem DAt.grown (hd : DAt ty base w D s v) (ho : w.ownsRow b e 1 u n xs) (h1 : e ≠ ty) (h2 : e ≠ 5) (hg : w.grownBy w' u.ownBlock) : DAt ty base w' D s v := by
  have hp := row_oth hd ho h1 h2
  refine hd.kp (P := fun k => k < w.heap.size ∧ some k ≠ u.ownBlock) (Kp.of_grown hg fun k hk => hk) ⟨hd.dlt, fun e => (hp D e.symm).2.1 rfl⟩ fun k hk => ⟨(hd.ob k hk).2, fun e => (hp k e.symm).2.2 hk⟩
theorem LAt.grown (hl : LAt lty w L D) (ho : w.ownsRow b e 1 u n xs) (h1 : e ≠ lty) (hg : w.grownBy w' u.ownBlock) : LAt lty w' L D := by
  refine (hg.block L hl.lt fun hk => ?_).trans hl
  rcases ho.2 with ⟨rfl, _⟩ | ⟨g, cap, cur, rfl, _, hh, _⟩
  · cases hk
  · simp [Value.ownBlock] at hk
    subst hk
    unfold LAt at hl
    rw [hh] at hl
    injection hl with hl
    injection hl with _ hl
    exact h1 hl
end

theorem wpList_rowA {w1 : World} {ops : Array Oper} {rest : List Oper} {o : Oper} {a : Act} {Q : Exit → Act → World → Prop} (hgd : o.guard = none) (s x : Operand)
    (ho : o.op = .call { callee := .builtin .append, args := #[s, x], argTypes := #[41, 41] }) {v : Value} {L : List SlV} {b : Nat} (hs : a.eval s = v) (h : w1.ownsRow b 40 1 v L.length (scells L)) (hb : b ≤ w1.heap.size)
    (x0 : SlV) (hx : a.eval x = .slice (some ⟨w1.heap.size, 0, none⟩) 1 1) (hsz : L.length ≤ 1048576)
    (hk : ∀ v' w', w'.ownsRow b 40 1 v' (L ++ [x0]).length (scells (L ++ [x0])) → (w1.alloc (.cells #[x0.v] 40)).grownBy w' v.ownBlock → wpList Try.prog ops Q rest (a.put o.dst v') w') :
    wpList Try.prog ops Q (o :: rest) a (w1.alloc (.cells #[x0.v] 40)) := by
  obtain ⟨i, hi, hz0, hz1, hz2⟩ := info_parts Try.infoS
  refine wpList_append_own _ hgd s x _ ho b 40 i _ 1 24 Try.underlying41 hi hz0 hz1 hz2 rfl (by decide) v L.length _ hs (h.alloc _) ⟨w1.heap.size, 0, none⟩ 1 1 [x0.v] hx rfl (World.news_of_block (cs := #[x0.v]) (t := 40) (fr := (0, 0)) (heap_alloc_new w1 _)) (by simp [Value.oneCell']) (by unfold maxLen; omega) (by omega) (Nat.le_trans hb (by show _ ≤ (w1.heap.push _).size; rw [Array.size_push]; omega)) ?_
  intro v' w' hown' hg _
  refine hk v' w' ?_ hg
  rw [List.length_append, scells_snoc]
  exact hown'

/-- The slice at A reads as the bools l, and lies below block B. -/
structure Bs (w : World) (B : Nat) (A : Option Addr) (l : List Bool) : Prop where
  at_ : ∀ i x, l[i]? = some x → ∃ b o, A = some ⟨b, o, none⟩ ∧ b < B ∧ w.cell? ⟨b, o + i, none⟩ = some (.bool x)
theorem Bs.keep {w w' : World} {B : Nat} {A : Option Addr} {l : List Bool} (h : Bs w B A l) (hk : ∀ p : Addr, p.block < B → w'.cell? p = w.cell? p) : Bs w' B A l :=
  ⟨fun i x hx => by
    obtain ⟨b, o, rfl, hb, h1⟩ := h.at_ i x hx
    exact ⟨b, o, rfl, hb, (hk _ hb).trans h1⟩⟩
theorem Bs.below {w w' : World} {B : Nat} {A : Option Addr} {l : List Bool} (h : Bs w B A l) (hb : Below B w w') : Bs w' B A l := h.keep fun _ hp => hb.cell hp

/-- Behind some records: the log, its disk, what was appended (all), how many of these were synced. -/
structure LasI (W0 : World) (D Lg : Nat) (K : List SlV) (wr : World) (u : Value) (Lo : List SlV) (sure : Nat) : Prop where
  own : wr.ownsRow W0.heap.size 40 1 u Lo.length (scells Lo)
  mem : ∀ x ∈ Lo, x ∈ K
  lg : LAt LT wr Lg D
  low : Below W0.heap.size W0 wr
  ge : W0.heap.size ≤ D
  disk : ∃ s v, DAt DT (D + 1) wr D s v ∧ s.Ok ∧ Lst s (datas Lo) sure

section
variable {W0 wr : World} {D Lg : Nat} {K Lo : List SlV} {u : Value} {sure : Nat}
/-- What was appended reads as it was. -/
theorem LasI.ls {w1 : World} {B : Nat} {A Ak : Option Addr} {c : Nat} (ho : w1.ownsRow W0.heap.size 40 1 (.slice A Lo.length c) Lo.length (scells Lo)) (hm : ∀ x ∈ Lo, x ∈ K) (hK : Ls w1 B Ak K) (hB : B ≤ w1.heap.size) : Ls w1 w1.heap.size A Lo :=
  Ls.of_own ho (fun x hx => (hK.data x (hm x hx)).more hB) (fun x hx => hK.caps x (hm x hx))

/-- A change of the disk. -/
theorem LasI.did {s s' : DS} {v : Value} {w1 : World} {sure' : Nat} (h : LasI W0 D Lg K wr u Lo sure) (hd : DAt DT (D + 1) wr D s v) (hdid : Did DT (D + 1) wr D v w1 s') (hok : s'.Ok) (hl : Lst s' (datas Lo) sure') : LasI W0 D Lg K w1 u Lo sure' := by
  refine ⟨row_did h.own hd (by decide) (by decide) hdid, h.mem, h.lg.did hd (by decide) (by decide) hdid, h.low.trans (Did.low hd h.ge hdid), h.ge, ?_⟩
  obtain ⟨v', k1, _, _⟩ := hdid
  exact ⟨s', v', k1, hok, hl⟩
/-- A record was appended, and is kept in the list, too. -/
theorem LasI.app {s : DS} {v : Value} {w1 : World} {x : SlV} {u' : Value} (ho : wr.ownsRow W0.heap.size 40 1 u Lo.length (scells Lo)) (hm : ∀ x ∈ Lo, x ∈ K) (hx : x ∈ K) (hlg : LAt LT wr Lg D) (hlow : Below W0.heap.size W0 wr) (hge : W0.heap.size ≤ D) (hd : DAt DT (D + 1) wr D s v) (hok : s.Ok) (hl : Lst s (datas Lo ++ [x.data]) sure)
    (hown : w1.ownsRow W0.heap.size 40 1 u' (Lo ++ [x]).length (scells (Lo ++ [x]))) (hg : (wr.alloc (.cells #[x.v] 40)).grownBy w1 u.ownBlock) : LasI W0 D Lg K w1 u' (Lo ++ [x]) sure := by
  have hoa := ho.alloc (.cells #[x.v] 40)
  have hla := hlg.below ((Below.refl _ _).alloc (Nat.le_refl _) (.cells #[x.v] 40))
  have hba := hlow.alloc hlow.size (.cells #[x.v] 40)
  refine ⟨hown, fun y hy => ?_, hla.grown hoa (by decide) hg, own_below hba hba.size hoa hg, hge, s, v, (hd.alloc _).grown hoa (by decide) (by decide) hg, hok, by rw [datas_snoc]; exact hl⟩
  rcases List.mem_append.1 hy with hy | hy
  · exact hm y hy
  · obtain rfl := List.mem_singleton.1 hy
    exact hx
end

end Go.Proofs.Ytdeahiccgjldbaa
