/- ContactLives: two contacts, what both said, and the law's four arrays in memory (LivS); pure: what holds of them (LivI). Written by wip/tools/genliv.py. -/
import Derived.Test.YtfikdocpcepmmaaConS
namespace Go.Proofs.Ytfikdocpcepmmaa
open Go.RowKit Go.Sort

/-! ## Pure -/
theorem take_cases (c : ConV) (m : MsgV) (now : Int) : ((c.take m now).2.2 ≠ 0 ∧ (c.take m now).1 = c) ∨
    ((c.take m now).2.2 = 0 ∧ c.old m = false ∧ ((m.kind = 1 ∧ (c.take m now).1 = c.hears m now) ∨ (¬ m.kind = 1 ∧ (c.take m now).1 = { c with at_ := now }))) := by
  unfold ConV.take
  split
  · split
    · split
      · exact .inl ⟨(by decide : (8 : Int) ≠ 0), rfl⟩
      · rename_i ho
        split
        · rename_i hk
          exact .inr ⟨rfl, by simpa using ho, .inl ⟨hk, rfl⟩⟩
        · rename_i hk
          exact .inr ⟨rfl, by simpa using ho, .inr ⟨hk, rfl⟩⟩
    · exact .inl ⟨(by decide : (2 : Int) ≠ 0), rfl⟩
  · exact .inl ⟨(by decide : (1 : Int) ≠ 0), rfl⟩
theorem old_hello {c : ConV} {m : MsgV} (hk : m.kind = 1) (h : c.old m = false) : c.known < m.life ∨ (c.known = m.life ∧ c.heard < m.xid) := by
  by_cases h0 : m.life < c.known
  · rw [old_h0 hk h0] at h; cases h
  · by_cases h1 : m.life = c.known
    · rw [old_h1 hk h0 h1] at h
      have := of_decide_eq_false h
      exact .inr ⟨h1.symm, by omega⟩
    · exact .inl (by omega)
theorem old_else {c : ConV} {m : MsgV} (hk : ¬ m.kind = 1) (h : c.old m = false) : m.life = c.known ∧ m.seen = c.life := by
  by_cases h1 : m.life = c.known
  · by_cases h2 : m.seen = c.life
    · exact ⟨h1, h2⟩
    · rw [old_n1 hk h1 h2] at h; cases h
  · rw [old_n0 hk h1] at h; cases h
theorem tick_same (c : ConV) (now : Int) : (c.tick now).1.life = c.life ∧ (c.tick now).1.said = c.said ∧ (c.tick now).1.known = c.known ∧ (c.tick now).1.heard = c.heard := by
  unfold ConV.tick
  split
  · split
    · exact ⟨rfl, rfl, rfl, rfl⟩
    · exact ⟨rfl, rfl, rfl, rfl⟩
  · exact ⟨rfl, rfl, rfl, rfl⟩
/-- What holds of one of the two, as to the other one's life. -/
structure LivH (c : ConV) (l lo : Int) (S : List MsgV) (j : Nat) : Prop where
  ok : c.Ok
  life : c.life = l
  l1 : 1 ≤ l
  lj : l ≤ (j : Int) + 1
  said : c.said ≤ (j : Int)
  known : c.known ≤ lo
  lives : ∀ m ∈ S, m.life ≤ l ∧ m.addr < 4294967296
  len : S.length ≤ j
theorem LivH.more {c : ConV} {l lo : Int} {S : List MsgV} {j : Nat} (h : LivH c l lo S j) : LivH c l lo S (j + 1) := ⟨h.ok, h.life, h.l1, by have := h.lj; omega, by have := h.said; omega, h.known, h.lives, by have := h.len; omega⟩
theorem LivH.lo {c : ConV} {l lo lo' : Int} {S : List MsgV} {j : Nat} (h : LivH c l lo S j) (hl : lo ≤ lo') : LivH c l lo' S j := ⟨h.ok, h.life, h.l1, h.lj, h.said, by have := h.known; omega, h.lives, h.len⟩
theorem LivH.said_ {c c' : ConV} {l lo : Int} {S : List MsgV} {j : Nat} (h : LivH c l lo S j) (hok : c'.Ok) (h1 : c'.life = c.life) (h2 : c'.said ≤ c.said + 1) (h3 : c'.known = c.known) (m : MsgV) (hm : m.life = l) (ha : m.addr < 4294967296) : LivH c' l lo (S ++ [m]) (j + 1) :=
  ⟨hok, h1.trans h.life, h.l1, by have := h.lj; omega, by have := h.said; omega, by rw [h3]; exact h.known, fun x hx => by
    rcases List.mem_append.1 hx with hx | hx
    · exact h.lives x hx
    · obtain rfl := List.mem_singleton.1 hx
      exact ⟨by omega, ha⟩, by rw [List.length_append]; have := h.len; simp; omega⟩
theorem LivH.takes {c : ConV} {l lo : Int} {S : List MsgV} {j : Nat} (h : LivH c l lo S j) {m : MsgV} (hm : m.life ≤ lo) (now : Int) : LivH (c.take m now).1 l lo S (j + 1) := by
  have hok := take_okC h.ok m now
  have h1 := h.lj
  have h2 := h.said
  have h3 := h.len
  rcases take_cases c m now with ⟨_, e⟩ | ⟨_, _, ⟨_, e⟩ | ⟨_, e⟩⟩
  · rw [e]; exact h.more
  · rw [e] at hok ⊢
    exact ⟨hok, h.life, h.l1, by omega, by show c.said ≤ _; omega, hm, h.lives, by omega⟩
  · rw [e] at hok ⊢
    exact ⟨hok, h.life, h.l1, by omega, by show c.said ≤ _; omega, h.known, h.lives, by omega⟩
theorem LivH.ticks {c : ConV} {l lo : Int} {S : List MsgV} {j : Nat} (h : LivH c l lo S j) (now : Int) : LivH (c.tick now).1 l lo S (j + 1) := by
  obtain ⟨e1, e2, e3, _⟩ := tick_same c now
  exact ⟨tick_okC h.ok now, e1.trans h.life, h.l1, by have := h.lj; omega, by rw [e2]; have := h.said; omega, by rw [e3]; exact h.known, h.lives, by have := h.len; omega⟩
theorem LivH.anew {c : ConV} {l lo : Int} {S : List MsgV} {j : Nat} (h : LivH c l lo S j) (h0 : 1 ≤ lo) : LivH (newC (l + 1)) (l + 1) lo S (j + 1) :=
  ⟨new_okC _, rfl, by have := h.l1; omega, by have := h.lj; omega, by show (0 : Int) ≤ _; omega, by show (0 : Int) ≤ lo; omega, fun m hm => by have := h.lives m hm; exact ⟨by omega, this.2⟩, by have := h.len; omega⟩

/-! ## In memory -/
/-- An append in a region that draws its order, that tells where the row lies, too. -/
theorem step_rowA {P : Program} {V : Type} {E : Elem P V} {w0 w : World} {ops : Array Oper} {o : Oper} {a : Act} {K : Act → World → Prop} {Q : Exit → Act → World → Prop} {F : Prop} (hgd : o.guard = none) (s x : Operand)
    (ho : o.op = .call { callee := .builtin .append, args := #[s, x], argTypes := #[E.ty, E.ty] }) {v : Value} {l : List V} (hs : a.eval s = v) (h : RowE E w0 w v l)
    {B : Nat} {A : Option Addr} (l2 : List V) {m c : Nat} (hm : l2.length = m) (hx : a.eval x = .slice A m c) (hr : El E w B A l2) (hsz : l.length + l2.length ≤ 100000000000)
    (hk : ∀ A' c' w' l3, Hid (l3 = l ++ l2) → RowE E w0 w' (.slice A' l3.length c') l3 → l3.length ≤ c' → w.grownBy w' v.ownBlock → ((Value.slice A' l3.length c').ownBlock = v.ownBlock ∨ (Value.slice A' l3.length c').ownBlock = some w.heap.size) → K (a.put o.dst (.slice A' l3.length c')) w') :
    if Region.wanted o (yielded ops a.tmps) = true then Oper.wp P o a w K Q else F := by
  subst hm
  rw [if_pos (by simp [Region.wanted, hgd])]
  obtain ⟨v', w', h1, h2, h3, h7⟩ := run_appE w w0.heap.size o.type h.own c hr (E.small hsz) h.low.size
  have h4 : RowE E w0 w' v' (l ++ l2) := h.grows (by rw [List.length_append, ecells_append]; exact h2) h3
  unfold Oper.wp execOp
  simp only [ho, resolve, invoke, builtin, Sem.run_bind, Sem.run_pure, Result.andThen_ok, List.map_toArray, List.map_cons, List.map_nil, hs, hx, h1]
  obtain ⟨A', c', rfl, h5, h6⟩ := h4.form
  exact hk A' c' w' _ (Lib.hid rfl) h4 h5 h3 h7

/-- The same where the order is fixed. -/
theorem wpList_rowA {P : Program} {V : Type} {E : Elem P V} {w0 w : World} {ops : Array Oper} {rest : List Oper} {o : Oper} {a : Act} {Q : Exit → Act → World → Prop} (hgd : o.guard = none) (s x : Operand)
    (ho : o.op = .call { callee := .builtin .append, args := #[s, x], argTypes := #[E.ty, E.ty] }) {v : Value} {l : List V} (hs : a.eval s = v) (h : RowE E w0 w v l)
    {B : Nat} {A : Option Addr} (l2 : List V) {m c : Nat} (hm : l2.length = m) (hx : a.eval x = .slice A m c) (hr : El E w B A l2) (hsz : l.length + l2.length ≤ 100000000000)
    (hk : ∀ A' c' w' l3, Hid (l3 = l ++ l2) → RowE E w0 w' (.slice A' l3.length c') l3 → l3.length ≤ c' → w.grownBy w' v.ownBlock → ((Value.slice A' l3.length c').ownBlock = v.ownBlock ∨ (Value.slice A' l3.length c').ownBlock = some w.heap.size) → wpList P ops Q rest (a.put o.dst (.slice A' l3.length c')) w') :
    wpList P ops Q (o :: rest) a w := by
  subst hm
  refine wpList_plain hgd fun K hK => ?_
  obtain ⟨v', w', h1, h2, h3, h7⟩ := run_appE w w0.heap.size o.type h.own c hr (E.small hsz) h.low.size
  have h4 : RowE E w0 w' v' (l ++ l2) := h.grows (by rw [List.length_append, ecells_append]; exact h2) h3
  unfold Oper.wp execOp
  simp only [ho, resolve, invoke, builtin, Sem.run_bind, Sem.run_pure, Result.andThen_ok, List.map_toArray, List.map_cons, List.map_nil, hs, hx, h1]
  obtain ⟨A', c', rfl, h5, h6⟩ := h4.form
  exact hK _ _ (hk A' c' w' _ (Lib.hid rfl) h4 h5 h3 h7)

theorem storeM_cell (W : World) (z : Nat) (q : MsgV) {b : Nat} (h : b ≠ z) (i : Nat) : (storeM W z q).cell? ⟨b, i, none⟩ = W.cell? ⟨b, i, none⟩ := by
  have hb : (storeM W z q).heap[b]? = W.heap[b]? := (storeM_kp W z q).block b h
  generalize storeM W z q = V at hb ⊢
  exact World.cell?_of_block hb

abbrev tX : TypeId := 43
abbrev tL : TypeId := 44
abbrev tS : TypeId := 46
abbrev tH : TypeId := 47
abbrev i6 (n : Int) : Value := .int .i64 n
/-- Both contacts, both lists of what was said, and the arrays. -/
structure LivS (w0 w : World) (g k bx bl bs bh : Nat) (a b : ConV) (l0 l1 h0 h1 h2 h3 : Int) (v0 v1 : Value) (S0 S1 : List MsgV) : Prop where
  pa : PAt w g a
  pb : PAt w k b
  ne : g ≠ k
  x : CAt tX w bx #[ptrV g, ptrV k]
  l : CAt tL w bl #[i6 l0, i6 l1]
  s : CAt tS w bs #[v0, v1]
  h : CAt tH w bh #[i6 h0, i6 h1, i6 h2, i6 h3]
  r0 : w.ownsRow w0.heap.size ElemM.e ElemM.m v0 S0.length (ecells ElemM S0)
  r1 : w.ownsRow w0.heap.size ElemM.e ElemM.m v1 S1.length (ecells ElemM S1)
  ap : ∀ b, v0.ownBlock = some b → v1.ownBlock ≠ some b
  low : Below w0.heap.size w0 w
  ga : w0.heap.size ≤ g
  gb : w0.heap.size ≤ k
  gx : w0.heap.size ≤ bx
  gl : w0.heap.size ≤ bl
  gs : w0.heap.size ≤ bs
  gh : w0.heap.size ≤ bh
section
variable {w0 w w' : World} {g k bx bl bs bh g' : Nat} {a b a' b' : ConV} {l0 l1 h0 h1 h2 h3 n n' : Int} {v0 v1 v' : Value} {S0 S1 S' : List MsgV}
theorem row_set {v : Value} {S : List MsgV} {q i : Nat} {t : TypeId} {cs : Array Value} (h : w.ownsRow w0.heap.size ElemM.e ElemM.m v S.length (ecells ElemM S)) (hq : CAt t w q cs) (ht : t ≠ ElemM.e) (u : Value) : (w.setCell ⟨q, i, none⟩ u).ownsRow w0.heap.size ElemM.e ElemM.m v S.length (ecells ElemM S) :=
  own_keep h fun b hb => Below.heap_setCell w ⟨q, i, none⟩ u b (fun e => own_other h hq ht (by rw [hb]; exact congrArg some e))
theorem row_way {v : Value} {S : List MsgV} {q : Nat} {c : ConV} (h : w.ownsRow w0.heap.size ElemM.e ElemM.m v S.length (ecells ElemM S)) (hq : PAt w q c) (hw : Way (One q) w (One q) w') : w'.ownsRow w0.heap.size ElemM.e ElemM.m v S.length (ecells ElemM S) :=
  own_keep h fun b hb => hw.oth.block b (h.lt b hb).2 (fun e => own_other h hq (by decide) (by rw [hb]; exact congrArg some e))
theorem cat_grown {t : TypeId} {q : Nat} {cs : Array Value} {v : Value} {S : List MsgV} (hq : CAt t w q cs) (h : w.ownsRow w0.heap.size ElemM.e ElemM.m v S.length (ecells ElemM S)) (ht : t ≠ ElemM.e) (hg : w.grownBy w' v.ownBlock) : CAt t w' q cs :=
  (hg.block q hq.lt (fun e => own_other h hq ht e.symm)).trans hq
theorem LivS.later (L : LivS w0 w g k bx bl bs bh a b l0 l1 h0 h1 h2 h3 v0 v1 S0 S1) (hb : Below w.heap.size w w') : LivS w0 w' g k bx bl bs bh a b l0 l1 h0 h1 h2 h3 v0 v1 S0 S1 :=
  ⟨CAt.later L.pa hb, CAt.later L.pb hb, L.ne, L.x.later hb, L.l.later hb, L.s.later hb, L.h.later hb, own_keep L.r0 fun b hk => hb.block b (L.r0.lt b hk).2, own_keep L.r1 fun b hk => hb.block b (L.r1.lt b hk).2, L.ap, L.low.trans (hb.mono L.low.size), L.ga, L.gb, L.gx, L.gl, L.gs, L.gh⟩
theorem LivS.drewN (L : LivS w0 w g k bx bl bs bh a b l0 l1 h0 h1 h2 h3 v0 v1 S0 S1) (n : Nat) : LivS w0 (w.drewN n) g k bx bl bs bh a b l0 l1 h0 h1 h2 h3 v0 v1 S0 S1 := L.later ⟨rfl, rfl, rfl, Nat.le_refl _, fun _ _ => rfl⟩
theorem LivS.con0 (L : LivS w0 w g k bx bl bs bh a b l0 l1 h0 h1 h2 h3 v0 v1 S0 S1) (hp : PAt w' g a') (hw : Way (One g) w (One g) w') : LivS w0 w' g k bx bl bs bh a' b l0 l1 h0 h1 h2 h3 v0 v1 S0 S1 :=
  ⟨hp, CAt.way L.pb hw (fun e => L.ne e.symm), L.ne, L.x.way hw (fun e => CAt.ne L.x L.pa (by decide) e), L.l.way hw (fun e => CAt.ne L.l L.pa (by decide) e), L.s.way hw (fun e => CAt.ne L.s L.pa (by decide) e), L.h.way hw (fun e => CAt.ne L.h L.pa (by decide) e), row_way L.r0 L.pa hw, row_way L.r1 L.pa hw, L.ap, L.low.trans (hw.one_below L.low.size L.ga), L.ga, L.gb, L.gx, L.gl, L.gs, L.gh⟩
theorem LivS.setL0 (L : LivS w0 w g k bx bl bs bh a b l0 l1 h0 h1 h2 h3 v0 v1 S0 S1) (n : Int) : LivS w0 (w.setCell ⟨bl, 0, none⟩ (i6 n)) g k bx bl bs bh a b n l1 h0 h1 h2 h3 v0 v1 S0 S1 :=
  ⟨CAt.other L.pa (CAt.ne L.pa L.l (by decide)) _, CAt.other L.pb (CAt.ne L.pb L.l (by decide)) _, L.ne, L.x.other (CAt.ne L.x L.l (by decide)) _, L.l.store 0 _, L.s.other (CAt.ne L.s L.l (by decide)) _, L.h.other (CAt.ne L.h L.l (by decide)) _, row_set L.r0 L.l (by decide) _, row_set L.r1 L.l (by decide) _, L.ap, L.low.trans ((Below.refl _ w).setCell (p := ⟨bl, 0, none⟩) L.gl _), L.ga, L.gb, L.gx, L.gl, L.gs, L.gh⟩
theorem LivS.setX0 (L : LivS w0 w g k bx bl bs bh a b l0 l1 h0 h1 h2 h3 v0 v1 S0 S1) (hp : PAt w g' a') (hn : g' ≠ k) (hg : w0.heap.size ≤ g') : LivS w0 (w.setCell ⟨bx, 0, none⟩ (ptrV g')) g' k bx bl bs bh a' b l0 l1 h0 h1 h2 h3 v0 v1 S0 S1 :=
  ⟨CAt.other hp (CAt.ne hp L.x (by decide)) _, CAt.other L.pb (CAt.ne L.pb L.x (by decide)) _, hn, L.x.store 0 _, L.l.other (CAt.ne L.l L.x (by decide)) _, L.s.other (CAt.ne L.s L.x (by decide)) _, L.h.other (CAt.ne L.h L.x (by decide)) _, row_set L.r0 L.x (by decide) _, row_set L.r1 L.x (by decide) _, L.ap, L.low.trans ((Below.refl _ w).setCell (p := ⟨bx, 0, none⟩) L.gx _), hg, L.gb, L.gx, L.gl, L.gs, L.gh⟩
theorem LivS.setH0 (L : LivS w0 w g k bx bl bs bh a b l0 l1 h0 h1 h2 h3 v0 v1 S0 S1) (n : Int) : LivS w0 (w.setCell ⟨bh, 0, none⟩ (i6 n)) g k bx bl bs bh a b l0 l1 n h1 h2 h3 v0 v1 S0 S1 :=
  ⟨CAt.other L.pa (CAt.ne L.pa L.h (by decide)) _, CAt.other L.pb (CAt.ne L.pb L.h (by decide)) _, L.ne, L.x.other (CAt.ne L.x L.h (by decide)) _, L.l.other (CAt.ne L.l L.h (by decide)) _, L.s.other (CAt.ne L.s L.h (by decide)) _, L.h.store 0 _, row_set L.r0 L.h (by decide) _, row_set L.r1 L.h (by decide) _, L.ap, L.low.trans ((Below.refl _ w).setCell (p := ⟨bh, 0, none⟩) L.gh _), L.ga, L.gb, L.gx, L.gl, L.gs, L.gh⟩
theorem LivS.setH1 (L : LivS w0 w g k bx bl bs bh a b l0 l1 h0 h1 h2 h3 v0 v1 S0 S1) (n : Int) : LivS w0 (w.setCell ⟨bh, 1, none⟩ (i6 n)) g k bx bl bs bh a b l0 l1 h0 n h2 h3 v0 v1 S0 S1 :=
  ⟨CAt.other L.pa (CAt.ne L.pa L.h (by decide)) _, CAt.other L.pb (CAt.ne L.pb L.h (by decide)) _, L.ne, L.x.other (CAt.ne L.x L.h (by decide)) _, L.l.other (CAt.ne L.l L.h (by decide)) _, L.s.other (CAt.ne L.s L.h (by decide)) _, L.h.store 1 _, row_set L.r0 L.h (by decide) _, row_set L.r1 L.h (by decide) _, L.ap, L.low.trans ((Below.refl _ w).setCell (p := ⟨bh, 1, none⟩) L.gh _), L.ga, L.gb, L.gx, L.gl, L.gs, L.gh⟩
theorem LivS.grow0 (L : LivS w0 w g k bx bl bs bh a b l0 l1 h0 h1 h2 h3 v0 v1 S0 S1) (hr : RowE ElemM w0 w' v' S') (hg : w.grownBy w' v0.ownBlock) (hb : v'.ownBlock = v0.ownBlock ∨ v'.ownBlock = some w.heap.size) : LivS w0 (w'.setCell ⟨bs, 0, none⟩ v') g k bx bl bs bh a b l0 l1 h0 h1 h2 h3 v' v1 S' S1 := by
  have hs : CAt tS w' bs #[v0, v1] := cat_grown L.s L.r0 (by decide) hg
  have ho : w'.ownsRow w0.heap.size ElemM.e ElemM.m v1 S1.length (ecells ElemM S1) := own_keep L.r1 fun b hb => hg.block b (L.r1.lt b hb).2 (fun e => L.ap b e.symm hb)
  exact ⟨CAt.other (cat_grown L.pa L.r0 (by decide) hg) (CAt.ne (cat_grown L.pa L.r0 (by decide) hg) hs (by decide)) _, CAt.other (cat_grown L.pb L.r0 (by decide) hg) (CAt.ne (cat_grown L.pb L.r0 (by decide) hg) hs (by decide)) _, L.ne, CAt.other (cat_grown L.x L.r0 (by decide) hg) (CAt.ne (cat_grown L.x L.r0 (by decide) hg) hs (by decide)) _, CAt.other (cat_grown L.l L.r0 (by decide) hg) (CAt.ne (cat_grown L.l L.r0 (by decide) hg) hs (by decide)) _, hs.store 0 _, CAt.other (cat_grown L.h L.r0 (by decide) hg) (CAt.ne (cat_grown L.h L.r0 (by decide) hg) hs (by decide)) _, row_set hr.own hs (by decide) _, row_set ho hs (by decide) _, fun b e1 e2 => by
      rcases hb with hb | hb
      · exact L.ap b (by rw [← hb]; exact e1) e2
      · rw [hb] at e1
        injection e1 with e1
        have := (L.r1.lt b e2).2
        omega, hr.low.trans ((Below.refl _ w').setCell (p := ⟨bs, 0, none⟩) L.gs _), L.ga, L.gb, L.gx, L.gl, L.gs, L.gh⟩
theorem LivS.con1 (L : LivS w0 w g k bx bl bs bh a b l0 l1 h0 h1 h2 h3 v0 v1 S0 S1) (hp : PAt w' k b') (hw : Way (One k) w (One k) w') : LivS w0 w' g k bx bl bs bh a b' l0 l1 h0 h1 h2 h3 v0 v1 S0 S1 :=
  ⟨CAt.way L.pa hw (fun e => L.ne e), hp, L.ne, L.x.way hw (fun e => CAt.ne L.x L.pb (by decide) e), L.l.way hw (fun e => CAt.ne L.l L.pb (by decide) e), L.s.way hw (fun e => CAt.ne L.s L.pb (by decide) e), L.h.way hw (fun e => CAt.ne L.h L.pb (by decide) e), row_way L.r0 L.pb hw, row_way L.r1 L.pb hw, L.ap, L.low.trans (hw.one_below L.low.size L.gb), L.ga, L.gb, L.gx, L.gl, L.gs, L.gh⟩
theorem LivS.setL1 (L : LivS w0 w g k bx bl bs bh a b l0 l1 h0 h1 h2 h3 v0 v1 S0 S1) (n : Int) : LivS w0 (w.setCell ⟨bl, 1, none⟩ (i6 n)) g k bx bl bs bh a b l0 n h0 h1 h2 h3 v0 v1 S0 S1 :=
  ⟨CAt.other L.pa (CAt.ne L.pa L.l (by decide)) _, CAt.other L.pb (CAt.ne L.pb L.l (by decide)) _, L.ne, L.x.other (CAt.ne L.x L.l (by decide)) _, L.l.store 1 _, L.s.other (CAt.ne L.s L.l (by decide)) _, L.h.other (CAt.ne L.h L.l (by decide)) _, row_set L.r0 L.l (by decide) _, row_set L.r1 L.l (by decide) _, L.ap, L.low.trans ((Below.refl _ w).setCell (p := ⟨bl, 1, none⟩) L.gl _), L.ga, L.gb, L.gx, L.gl, L.gs, L.gh⟩
theorem LivS.setX1 (L : LivS w0 w g k bx bl bs bh a b l0 l1 h0 h1 h2 h3 v0 v1 S0 S1) (hp : PAt w g' b') (hn : g' ≠ g) (hg : w0.heap.size ≤ g') : LivS w0 (w.setCell ⟨bx, 1, none⟩ (ptrV g')) g g' bx bl bs bh a b' l0 l1 h0 h1 h2 h3 v0 v1 S0 S1 :=
  ⟨CAt.other L.pa (CAt.ne L.pa L.x (by decide)) _, CAt.other hp (CAt.ne hp L.x (by decide)) _, fun e => hn e.symm, L.x.store 1 _, L.l.other (CAt.ne L.l L.x (by decide)) _, L.s.other (CAt.ne L.s L.x (by decide)) _, L.h.other (CAt.ne L.h L.x (by decide)) _, row_set L.r0 L.x (by decide) _, row_set L.r1 L.x (by decide) _, L.ap, L.low.trans ((Below.refl _ w).setCell (p := ⟨bx, 1, none⟩) L.gx _), L.ga, hg, L.gx, L.gl, L.gs, L.gh⟩
theorem LivS.setH2 (L : LivS w0 w g k bx bl bs bh a b l0 l1 h0 h1 h2 h3 v0 v1 S0 S1) (n : Int) : LivS w0 (w.setCell ⟨bh, 2, none⟩ (i6 n)) g k bx bl bs bh a b l0 l1 h0 h1 n h3 v0 v1 S0 S1 :=
  ⟨CAt.other L.pa (CAt.ne L.pa L.h (by decide)) _, CAt.other L.pb (CAt.ne L.pb L.h (by decide)) _, L.ne, L.x.other (CAt.ne L.x L.h (by decide)) _, L.l.other (CAt.ne L.l L.h (by decide)) _, L.s.other (CAt.ne L.s L.h (by decide)) _, L.h.store 2 _, row_set L.r0 L.h (by decide) _, row_set L.r1 L.h (by decide) _, L.ap, L.low.trans ((Below.refl _ w).setCell (p := ⟨bh, 2, none⟩) L.gh _), L.ga, L.gb, L.gx, L.gl, L.gs, L.gh⟩
theorem LivS.setH3 (L : LivS w0 w g k bx bl bs bh a b l0 l1 h0 h1 h2 h3 v0 v1 S0 S1) (n : Int) : LivS w0 (w.setCell ⟨bh, 3, none⟩ (i6 n)) g k bx bl bs bh a b l0 l1 h0 h1 h2 n v0 v1 S0 S1 :=
  ⟨CAt.other L.pa (CAt.ne L.pa L.h (by decide)) _, CAt.other L.pb (CAt.ne L.pb L.h (by decide)) _, L.ne, L.x.other (CAt.ne L.x L.h (by decide)) _, L.l.other (CAt.ne L.l L.h (by decide)) _, L.s.other (CAt.ne L.s L.h (by decide)) _, L.h.store 3 _, row_set L.r0 L.h (by decide) _, row_set L.r1 L.h (by decide) _, L.ap, L.low.trans ((Below.refl _ w).setCell (p := ⟨bh, 3, none⟩) L.gh _), L.ga, L.gb, L.gx, L.gl, L.gs, L.gh⟩
theorem LivS.grow1 (L : LivS w0 w g k bx bl bs bh a b l0 l1 h0 h1 h2 h3 v0 v1 S0 S1) (hr : RowE ElemM w0 w' v' S') (hg : w.grownBy w' v1.ownBlock) (hb : v'.ownBlock = v1.ownBlock ∨ v'.ownBlock = some w.heap.size) : LivS w0 (w'.setCell ⟨bs, 1, none⟩ v') g k bx bl bs bh a b l0 l1 h0 h1 h2 h3 v0 v' S0 S' := by
  have hs : CAt tS w' bs #[v0, v1] := cat_grown L.s L.r1 (by decide) hg
  have ho : w'.ownsRow w0.heap.size ElemM.e ElemM.m v0 S0.length (ecells ElemM S0) := own_keep L.r0 fun b hb => hg.block b (L.r0.lt b hb).2 (fun e => L.ap b hb e.symm)
  exact ⟨CAt.other (cat_grown L.pa L.r1 (by decide) hg) (CAt.ne (cat_grown L.pa L.r1 (by decide) hg) hs (by decide)) _, CAt.other (cat_grown L.pb L.r1 (by decide) hg) (CAt.ne (cat_grown L.pb L.r1 (by decide) hg) hs (by decide)) _, L.ne, CAt.other (cat_grown L.x L.r1 (by decide) hg) (CAt.ne (cat_grown L.x L.r1 (by decide) hg) hs (by decide)) _, CAt.other (cat_grown L.l L.r1 (by decide) hg) (CAt.ne (cat_grown L.l L.r1 (by decide) hg) hs (by decide)) _, hs.store 1 _, CAt.other (cat_grown L.h L.r1 (by decide) hg) (CAt.ne (cat_grown L.h L.r1 (by decide) hg) hs (by decide)) _, row_set ho hs (by decide) _, row_set hr.own hs (by decide) _, fun b e1 e2 => by
      rcases hb with hb | hb
      · exact L.ap b e1 (by rw [← hb]; exact e2)
      · rw [hb] at e2
        injection e2 with e2
        have := (L.r0.lt b e1).2
        omega, hr.low.trans ((Below.refl _ w').setCell (p := ⟨bs, 1, none⟩) L.gs _), L.ga, L.gb, L.gx, L.gl, L.gs, L.gh⟩
theorem LivS.kpM {z : Nat} {m0 : MsgV} (L : LivS w0 w g k bx bl bs bh a b l0 l1 h0 h1 h2 h3 v0 v1 S0 S1) (hz : MBox w z m0) (n0 : v0.ownBlock ≠ some z) (n1 : v1.ownBlock ≠ some z) (hw : w0.heap.size ≤ z) (q : MsgV) : LivS w0 (storeM w z q) g k bx bl bs bh a b l0 l1 h0 h1 h2 h3 v0 v1 S0 S1 :=
  have hk := storeM_kp w z q
  ⟨CAt.kpM L.pa (CAt.ne L.pa hz.cat (by decide)) q, CAt.kpM L.pb (CAt.ne L.pb hz.cat (by decide)) q, L.ne, CAt.kpM L.x (CAt.ne L.x hz.cat (by decide)) q, CAt.kpM L.l (CAt.ne L.l hz.cat (by decide)) q, CAt.kpM L.s (CAt.ne L.s hz.cat (by decide)) q, CAt.kpM L.h (CAt.ne L.h hz.cat (by decide)) q, own_keep L.r0 fun b hb => hk.block b (fun e => n0 (by rw [hb]; exact congrArg some e)), own_keep L.r1 fun b hb => hk.block b (fun e => n1 (by rw [hb]; exact congrArg some e)), L.ap, L.low.trans (hk.below fun b hb => by show b ≠ z; omega), L.ga, L.gb, L.gx, L.gl, L.gs, L.gh⟩
theorem LivS.drew (L : LivS w0 w g k bx bl bs bh a b l0 l1 h0 h1 h2 h3 v0 v1 S0 S1) : LivS w0 w.drew g k bx bl bs bh a b l0 l1 h0 h1 h2 h3 v0 v1 S0 S1 := L.later ((Below.refl _ w).drew)
theorem LivS.not0 (L : LivS w0 w g k bx bl bs bh a b l0 l1 h0 h1 h2 h3 v0 v1 S0 S1) : v0.ownBlock ≠ some w.heap.size := fun e => Nat.lt_irrefl _ (L.r0.lt _ e).2
theorem LivS.not1 (L : LivS w0 w g k bx bl bs bh a b l0 l1 h0 h1 h2 h3 v0 v1 S0 S1) : v1.ownBlock ≠ some w.heap.size := fun e => Nat.lt_irrefl _ (L.r1.lt _ e).2
end
end Go.Proofs.Ytfikdocpcepmmaa
