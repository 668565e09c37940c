/- lessorref04.Decode. -/
import Derived.Test.YtgdkioegadbnmaaMsgV
import Derived.Test.YtgdkioegadbnmaaMsgT
import Derived.Test.YtgdkioegadbnmaaMsgD
import Derived.Deep.RegionHeld3
import Derived.Deep.DeepCutAuto
namespace Go.Proofs.Ytgdkioegadbnmaa
open Go.RowKit Go.Sort

theorem rdec_results {W : World} {g : Nat} {q : MsgV} {k : Int} (hp : MBox W g q) (t : Array Value) (h2 : t[2]?.getD undef = .pointer (some ⟨g, 0, none⟩)) (h3 : t[3]?.getD undef = .int .i64 k) :
    (results Try.f15 t).run Try.prog W = .ok (.tuple #[q.v, .int .i64 k]) W := by
  obtain ⟨r0, r1, r2, r3, r4, r5, r6, r7, r8, r9, r10⟩ := hp.all
  simp [results, Try.f15, go_sem, h2, h3, r0, r1, r2, r3, r4, r5, r6, r7, r8, r9, r10]
theorem rdec_end {w W : World} {g : Nat} {r q : MsgV} {k : Int} {D : MsgV × Int} {t : Array Value} (hz : MBox W g r) (hB : Below w.heap.size w W) (hg : w.heap.size ≤ g) (hD : D = (q, k)) (h2 : t[2]?.getD undef = .pointer (some ⟨g, 0, none⟩)) (h3 : t[3]?.getD undef = .int .i64 k) :
    bodyPost Try.prog Try.f15 (GivesM w D) .ret { tmps := t, defers := [] } (storeM W g q) := by
  refine bodyPost_ret (v := .tuple #[q.v, .int .i64 k]) ?_ ?_ ?_
  · exact rdec_results (storeM_box hz q) _ h2 h3
  · rfl
  · rw [hD]
    exact ⟨rfl, hB.trans ((storeM_kp W g q).below fun k hk => by show k ≠ g; omega)⟩

set_option maxRecDepth 100000 in
set_option maxHeartbeats 2000000 in
theorem rdec_out (A : Option Addr) (c : Nat) (b : List UInt8) (w : World) (hbl : b.length ≤ 9223372036854775807) (h : b.length < 9 ∨ 100 < b.length) :
    Calls Try.prog 15 #[.slice A b.length c] w (GivesM w (decM b)) := by
  have HD := Lib.hid (decM_out h)
  have HB0 : Hid (Below w.heap.size w (w.alloc (mbox zeroM))) := Lib.hid ((Below.refl _ _).alloc (Nat.le_refl _) _)
  have HP0 := Lib.hid (MBox.new w zeroM)
  by_cases h9 : b.length < 9
  · have hd : decide ((b.length : Int) < 9) = true := by simp; omega
    clear h
    go_enter Try.func15, Try.ntmps15
    go_wp2
    refine bodyPost_ret (v := .tuple #[zeroM.v, .int .i64 2]) ?_ ?_ ?_
    · exact rdec_results HP0.out _ rfl rfl
    · rfl
    · rw [HD.out]; exact ⟨rfl, HB0.out⟩
  · have hd : decide ((b.length : Int) < 9) = false := by simp; omega
    have hd2 : decide ((100 : Int) < (b.length : Int)) = true := by simp; omega
    clear h
    go_enter Try.func15, Try.ntmps15
    go_wp2
    refine bodyPost_ret (v := .tuple #[zeroM.v, .int .i64 2]) ?_ ?_ ?_
    · exact rdec_results HP0.out _ rfl rfl
    · rfl
    · rw [HD.out]; exact ⟨rfl, HB0.out⟩

theorem take_one {b : List UInt8} {k : Nat} {x : UInt8} (h : b[k]? = some x) : atD b k 1 = x.toNat := by
  unfold atD
  obtain ⟨hk, rfl⟩ := List.getElem?_eq_some_iff.1 h
  have e : (b.drop k).take 1 = [b[k]] := by rw [List.drop_eq_getElem_cons hk]; rfl
  rw [e]
  simp [numL]

/-- A row that is not nil stays so. -/
theorem wpList_rowN {w0 w : World} {ops : Array Oper} {rest : List Oper} {o : Oper} {a : Act} {Q : Exit → Act → World → Prop} (hgd : o.guard = none) (s x : Operand)
    (ho : o.op = .call { callee := .builtin .append, args := #[s, x], argTypes := #[27, 27] }) {ge ce : Nat} {l : List UInt8} (hs : a.eval s = .slice (some ⟨ge, 0, none⟩) l.length ce) (h : Row w0 w (.slice (some ⟨ge, 0, none⟩) l.length ce) l)
    {B : Nat} {A : Option Addr} (l2 : List UInt8) {m c : Nat} (hm : l2.length = m) (hx : a.eval x = .slice A m c) (hr : By w B A l2) (hsz : l.length + l2.length ≤ 100000)
    (hk : ∀ g' c' w' l3, Hid (l3 = l ++ l2) → l3.length ≤ l.length + l2.length → Row w0 w' (.slice (some ⟨g', 0, none⟩) l3.length c') l3 → wpList Try.prog ops Q rest (a.put o.dst (.slice (some ⟨g', 0, none⟩) l3.length c')) w') :
    wpList Try.prog ops Q (o :: rest) a w := by
  subst hm
  obtain ⟨i, hi, hz0, hz1, hz2⟩ := info_parts Try.infoB
  refine wpList_plain hgd fun K hK => ?_
  have run : ∃ v' w', (Builtin.append_ #[27, 27] o.type #[.slice (some ⟨ge, 0, none⟩) l.length ce, .slice A l2.length c]).run Try.prog w = .ok v' w' ∧ w'.ownsRow w0.heap.size 5 1 v' (l.length + l2.length) (bcells l ++ bcells l2) ∧ w.grownBy w' (Value.slice (some ⟨ge, 0, none⟩) l.length ce).ownBlock ∧ v' ≠ .slice none 0 0 := by
    cases A with
    | some ad =>
      obtain ⟨v', w', h1, h2, h3, h4, _⟩ := run_append_own_at (P := Try.prog) w w0.heap.size 27 o.type 5 i (.int .u8 0) 1 1 Try.underlying27 hi hz0 hz1 hz2 rfl (by decide) _ l.length (bcells l) h.own ad l2.length c (bcells l2) (by rw [bcells_length]; omega) (fun j u hu => hr.cells j u hu) (bcells_one l2) (by unfold maxLen; omega) (by omega) h.low.size
      exact ⟨v', w', h1, h2, h3, fun e => by have := (h4.1 e).1; cases this⟩
    | none =>
      obtain rfl := hr.none_
      obtain ⟨v', w', h1, h2, h3, _⟩ := run_appB w w0.heap.size o.type h.own c hr (by simpa using (by omega : l.length ≤ 140737488355328)) h.low.size
      refine ⟨.slice (some ⟨ge, 0, none⟩) l.length ce, w, ?_, by simpa [bcells] using h.own, World.grownBy.refl w _, by simp⟩
      rcases h.own.2 with ⟨h', _⟩ | ⟨g, cap, cur, h', _, _, hnc, _⟩
      · cases h'
      · injection h' with _ _ hcc
        simp [Builtin.append_, run_underlying Try.underlying27, sizeOf, typeInfo, hi, Builtin.lenOf, Builtin.firstCells, hcc, hnc, storeCells]
  obtain ⟨v', w', h1, h2, h3, h4⟩ := run
  have h5 : Row w0 w' v' (l ++ l2) := h.grows (by rw [List.length_append, bcells_append]; exact h2) h3
  unfold Oper.wp execOp
  simp only [ho, resolve, invoke, builtin, Sem.run_bind, Sem.run_pure, Result.andThen_ok, List.map_toArray, List.map_cons, List.map_nil, hs, hx, h1]
  rcases h2.2 with ⟨rfl, _⟩ | ⟨g', c', _, rfl, _⟩
  · exact absurd rfl h4
  · have e : (l ++ l2).length = l.length + l2.length := List.length_append
    rw [← e]
    rw [← e] at h5
    exact hK _ _ (hk g' c' w' _ (Lib.hid rfl) (by omega) h5)
/-- Noughts behind a row that is not nil. -/
theorem wpList_rowO {w0 w : World} {ops : Array Oper} {rest : List Oper} {o : Oper} {a : Act} {Q : Exit → Act → World → Prop} (hgd : o.guard = none) (s x : Operand)
    (ho : o.op = .call { callee := .builtin .append, args := #[s, x], argTypes := #[27, 3] }) {ge ce : Nat} {l : List UInt8} (hs : a.eval s = .slice (some ⟨ge, 0, none⟩) l.length ce) (h : Row w0 w (.slice (some ⟨ge, 0, none⟩) l.length ce) l)
    (n : Nat) (hn : 0 < n) {N : Int} (hN : N = (n : Int)) (hx : a.eval x = .int .i64 N) (hsz : l.length + n ≤ 1048576)
    (hk : ∀ g' c' w' l3, Hid (l3 = l ++ List.replicate n 0) → l3.length ≤ l.length + n → l.length + n ≤ l3.length → l3.length ≤ c' → w0.heap.size ≤ g' → Row w0 w' (.slice (some ⟨g', 0, none⟩) l3.length c') l3 → wpList Try.prog ops Q rest (a.put o.dst (.slice (some ⟨g', 0, none⟩) l3.length c')) w') :
    wpList Try.prog ops Q (o :: rest) a w := by
  subst hN
  refine wpList_plain hgd fun K hK => ?_
  obtain ⟨A', c', w', h1, h2, h3⟩ := run_zeros w w0.heap.size o.type ge l.length ce n (bcells l) h.own hsz h.low.size
  unfold Oper.wp execOp
  simp only [ho, resolve, invoke, builtin, Sem.run_bind, Sem.run_pure, Result.andThen_ok, List.map_toArray, List.map_cons, List.map_nil, hs, hx, h1]
  have h5 : Row w0 w' (.slice A' (l.length + n) c') (l ++ List.replicate n 0) := h.grows (by rw [List.length_append, bcells_append, List.length_replicate]; exact h2) h3
  rcases h2.2 with ⟨e, h0⟩ | ⟨g', c2, _, e, hg', _, hnc, _⟩
  · omega
  · injection e with e1 e2 e3
    subst e1 e3
    have e : (l ++ List.replicate n 0).length = l.length + n := by rw [List.length_append, List.length_replicate]
    rw [← e] at h5 hnc ⊢
    exact hK _ _ (hk g' c' w' _ (Lib.hid rfl) (by omega) (by omega) hnc hg' h5)

theorem rowE0 (w : World) : Row w (w.alloc (.cells #[] 5)) (.slice (some ⟨w.heap.size, 0, none⟩) 0 0) [] :=
  ⟨World.ownsRow_lit (base := w.heap.size) (e := 5) (size := 1) w #[] 0 (Nat.le_refl _) (by unfold maxLen; omega) rfl, (Below.refl _ _).alloc (Nat.le_refl _) _⟩

/-- Where Decode stands: its result's box, its message's box gm, the bytes behind the ninth at block g5. -/
structure DS (w W : World) (gm g5 : Nat) (A : Option Addr) (b l : List UInt8) (v : MsgV) : Prop where
  z : MBox W w.heap.size zeroM
  m : MBox W gm v
  b : By W gm A b
  r : By W W.heap.size (some ⟨g5, 0, none⟩) l
  low : Below w.heap.size w W
  lt : w.heap.size < gm ∧ gm < g5
theorem DS.store {w W : World} {gm g5 : Nat} {A : Option Addr} {b l : List UInt8} {v v' : MsgV} (h : DS w W gm g5 A b l v) (i : Nat) (u : Value) (hu : v.cells.setIfInBounds i u = v'.cells) : DS w (W.setCell ⟨gm, i, none⟩ u) gm g5 A b l v' := by
  have hlt := h.lt
  refine ⟨h.z.other (by show w.heap.size ≠ gm; omega) u, h.m.store i u hu, h.b.keep fun p hp => World.cell?_of_block (Below.heap_setCell W _ u p.block (by show p.block ≠ gm; omega)), ?_, h.low.setCell (by show w.heap.size ≤ gm; omega) _, hlt⟩
  refine ⟨fun j x hx => ?_⟩
  obtain ⟨b', o', e, hb, hc⟩ := h.r.at_ j x hx
  injection e with e
  injection e with e1 e2
  subst e1 e2
  exact ⟨g5, 0, rfl, by rw [World.size_setCell]; exact hb, (World.cell?_of_block (Below.heap_setCell W _ u g5 (by show g5 ≠ gm; omega))).trans hc⟩
/-- A piece of the bytes behind the ninth. -/
theorem DS.piece {w W : World} {gm g5 : Nat} {A : Option Addr} {b l : List UInt8} {v : MsgV} (h : DS w W gm g5 A b l v) {cr : Nat} (hcr : l.length ≤ cr) (lo hi : Nat) (h1 : lo ≤ hi) (h2 : hi ≤ l.length) (h6 : hi - lo ≤ 6) :
    ∃ A', (∀ V, (Instr.slice 27 (.slice (some ⟨g5, 0, none⟩) l.length cr) (some (.int .i64 (lo : Int))) (some (.int .i64 (hi : Int))) none).run Try.prog V = .ok (.slice A' (hi - lo) (cr - lo)) V) ∧
      Calls Try.prog 22 #[.slice A' (hi - lo) (cr - lo)] W fun e w' => e = .returned (.int .i64 ((atD l lo (hi - lo) : Nat) : Int)) ∧ W = w' := by
  obtain ⟨A', h3, h4⟩ := cut_by h.r l.length cr lo hi lo hi rfl rfl h1 h2 hcr
  refine ⟨A', h3, ?_⟩
  have hl : ((l.drop lo).take (hi - lo)).length = hi - lo := by rw [List.length_take, List.length_drop]; omega
  have := of_any W.heap.size A' (cr - lo) ((l.drop lo).take (hi - lo)) W h4 (by omega)
  rwa [hl] at this
/-- The first bytes of those. -/
theorem DS.head {w W : World} {gm g5 : Nat} {A : Option Addr} {b l : List UInt8} {v : MsgV} (h : DS w W gm g5 A b l v) {cr : Nat} (hcr : l.length ≤ cr) (h4 : 4 ≤ l.length) :
    (∀ V, (Instr.slice 27 (.slice (some ⟨g5, 0, none⟩) l.length cr) none (some (.int .i64 4)) none).run Try.prog V = .ok (.slice (some ⟨g5, 0, none⟩) 4 cr) V) ∧
      Calls Try.prog 22 #[.slice (some ⟨g5, 0, none⟩) 4 cr] W fun e w' => e = .returned (.int .i64 ((atD l 0 4 : Nat) : Int)) ∧ W = w' := by
  have h3 := fun V => run_headB (some ⟨g5, 0, none⟩) l.length cr 4 (by omega) (by omega) V
  refine ⟨h3, ?_⟩
  have hl : (l.take 4).length = 4 := by rw [List.length_take]; omega
  have := of_any W.heap.size (some ⟨g5, 0, none⟩) cr (l.take 4) W (h.r.take 4) (by omega)
  rw [hl] at this
  unfold atD
  rw [List.drop_zero]
  exact this
theorem DS.byte {w W : World} {gm g5 : Nat} {A : Option Addr} {b l : List UInt8} {v : MsgV} (h : DS w W gm g5 A b l v) {k : Nat} (hk : k < l.length) : W.cell? ⟨g5, k, none⟩ = some (.int .u8 ((atD l k 1 : Nat) : Int)) := by
  obtain ⟨x, hx⟩ : ∃ x, l[k]? = some x := ⟨_, List.getElem?_eq_getElem hk⟩
  obtain ⟨b', o', e, _, hc⟩ := h.r.at_ k x hx
  injection e with e
  injection e with e1 e2
  subst e1 e2
  rw [take_one hx]
  simpa using hc

set_option maxRecDepth 100000 in
set_option maxHeartbeats 4000000 in
theorem rdec_0 (A : Option Addr) (c : Nat) (b : List UInt8) (w : World) (hb : By w w.heap.size A b) (hbc : b.length ≤ c) (h9 : 9 ≤ b.length) (h100 : b.length ≤ 100) (hk : atD b 0 1 ≠ 1 ∧ atD b 0 1 ≠ 3 ∧ atD b 0 1 ≠ 2) :
    Calls Try.prog 15 #[.slice A b.length c] w (GivesM w (decBy refD b)) := by
  have hd : decide ((b.length : Int) < 9) = false := by simp; omega
  have hd2 : decide ((100 : Int) < (b.length : Int)) = false := by simp; omega
  obtain ⟨w0, hw0⟩ : ∃ w0, w0 = w.alloc (.cells #[.int .i64 0, .int .i64 0, .int .i64 0, .int .i64 0, .int .i64 0, .int .u32 0, .int .i64 0, .string ⟨#[]⟩, .int .i64 0, .int .i64 0, .bool false] 25) := ⟨_, rfl⟩
  have HZ : Hid (MBox w0 w.heap.size zeroM) := Lib.hid (by rw [hw0]; exact MBox.new w zeroM)
  have HB0 : Hid (Below w.heap.size w w0) := Lib.hid (by rw [hw0]; exact (Below.refl _ _).alloc (Nat.le_refl _) _)
  have HY0 : Hid (By w0 w0.heap.size A b) := Lib.hid (hb.later HB0.out)
  have HLT : Hid (w.heap.size < w0.heap.size) := Lib.hid (by rw [hw0]; simp)
  have HW0 := Lib.hid hw0
  obtain ⟨x, hx⟩ : ∃ x, b[0]? = some x := ⟨_, List.getElem?_eq_getElem (by omega)⟩
  obtain ⟨g, o, rfl, hlt, hc⟩ := HY0.out.at_ 0 x hx
  have hc0 : w0.cell? ⟨g, o, none⟩ = some (.int .u8 (x.toNat : Int)) := hc
  have hX0 := take_one hx
  have t1 : ((x.toNat : Int) == 1) = false := by have := hk.1; rw [hX0] at this; simp; omega
  have t3 : ((x.toNat : Int) == 3) = false := by have := hk.2.1; rw [hX0] at this; simp; omega
  have t2 : ((x.toNat : Int) == 2) = false := by have := hk.2.2; rw [hX0] at this; simp; omega
  have HK2 := Lib.hid (show x.toNat ≠ 1 ∧ x.toNat ≠ 3 ∧ x.toNat ≠ 2 from by rw [← hX0]; exact hk)
  have HX0 := Lib.hid hX0
  obtain ⟨A1, r1, b1⟩ := cut_by HY0.out b.length c 1 5 1 5 rfl rfl (by omega) (by omega) hbc
  obtain ⟨A5, r5, b5⟩ := cut_by HY0.out b.length c 5 9 5 9 rfl rfl (by omega) (by omega) hbc
  simp only [Nat.reduceSub] at r1 r5 b1 b5
  have K1 : Hid (∀ W, By W w0.heap.size A1 ((b.drop 1).take 4) → Calls Try.prog 22 #[.slice A1 4 (c - 1)] W fun e w' => e = .returned (.int .i64 ((atD b 1 4 : Nat) : Int)) ∧ W = w') := Lib.hid (fun W h => by
    have := of_any w0.heap.size A1 (c - 1) ((b.drop 1).take 4) W h (by rw [List.length_take]; omega)
    rwa [show ((b.drop 1).take 4).length = 4 by rw [List.length_take, List.length_drop]; omega] at this)
  have K5 : Hid (∀ W, By W w0.heap.size A5 ((b.drop 5).take 4) → Calls Try.prog 22 #[.slice A5 4 (c - 5)] W fun e w' => e = .returned (.int .i64 ((atD b 5 4 : Nat) : Int)) ∧ W = w') := Lib.hid (fun W h => by
    have := of_any w0.heap.size A5 (c - 5) ((b.drop 5).take 4) W h (by rw [List.length_take]; omega)
    rwa [show ((b.drop 5).take 4).length = 4 by rw [List.length_take, List.length_drop]; omega] at this)
  have htl := run_tailB (some ⟨g, o, none⟩) b.length c 9 (by omega) (by omega)
  have hcut := HY0.out.cut (k := 9) (cap := c) (by omega) hbc
  obtain ⟨A9, hA9⟩ : ∃ A9, A9 = (if c = 9 then (some ⟨g, o, none⟩ : Option Addr) else (some ⟨g, o, none⟩ : Option Addr).map (·.add 9)) := ⟨_, rfl⟩
  rw [show (9 : Int).toNat = 9 from rfl, ← hA9] at htl
  rw [← hA9] at hcut
  have HCUT := Lib.hid hcut
  have HQ := Lib.hid (show decBy refD b = decBy refD b from rfl)
  have i0 : 0 < b.length := by omega
  have i0' : (0 : Int) < (b.length : Int) := by omega
  have hxx := x.toNat_lt
  have hxw : IntKind.i64.wrap (x.toNat : Int) = x.toNat := by rw [IntKind.wrap_i64]; omega
  clear hw0 hb hx hc hk hX0 hA9 hcut
  go_enter Try.func15, Try.ntmps15
  go_upto_region 3 with fail
  rw [← HW0.out]
  go_cut [4] (fun s4 wx => s4 = .pointer (some ⟨w0.heap.size, 0, none⟩) ∧ MBox wx w0.heap.size ⟨x.toNat, (atD b 1 4 : Nat), (atD b 5 4 : Nat), 0, 0, 0, 0, ⟨#[]⟩, 0, 0, false⟩ ∧ Below w0.heap.size w0 wx)
  case first =>
    clear htl
    go_region_held3 (fun w' => w'.cell? ⟨g, o, none⟩ = some (.int .u8 (x.toNat : Int))) (go_keep)
      (first
        | (go_at_call 22; (with_reducible refine (K1.out _ ?_).mono ?_); (first | exact b1.drew | exact (b1.below ((Below.refl _ _).alloc (Nat.le_refl _) _)).drew); rintro e w' ⟨rfl, rfl⟩)
        | (go_at_call 22; (with_reducible refine (K5.out _ ?_).mono ?_); (first | exact b5.drew | exact (b5.below ((Below.refl _ _).alloc (Nat.le_refl _) _)).drew); rintro e w' ⟨rfl, rfl⟩))
    all_goals
      go_wp2_with fail
      go_meet
      exact ⟨rfl, MBox.new w0 ⟨x.toNat, (atD b 1 4 : Nat), (atD b 5 4 : Nat), 0, 0, 0, 0, ⟨#[]⟩, 0, 0, false⟩, ((Below.refl _ _).alloc (Nat.le_refl _) _).drew⟩
  case rest =>
    obtain ⟨rfl, hbx, hB1⟩ := hcut
    have HB1 := Lib.hid (HB0.out.trans (hB1.mono HB0.out.size))
    have HZ1 := Lib.hid (HZ.out.below hB1 HLT.out)
    have HY1 := Lib.hid (HY0.out.below hB1)
    have HC1 := Lib.hid ((HCUT.out.below hB1).below ((Below.refl wc.heap.size wc).alloc (Nat.le_refl _) (.cells #[] 5) |>.mono hB1.size))
    have HBX := Lib.hid hbx
    have HMX := Lib.hid hbx.lt
    clear hB1 hbx r1 r5 b1 b5 i0 i0' hc0 hlt
    go_upto_region 5 with (first
      | (at_builtin; refine wpList_rowN (l := []) rfl (.tmp 28) (.tmp 30) rfl rfl (rowE0 wc) (b.drop 9) List.length_drop rfl HC1.out (by simp; omega) ?_; intro g4 c4 w4 l4 HL4 hl4 R4)
      | (at_builtin; refine wpList_rowO rfl (.tmp 31) (.const (.int .i64 30)) rfl rfl R4 30 (by omega) rfl rfl (by simp at hl4; omega) ?_; intro g5 c5 w5 l5 HL5 hl5 hl5' hc5 hg5 R5))
    have HRD : Hid (restD b = l5) := Lib.hid (by rw [HL5.out, HL4.out]; rfl)
    have D5 : DS w w5 w0.heap.size g5 (some ⟨g, o, none⟩) b l5 ⟨x.toNat, (atD b 1 4 : Nat), (atD b 5 4 : Nat), 0, 0, 0, 0, ⟨#[]⟩, 0, 0, false⟩ :=
      ⟨HZ1.out.below R5.low (Nat.lt_trans HLT.out HMX.out), HBX.out.later R5.low, (HY1.out.below (R5.low.mono (Nat.le_of_lt HMX.out))), By.of_own R5.own, HB1.out.trans (R5.low.mono HB1.out.size), ⟨HLT.out, Nat.lt_of_lt_of_le HMX.out hg5⟩⟩
    have hlb : l5.length ≤ 121 := by simp at hl4; omega
    have hl30 : 30 ≤ l5.length := by omega
    clear R4 R5 htl hl4 hl5 hl5' hg5
    have HD5 := Lib.hid D5
    have HC5 := Lib.hid hc5
    clear D5 hc5
    have c0 := HD5.out.m.c0
    go_upto_region 19 with fail
    clear c0
    have HRV : Hid (refD b = ⟨x.toNat, (atD b 1 4 : Nat), (atD b 5 4 : Nat), 0, 0, 0, 0, ⟨#[]⟩, 0, 0, false⟩) := Lib.hid (by unfold refD; rw [HRD.out, HX0.out]; simp [HK2.out])
    obtain ⟨q, hq⟩ : ∃ q, q = refD b := ⟨_, rfl⟩
    have HXQ : Hid (MBox w5 w0.heap.size q) := Lib.hid (by rw [hq, HRV.out]; exact HD5.out.m)
    have HZ2 := Lib.hid HD5.out.z
    have HY2 : Hid (By w5 w5.heap.size (some ⟨g, o, none⟩) b) := Lib.hid (HD5.out.b.more (Nat.le_of_lt HD5.out.m.lt))
    have HB2 := Lib.hid HD5.out.low
    have HE := Lib.hid (fun W => rencode_any q (by rw [hq]; exact refD_addr b) W)
    have HDD : Hid (decBy refD b = if rightM q = true ∧ encM q = b then (q, 0) else (zeroM, 2)) := Lib.hid (by rw [hq]; rfl)
    clear hq
    obtain ⟨k0, k1, k2, k3, k4, k5, k6, k7, k8, k9, k10⟩ := HXQ.out.all
    go_wp2_with fail
    cases hr : rightM q
    · have HR := Lib.hid (show encR q = ([], 1) by simp [encR, hr])
      simp only [HR.out] at HE
      have HF := Lib.hid (show decBy refD b = (zeroM, 2) by rw [HDD.out, if_neg (by rw [hr]; simp)])
      refine (HE.out _).mono ?_
      rintro e w3 ⟨A3, c3, rfl, hby3, _, hB3⟩
      have HB3 := Lib.hid (HB2.out.trans (hB3.mono HB2.out.size))
      have HZ3 := Lib.hid (HZ2.out.later hB3)
      clear k0 k1 k2 k3 k4 k5 k6 k7 k8 k9 k10
      clear hr hB3 hby3
      obtain ⟨z0, z1, z2, z3, z4, z5, z6, z7, z8, z9, z10⟩ := HZ3.out.all
      have f0 := HZ3.out.free 0
      have f1 := HZ3.out.free 1
      have f2 := HZ3.out.free 2
      have f3 := HZ3.out.free 3
      have f4 := HZ3.out.free 4
      have f5 := HZ3.out.free 5
      have f6 := HZ3.out.free 6
      have f7 := HZ3.out.free 7
      have f8 := HZ3.out.free 8
      have f9 := HZ3.out.free 9
      have f10 := HZ3.out.free 10
      go_wp2
      exact rdec_end (q := zeroM) (W := w3) HZ3.out HB3.out (Nat.le_refl _) HF.out rfl rfl
    · have HR := Lib.hid (show encR q = (encM q, 0) by simp [encR, hr])
      simp only [HR.out] at HE
      refine (HE.out _).mono ?_
      rintro e w3 ⟨A3, c3, rfl, hby3, _, hB3⟩
      have HB3 := Lib.hid (HB2.out.trans (hB3.mono HB2.out.size))
      have HZ3 := Lib.hid (HZ2.out.later hB3)
      have HX3 := Lib.hid (HXQ.out.later hB3)
      have hs1 := str_run c3 hby3
      have hs2 := str_run c (HY2.out.later hB3)
      clear k0 k1 k2 k3 k4 k5 k6 k7 k8 k9 k10
      clear hB3 hby3
      obtain ⟨z0, z1, z2, z3, z4, z5, z6, z7, z8, z9, z10⟩ := HZ3.out.all
      have f0 := HZ3.out.free 0
      have f1 := HZ3.out.free 1
      have f2 := HZ3.out.free 2
      have f3 := HZ3.out.free 3
      have f4 := HZ3.out.free 4
      have f5 := HZ3.out.free 5
      have f6 := HZ3.out.free 6
      have f7 := HZ3.out.free 7
      have f8 := HZ3.out.free 8
      have f9 := HZ3.out.free 9
      have f10 := HZ3.out.free 10
      by_cases hq : encM q = b
      · have HF := Lib.hid (show decBy refD b = (q, 0) by rw [HDD.out, if_pos ⟨hr, hq⟩])
        have hself : (encM q == b) = true := by simpa using hq
        have hself2 : (encM q != b) = false := by simpa using hq
        clear hq hr HE HDD HRV HR
        generalize encM q = bl at hs1 hself hself2 ⊢
        obtain ⟨y0, y1, y2, y3, y4, y5, y6, y7, y8, y9, y10⟩ := HX3.out.all
        go_wp2
        exact rdec_end (q := q) (W := w3) HZ3.out HB3.out (Nat.le_refl _) HF.out rfl rfl
      · have HF := Lib.hid (show decBy refD b = (zeroM, 2) by rw [HDD.out, if_neg (fun h => hq h.2)])
        have hself : (encM q == b) = false := by simpa using hq
        have hself2 : (encM q != b) = true := by simpa using hq
        clear hq hr HE HDD HRV HR
        generalize encM q = bl at hs1 hself hself2 ⊢
        go_wp2
        exact rdec_end (q := zeroM) (W := w3) HZ3.out HB3.out (Nat.le_refl _) HF.out rfl rfl

set_option maxRecDepth 100000 in
set_option maxHeartbeats 4000000 in
theorem rdec_1 (A : Option Addr) (c : Nat) (b : List UInt8) (w : World) (hb : By w w.heap.size A b) (hbc : b.length ≤ c) (h9 : 9 ≤ b.length) (h100 : b.length ≤ 100) (hk : atD b 0 1 = 1) :
    Calls Try.prog 15 #[.slice A b.length c] w (GivesM w (decBy refD b)) := by
  have hd : decide ((b.length : Int) < 9) = false := by simp; omega
  have hd2 : decide ((100 : Int) < (b.length : Int)) = false := by simp; omega
  obtain ⟨w0, hw0⟩ : ∃ w0, w0 = w.alloc (.cells #[.int .i64 0, .int .i64 0, .int .i64 0, .int .i64 0, .int .i64 0, .int .u32 0, .int .i64 0, .string ⟨#[]⟩, .int .i64 0, .int .i64 0, .bool false] 25) := ⟨_, rfl⟩
  have HZ : Hid (MBox w0 w.heap.size zeroM) := Lib.hid (by rw [hw0]; exact MBox.new w zeroM)
  have HB0 : Hid (Below w.heap.size w w0) := Lib.hid (by rw [hw0]; exact (Below.refl _ _).alloc (Nat.le_refl _) _)
  have HY0 : Hid (By w0 w0.heap.size A b) := Lib.hid (hb.later HB0.out)
  have HLT : Hid (w.heap.size < w0.heap.size) := Lib.hid (by rw [hw0]; simp)
  have HW0 := Lib.hid hw0
  obtain ⟨x, hx⟩ : ∃ x, b[0]? = some x := ⟨_, List.getElem?_eq_getElem (by omega)⟩
  obtain ⟨g, o, rfl, hlt, hc⟩ := HY0.out.at_ 0 x hx
  have hc0 : w0.cell? ⟨g, o, none⟩ = some (.int .u8 (x.toNat : Int)) := hc
  have hX0 := take_one hx
  have t1 : ((x.toNat : Int) == 1) = true := by rw [← hX0, hk]; decide
  have t3 : ((x.toNat : Int) == 3) = false := by rw [← hX0, hk]; decide
  have t2 : ((x.toNat : Int) == 2) = false := by rw [← hX0, hk]; decide
  have HK2 := Lib.hid (show x.toNat = 1 from by rw [← hX0]; exact hk)
  have HX0 := Lib.hid hX0
  obtain ⟨A1, r1, b1⟩ := cut_by HY0.out b.length c 1 5 1 5 rfl rfl (by omega) (by omega) hbc
  obtain ⟨A5, r5, b5⟩ := cut_by HY0.out b.length c 5 9 5 9 rfl rfl (by omega) (by omega) hbc
  simp only [Nat.reduceSub] at r1 r5 b1 b5
  have K1 : Hid (∀ W, By W w0.heap.size A1 ((b.drop 1).take 4) → Calls Try.prog 22 #[.slice A1 4 (c - 1)] W fun e w' => e = .returned (.int .i64 ((atD b 1 4 : Nat) : Int)) ∧ W = w') := Lib.hid (fun W h => by
    have := of_any w0.heap.size A1 (c - 1) ((b.drop 1).take 4) W h (by rw [List.length_take]; omega)
    rwa [show ((b.drop 1).take 4).length = 4 by rw [List.length_take, List.length_drop]; omega] at this)
  have K5 : Hid (∀ W, By W w0.heap.size A5 ((b.drop 5).take 4) → Calls Try.prog 22 #[.slice A5 4 (c - 5)] W fun e w' => e = .returned (.int .i64 ((atD b 5 4 : Nat) : Int)) ∧ W = w') := Lib.hid (fun W h => by
    have := of_any w0.heap.size A5 (c - 5) ((b.drop 5).take 4) W h (by rw [List.length_take]; omega)
    rwa [show ((b.drop 5).take 4).length = 4 by rw [List.length_take, List.length_drop]; omega] at this)
  have htl := run_tailB (some ⟨g, o, none⟩) b.length c 9 (by omega) (by omega)
  have hcut := HY0.out.cut (k := 9) (cap := c) (by omega) hbc
  obtain ⟨A9, hA9⟩ : ∃ A9, A9 = (if c = 9 then (some ⟨g, o, none⟩ : Option Addr) else (some ⟨g, o, none⟩ : Option Addr).map (·.add 9)) := ⟨_, rfl⟩
  rw [show (9 : Int).toNat = 9 from rfl, ← hA9] at htl
  rw [← hA9] at hcut
  have HCUT := Lib.hid hcut
  have HQ := Lib.hid (show decBy refD b = decBy refD b from rfl)
  have i0 : 0 < b.length := by omega
  have i0' : (0 : Int) < (b.length : Int) := by omega
  have hxx := x.toNat_lt
  have hxw : IntKind.i64.wrap (x.toNat : Int) = x.toNat := by rw [IntKind.wrap_i64]; omega
  clear hw0 hb hx hc hk hX0 hA9 hcut
  go_enter Try.func15, Try.ntmps15
  go_upto_region 3 with fail
  rw [← HW0.out]
  go_cut [4] (fun s4 wx => s4 = .pointer (some ⟨w0.heap.size, 0, none⟩) ∧ MBox wx w0.heap.size ⟨x.toNat, (atD b 1 4 : Nat), (atD b 5 4 : Nat), 0, 0, 0, 0, ⟨#[]⟩, 0, 0, false⟩ ∧ Below w0.heap.size w0 wx)
  case first =>
    clear htl
    go_region_held3 (fun w' => w'.cell? ⟨g, o, none⟩ = some (.int .u8 (x.toNat : Int))) (go_keep)
      (first
        | (go_at_call 22; (with_reducible refine (K1.out _ ?_).mono ?_); (first | exact b1.drew | exact (b1.below ((Below.refl _ _).alloc (Nat.le_refl _) _)).drew); rintro e w' ⟨rfl, rfl⟩)
        | (go_at_call 22; (with_reducible refine (K5.out _ ?_).mono ?_); (first | exact b5.drew | exact (b5.below ((Below.refl _ _).alloc (Nat.le_refl _) _)).drew); rintro e w' ⟨rfl, rfl⟩))
    all_goals
      go_wp2_with fail
      go_meet
      exact ⟨rfl, MBox.new w0 ⟨x.toNat, (atD b 1 4 : Nat), (atD b 5 4 : Nat), 0, 0, 0, 0, ⟨#[]⟩, 0, 0, false⟩, ((Below.refl _ _).alloc (Nat.le_refl _) _).drew⟩
  case rest =>
    obtain ⟨rfl, hbx, hB1⟩ := hcut
    have HB1 := Lib.hid (HB0.out.trans (hB1.mono HB0.out.size))
    have HZ1 := Lib.hid (HZ.out.below hB1 HLT.out)
    have HY1 := Lib.hid (HY0.out.below hB1)
    have HC1 := Lib.hid ((HCUT.out.below hB1).below ((Below.refl wc.heap.size wc).alloc (Nat.le_refl _) (.cells #[] 5) |>.mono hB1.size))
    have HBX := Lib.hid hbx
    have HMX := Lib.hid hbx.lt
    clear hB1 hbx r1 r5 b1 b5 i0 i0' hc0 hlt
    go_upto_region 5 with (first
      | (at_builtin; refine wpList_rowN (l := []) rfl (.tmp 28) (.tmp 30) rfl rfl (rowE0 wc) (b.drop 9) List.length_drop rfl HC1.out (by simp; omega) ?_; intro g4 c4 w4 l4 HL4 hl4 R4)
      | (at_builtin; refine wpList_rowO rfl (.tmp 31) (.const (.int .i64 30)) rfl rfl R4 30 (by omega) rfl rfl (by simp at hl4; omega) ?_; intro g5 c5 w5 l5 HL5 hl5 hl5' hc5 hg5 R5))
    have HRD : Hid (restD b = l5) := Lib.hid (by rw [HL5.out, HL4.out]; rfl)
    have D5 : DS w w5 w0.heap.size g5 (some ⟨g, o, none⟩) b l5 ⟨x.toNat, (atD b 1 4 : Nat), (atD b 5 4 : Nat), 0, 0, 0, 0, ⟨#[]⟩, 0, 0, false⟩ :=
      ⟨HZ1.out.below R5.low (Nat.lt_trans HLT.out HMX.out), HBX.out.later R5.low, (HY1.out.below (R5.low.mono (Nat.le_of_lt HMX.out))), By.of_own R5.own, HB1.out.trans (R5.low.mono HB1.out.size), ⟨HLT.out, Nat.lt_of_lt_of_le HMX.out hg5⟩⟩
    have hlb : l5.length ≤ 121 := by simp at hl4; omega
    have hl30 : 30 ≤ l5.length := by omega
    clear R4 R5 htl hl4 hl5 hl5' hg5
    have HD5 := Lib.hid D5
    have HC5 := Lib.hid hc5
    clear D5 hc5
    have c0 := HD5.out.m.c0
    have d3 := HD5.out.m.c3
    have f3 := HD5.out.m.free 3
    obtain ⟨hh, ho⟩ := HD5.out.head HC5.out (by omega)
    go_upto_region 8 with (go_at_call 22; refine ho.mono ?_; rintro e w' ⟨rfl, rfl⟩)
    obtain ⟨w6, hw6⟩ : ∃ w6, w6 = w5.setCell ⟨w0.heap.size, 3, none⟩ (.int .i64 ((atD l5 0 4 : Nat) : Int)) := ⟨_, rfl⟩
    have HD6 : Hid (DS w w6 w0.heap.size g5 (some ⟨g, o, none⟩) b l5 ⟨x.toNat, (atD b 1 4 : Nat), (atD b 5 4 : Nat), (atD l5 0 4 : Nat), 0, 0, 0, ⟨#[]⟩, 0, 0, false⟩) := Lib.hid (by rw [hw6]; exact HD5.out.store 3 _ rfl)
    rw [← hw6]
    clear c0 d3 f3 hh ho hw6
    have d4 := HD6.out.m.c4
    have f4 := HD6.out.m.free 4
    have hc4 := HD6.out.byte (k := 4) (by omega)
    have hb4 : atD l5 4 1 < 256 := at_lt l5 4 1
    have i4 : 4 < l5.length := by omega
    go_upto_region 19 with fail
    obtain ⟨w7, hw7⟩ : ∃ w7, w7 = w6.setCell ⟨w0.heap.size, 4, none⟩ (.int .i64 ((atD l5 4 1 : Nat) : Int)) := ⟨_, rfl⟩
    have HD7 : Hid (DS w w7 w0.heap.size g5 (some ⟨g, o, none⟩) b l5 ⟨x.toNat, (atD b 1 4 : Nat), (atD b 5 4 : Nat), (atD l5 0 4 : Nat), (atD l5 4 1 : Nat), 0, 0, ⟨#[]⟩, 0, 0, false⟩) := Lib.hid (by rw [hw7]; exact HD6.out.store 4 _ rfl)
    rw [← hw7]
    clear d4 f4 hc4 hw7
    have HRV : Hid (refD b = ⟨x.toNat, (atD b 1 4 : Nat), (atD b 5 4 : Nat), (atD l5 0 4 : Nat), (atD l5 4 1 : Nat), 0, 0, ⟨#[]⟩, 0, 0, false⟩) := Lib.hid (by unfold refD; rw [HRD.out, HX0.out]; simp [HK2.out])
    obtain ⟨q, hq⟩ : ∃ q, q = refD b := ⟨_, rfl⟩
    have HXQ : Hid (MBox w7 w0.heap.size q) := Lib.hid (by rw [hq, HRV.out]; exact HD7.out.m)
    have HZ2 := Lib.hid HD7.out.z
    have HY2 : Hid (By w7 w7.heap.size (some ⟨g, o, none⟩) b) := Lib.hid (HD7.out.b.more (Nat.le_of_lt HD7.out.m.lt))
    have HB2 := Lib.hid HD7.out.low
    have HE := Lib.hid (fun W => rencode_any q (by rw [hq]; exact refD_addr b) W)
    have HDD : Hid (decBy refD b = if rightM q = true ∧ encM q = b then (q, 0) else (zeroM, 2)) := Lib.hid (by rw [hq]; rfl)
    clear hq
    obtain ⟨k0, k1, k2, k3, k4, k5, k6, k7, k8, k9, k10⟩ := HXQ.out.all
    go_wp2_with fail
    cases hr : rightM q
    · have HR := Lib.hid (show encR q = ([], 1) by simp [encR, hr])
      simp only [HR.out] at HE
      have HF := Lib.hid (show decBy refD b = (zeroM, 2) by rw [HDD.out, if_neg (by rw [hr]; simp)])
      refine (HE.out _).mono ?_
      rintro e w3 ⟨A3, c3, rfl, hby3, _, hB3⟩
      have HB3 := Lib.hid (HB2.out.trans (hB3.mono HB2.out.size))
      have HZ3 := Lib.hid (HZ2.out.later hB3)
      clear k0 k1 k2 k3 k4 k5 k6 k7 k8 k9 k10
      clear hr hB3 hby3
      obtain ⟨z0, z1, z2, z3, z4, z5, z6, z7, z8, z9, z10⟩ := HZ3.out.all
      have f0 := HZ3.out.free 0
      have f1 := HZ3.out.free 1
      have f2 := HZ3.out.free 2
      have f3 := HZ3.out.free 3
      have f4 := HZ3.out.free 4
      have f5 := HZ3.out.free 5
      have f6 := HZ3.out.free 6
      have f7 := HZ3.out.free 7
      have f8 := HZ3.out.free 8
      have f9 := HZ3.out.free 9
      have f10 := HZ3.out.free 10
      go_wp2
      exact rdec_end (q := zeroM) (W := w3) HZ3.out HB3.out (Nat.le_refl _) HF.out rfl rfl
    · have HR := Lib.hid (show encR q = (encM q, 0) by simp [encR, hr])
      simp only [HR.out] at HE
      refine (HE.out _).mono ?_
      rintro e w3 ⟨A3, c3, rfl, hby3, _, hB3⟩
      have HB3 := Lib.hid (HB2.out.trans (hB3.mono HB2.out.size))
      have HZ3 := Lib.hid (HZ2.out.later hB3)
      have HX3 := Lib.hid (HXQ.out.later hB3)
      have hs1 := str_run c3 hby3
      have hs2 := str_run c (HY2.out.later hB3)
      clear k0 k1 k2 k3 k4 k5 k6 k7 k8 k9 k10
      clear hB3 hby3
      obtain ⟨z0, z1, z2, z3, z4, z5, z6, z7, z8, z9, z10⟩ := HZ3.out.all
      have f0 := HZ3.out.free 0
      have f1 := HZ3.out.free 1
      have f2 := HZ3.out.free 2
      have f3 := HZ3.out.free 3
      have f4 := HZ3.out.free 4
      have f5 := HZ3.out.free 5
      have f6 := HZ3.out.free 6
      have f7 := HZ3.out.free 7
      have f8 := HZ3.out.free 8
      have f9 := HZ3.out.free 9
      have f10 := HZ3.out.free 10
      by_cases hq : encM q = b
      · have HF := Lib.hid (show decBy refD b = (q, 0) by rw [HDD.out, if_pos ⟨hr, hq⟩])
        have hself : (encM q == b) = true := by simpa using hq
        have hself2 : (encM q != b) = false := by simpa using hq
        clear hq hr HE HDD HRV HR
        generalize encM q = bl at hs1 hself hself2 ⊢
        obtain ⟨y0, y1, y2, y3, y4, y5, y6, y7, y8, y9, y10⟩ := HX3.out.all
        go_wp2
        exact rdec_end (q := q) (W := w3) HZ3.out HB3.out (Nat.le_refl _) HF.out rfl rfl
      · have HF := Lib.hid (show decBy refD b = (zeroM, 2) by rw [HDD.out, if_neg (fun h => hq h.2)])
        have hself : (encM q == b) = false := by simpa using hq
        have hself2 : (encM q != b) = true := by simpa using hq
        clear hq hr HE HDD HRV HR
        generalize encM q = bl at hs1 hself hself2 ⊢
        go_wp2
        exact rdec_end (q := zeroM) (W := w3) HZ3.out HB3.out (Nat.le_refl _) HF.out rfl rfl

set_option maxRecDepth 100000 in
set_option maxHeartbeats 4000000 in
theorem rdec_3 (A : Option Addr) (c : Nat) (b : List UInt8) (w : World) (hb : By w w.heap.size A b) (hbc : b.length ≤ c) (h9 : 9 ≤ b.length) (h100 : b.length ≤ 100) (hk : atD b 0 1 = 3) :
    Calls Try.prog 15 #[.slice A b.length c] w (GivesM w (decBy refD b)) := by
  have hd : decide ((b.length : Int) < 9) = false := by simp; omega
  have hd2 : decide ((100 : Int) < (b.length : Int)) = false := by simp; omega
  obtain ⟨w0, hw0⟩ : ∃ w0, w0 = w.alloc (.cells #[.int .i64 0, .int .i64 0, .int .i64 0, .int .i64 0, .int .i64 0, .int .u32 0, .int .i64 0, .string ⟨#[]⟩, .int .i64 0, .int .i64 0, .bool false] 25) := ⟨_, rfl⟩
  have HZ : Hid (MBox w0 w.heap.size zeroM) := Lib.hid (by rw [hw0]; exact MBox.new w zeroM)
  have HB0 : Hid (Below w.heap.size w w0) := Lib.hid (by rw [hw0]; exact (Below.refl _ _).alloc (Nat.le_refl _) _)
  have HY0 : Hid (By w0 w0.heap.size A b) := Lib.hid (hb.later HB0.out)
  have HLT : Hid (w.heap.size < w0.heap.size) := Lib.hid (by rw [hw0]; simp)
  have HW0 := Lib.hid hw0
  obtain ⟨x, hx⟩ : ∃ x, b[0]? = some x := ⟨_, List.getElem?_eq_getElem (by omega)⟩
  obtain ⟨g, o, rfl, hlt, hc⟩ := HY0.out.at_ 0 x hx
  have hc0 : w0.cell? ⟨g, o, none⟩ = some (.int .u8 (x.toNat : Int)) := hc
  have hX0 := take_one hx
  have t1 : ((x.toNat : Int) == 1) = false := by rw [← hX0, hk]; decide
  have t3 : ((x.toNat : Int) == 3) = true := by rw [← hX0, hk]; decide
  have t2 : ((x.toNat : Int) == 2) = false := by rw [← hX0, hk]; decide
  have HK2 := Lib.hid (show x.toNat = 3 from by rw [← hX0]; exact hk)
  have HX0 := Lib.hid hX0
  obtain ⟨A1, r1, b1⟩ := cut_by HY0.out b.length c 1 5 1 5 rfl rfl (by omega) (by omega) hbc
  obtain ⟨A5, r5, b5⟩ := cut_by HY0.out b.length c 5 9 5 9 rfl rfl (by omega) (by omega) hbc
  simp only [Nat.reduceSub] at r1 r5 b1 b5
  have K1 : Hid (∀ W, By W w0.heap.size A1 ((b.drop 1).take 4) → Calls Try.prog 22 #[.slice A1 4 (c - 1)] W fun e w' => e = .returned (.int .i64 ((atD b 1 4 : Nat) : Int)) ∧ W = w') := Lib.hid (fun W h => by
    have := of_any w0.heap.size A1 (c - 1) ((b.drop 1).take 4) W h (by rw [List.length_take]; omega)
    rwa [show ((b.drop 1).take 4).length = 4 by rw [List.length_take, List.length_drop]; omega] at this)
  have K5 : Hid (∀ W, By W w0.heap.size A5 ((b.drop 5).take 4) → Calls Try.prog 22 #[.slice A5 4 (c - 5)] W fun e w' => e = .returned (.int .i64 ((atD b 5 4 : Nat) : Int)) ∧ W = w') := Lib.hid (fun W h => by
    have := of_any w0.heap.size A5 (c - 5) ((b.drop 5).take 4) W h (by rw [List.length_take]; omega)
    rwa [show ((b.drop 5).take 4).length = 4 by rw [List.length_take, List.length_drop]; omega] at this)
  have htl := run_tailB (some ⟨g, o, none⟩) b.length c 9 (by omega) (by omega)
  have hcut := HY0.out.cut (k := 9) (cap := c) (by omega) hbc
  obtain ⟨A9, hA9⟩ : ∃ A9, A9 = (if c = 9 then (some ⟨g, o, none⟩ : Option Addr) else (some ⟨g, o, none⟩ : Option Addr).map (·.add 9)) := ⟨_, rfl⟩
  rw [show (9 : Int).toNat = 9 from rfl, ← hA9] at htl
  rw [← hA9] at hcut
  have HCUT := Lib.hid hcut
  have HQ := Lib.hid (show decBy refD b = decBy refD b from rfl)
  have i0 : 0 < b.length := by omega
  have i0' : (0 : Int) < (b.length : Int) := by omega
  have hxx := x.toNat_lt
  have hxw : IntKind.i64.wrap (x.toNat : Int) = x.toNat := by rw [IntKind.wrap_i64]; omega
  clear hw0 hb hx hc hk hX0 hA9 hcut
  go_enter Try.func15, Try.ntmps15
  go_upto_region 3 with fail
  rw [← HW0.out]
  go_cut [4] (fun s4 wx => s4 = .pointer (some ⟨w0.heap.size, 0, none⟩) ∧ MBox wx w0.heap.size ⟨x.toNat, (atD b 1 4 : Nat), (atD b 5 4 : Nat), 0, 0, 0, 0, ⟨#[]⟩, 0, 0, false⟩ ∧ Below w0.heap.size w0 wx)
  case first =>
    clear htl
    go_region_held3 (fun w' => w'.cell? ⟨g, o, none⟩ = some (.int .u8 (x.toNat : Int))) (go_keep)
      (first
        | (go_at_call 22; (with_reducible refine (K1.out _ ?_).mono ?_); (first | exact b1.drew | exact (b1.below ((Below.refl _ _).alloc (Nat.le_refl _) _)).drew); rintro e w' ⟨rfl, rfl⟩)
        | (go_at_call 22; (with_reducible refine (K5.out _ ?_).mono ?_); (first | exact b5.drew | exact (b5.below ((Below.refl _ _).alloc (Nat.le_refl _) _)).drew); rintro e w' ⟨rfl, rfl⟩))
    all_goals
      go_wp2_with fail
      go_meet
      exact ⟨rfl, MBox.new w0 ⟨x.toNat, (atD b 1 4 : Nat), (atD b 5 4 : Nat), 0, 0, 0, 0, ⟨#[]⟩, 0, 0, false⟩, ((Below.refl _ _).alloc (Nat.le_refl _) _).drew⟩
  case rest =>
    obtain ⟨rfl, hbx, hB1⟩ := hcut
    have HB1 := Lib.hid (HB0.out.trans (hB1.mono HB0.out.size))
    have HZ1 := Lib.hid (HZ.out.below hB1 HLT.out)
    have HY1 := Lib.hid (HY0.out.below hB1)
    have HC1 := Lib.hid ((HCUT.out.below hB1).below ((Below.refl wc.heap.size wc).alloc (Nat.le_refl _) (.cells #[] 5) |>.mono hB1.size))
    have HBX := Lib.hid hbx
    have HMX := Lib.hid hbx.lt
    clear hB1 hbx r1 r5 b1 b5 i0 i0' hc0 hlt
    go_upto_region 5 with (first
      | (at_builtin; refine wpList_rowN (l := []) rfl (.tmp 28) (.tmp 30) rfl rfl (rowE0 wc) (b.drop 9) List.length_drop rfl HC1.out (by simp; omega) ?_; intro g4 c4 w4 l4 HL4 hl4 R4)
      | (at_builtin; refine wpList_rowO rfl (.tmp 31) (.const (.int .i64 30)) rfl rfl R4 30 (by omega) rfl rfl (by simp at hl4; omega) ?_; intro g5 c5 w5 l5 HL5 hl5 hl5' hc5 hg5 R5))
    have HRD : Hid (restD b = l5) := Lib.hid (by rw [HL5.out, HL4.out]; rfl)
    have D5 : DS w w5 w0.heap.size g5 (some ⟨g, o, none⟩) b l5 ⟨x.toNat, (atD b 1 4 : Nat), (atD b 5 4 : Nat), 0, 0, 0, 0, ⟨#[]⟩, 0, 0, false⟩ :=
      ⟨HZ1.out.below R5.low (Nat.lt_trans HLT.out HMX.out), HBX.out.later R5.low, (HY1.out.below (R5.low.mono (Nat.le_of_lt HMX.out))), By.of_own R5.own, HB1.out.trans (R5.low.mono HB1.out.size), ⟨HLT.out, Nat.lt_of_lt_of_le HMX.out hg5⟩⟩
    have hlb : l5.length ≤ 121 := by simp at hl4; omega
    have hl30 : 30 ≤ l5.length := by omega
    clear R4 R5 htl hl4 hl5 hl5' hg5
    have HD5 := Lib.hid D5
    have HC5 := Lib.hid hc5
    clear D5 hc5
    have c0 := HD5.out.m.c0
    have d3 := HD5.out.m.c3
    have f3 := HD5.out.m.free 3
    obtain ⟨hh, ho⟩ := HD5.out.head HC5.out (by omega)
    go_upto_region 11 with (go_at_call 22; refine ho.mono ?_; rintro e w' ⟨rfl, rfl⟩)
    obtain ⟨w6, hw6⟩ : ∃ w6, w6 = w5.setCell ⟨w0.heap.size, 3, none⟩ (.int .i64 ((atD l5 0 4 : Nat) : Int)) := ⟨_, rfl⟩
    have HD6 : Hid (DS w w6 w0.heap.size g5 (some ⟨g, o, none⟩) b l5 ⟨x.toNat, (atD b 1 4 : Nat), (atD b 5 4 : Nat), (atD l5 0 4 : Nat), 0, 0, 0, ⟨#[]⟩, 0, 0, false⟩) := Lib.hid (by rw [hw6]; exact HD5.out.store 3 _ rfl)
    rw [← hw6]
    clear c0 d3 f3 hh ho hw6
    have d10 := HD6.out.m.c10
    have f10 := HD6.out.m.free 10
    have hc4 := HD6.out.byte (k := 4) (by omega)
    have hb4 : atD l5 4 1 < 256 := at_lt l5 4 1
    have i4 : 4 < l5.length := by omega
    obtain ⟨okb, hokb⟩ : ∃ okb : Bool, okb = (((atD l5 4 1 : Nat) : Int) == 1) := ⟨_, rfl⟩
    have hok := hokb.symm
    have HOK : Hid ((atD l5 4 1 == 1) = okb) := Lib.hid (by rw [hokb, Bool.eq_iff_iff]; simp; omega)
    clear hokb
    go_upto_region 19 with fail
    obtain ⟨w7, hw7⟩ : ∃ w7, w7 = w6.setCell ⟨w0.heap.size, 10, none⟩ (.bool okb) := ⟨_, rfl⟩
    have HD7 : Hid (DS w w7 w0.heap.size g5 (some ⟨g, o, none⟩) b l5 ⟨x.toNat, (atD b 1 4 : Nat), (atD b 5 4 : Nat), (atD l5 0 4 : Nat), 0, 0, 0, ⟨#[]⟩, 0, 0, okb⟩) := Lib.hid (by rw [hw7]; exact HD6.out.store 10 _ rfl)
    rw [← hw7]
    clear d10 f10 hc4 hw7 hok
    have HRV : Hid (refD b = ⟨x.toNat, (atD b 1 4 : Nat), (atD b 5 4 : Nat), (atD l5 0 4 : Nat), 0, 0, 0, ⟨#[]⟩, 0, 0, okb⟩) := Lib.hid (by unfold refD; rw [HRD.out, HX0.out]; simp [HK2.out, HOK.out])
    obtain ⟨q, hq⟩ : ∃ q, q = refD b := ⟨_, rfl⟩
    have HXQ : Hid (MBox w7 w0.heap.size q) := Lib.hid (by rw [hq, HRV.out]; exact HD7.out.m)
    have HZ2 := Lib.hid HD7.out.z
    have HY2 : Hid (By w7 w7.heap.size (some ⟨g, o, none⟩) b) := Lib.hid (HD7.out.b.more (Nat.le_of_lt HD7.out.m.lt))
    have HB2 := Lib.hid HD7.out.low
    have HE := Lib.hid (fun W => rencode_any q (by rw [hq]; exact refD_addr b) W)
    have HDD : Hid (decBy refD b = if rightM q = true ∧ encM q = b then (q, 0) else (zeroM, 2)) := Lib.hid (by rw [hq]; rfl)
    clear hq
    obtain ⟨k0, k1, k2, k3, k4, k5, k6, k7, k8, k9, k10⟩ := HXQ.out.all
    go_wp2_with fail
    cases hr : rightM q
    · have HR := Lib.hid (show encR q = ([], 1) by simp [encR, hr])
      simp only [HR.out] at HE
      have HF := Lib.hid (show decBy refD b = (zeroM, 2) by rw [HDD.out, if_neg (by rw [hr]; simp)])
      refine (HE.out _).mono ?_
      rintro e w3 ⟨A3, c3, rfl, hby3, _, hB3⟩
      have HB3 := Lib.hid (HB2.out.trans (hB3.mono HB2.out.size))
      have HZ3 := Lib.hid (HZ2.out.later hB3)
      clear k0 k1 k2 k3 k4 k5 k6 k7 k8 k9 k10
      clear hr hB3 hby3
      obtain ⟨z0, z1, z2, z3, z4, z5, z6, z7, z8, z9, z10⟩ := HZ3.out.all
      have f0 := HZ3.out.free 0
      have f1 := HZ3.out.free 1
      have f2 := HZ3.out.free 2
      have f3 := HZ3.out.free 3
      have f4 := HZ3.out.free 4
      have f5 := HZ3.out.free 5
      have f6 := HZ3.out.free 6
      have f7 := HZ3.out.free 7
      have f8 := HZ3.out.free 8
      have f9 := HZ3.out.free 9
      have f10 := HZ3.out.free 10
      go_wp2
      exact rdec_end (q := zeroM) (W := w3) HZ3.out HB3.out (Nat.le_refl _) HF.out rfl rfl
    · have HR := Lib.hid (show encR q = (encM q, 0) by simp [encR, hr])
      simp only [HR.out] at HE
      refine (HE.out _).mono ?_
      rintro e w3 ⟨A3, c3, rfl, hby3, _, hB3⟩
      have HB3 := Lib.hid (HB2.out.trans (hB3.mono HB2.out.size))
      have HZ3 := Lib.hid (HZ2.out.later hB3)
      have HX3 := Lib.hid (HXQ.out.later hB3)
      have hs1 := str_run c3 hby3
      have hs2 := str_run c (HY2.out.later hB3)
      clear k0 k1 k2 k3 k4 k5 k6 k7 k8 k9 k10
      clear hB3 hby3
      obtain ⟨z0, z1, z2, z3, z4, z5, z6, z7, z8, z9, z10⟩ := HZ3.out.all
      have f0 := HZ3.out.free 0
      have f1 := HZ3.out.free 1
      have f2 := HZ3.out.free 2
      have f3 := HZ3.out.free 3
      have f4 := HZ3.out.free 4
      have f5 := HZ3.out.free 5
      have f6 := HZ3.out.free 6
      have f7 := HZ3.out.free 7
      have f8 := HZ3.out.free 8
      have f9 := HZ3.out.free 9
      have f10 := HZ3.out.free 10
      by_cases hq : encM q = b
      · have HF := Lib.hid (show decBy refD b = (q, 0) by rw [HDD.out, if_pos ⟨hr, hq⟩])
        have hself : (encM q == b) = true := by simpa using hq
        have hself2 : (encM q != b) = false := by simpa using hq
        clear hq hr HE HDD HRV HR
        generalize encM q = bl at hs1 hself hself2 ⊢
        obtain ⟨y0, y1, y2, y3, y4, y5, y6, y7, y8, y9, y10⟩ := HX3.out.all
        go_wp2
        exact rdec_end (q := q) (W := w3) HZ3.out HB3.out (Nat.le_refl _) HF.out rfl rfl
      · have HF := Lib.hid (show decBy refD b = (zeroM, 2) by rw [HDD.out, if_neg (fun h => hq h.2)])
        have hself : (encM q == b) = false := by simpa using hq
        have hself2 : (encM q != b) = true := by simpa using hq
        clear hq hr HE HDD HRV HR
        generalize encM q = bl at hs1 hself hself2 ⊢
        go_wp2
        exact rdec_end (q := zeroM) (W := w3) HZ3.out HB3.out (Nat.le_refl _) HF.out rfl rfl

set_option maxRecDepth 100000 in
set_option maxHeartbeats 4000000 in
theorem rdec_2 (A : Option Addr) (c : Nat) (b : List UInt8) (w : World) (hb : By w w.heap.size A b) (hbc : b.length ≤ c) (h9 : 9 ≤ b.length) (h100 : b.length ≤ 100) (hk : atD b 0 1 = 2) :
    Calls Try.prog 15 #[.slice A b.length c] w (GivesM w (decBy refD b)) := by
  have hd : decide ((b.length : Int) < 9) = false := by simp; omega
  have hd2 : decide ((100 : Int) < (b.length : Int)) = false := by simp; omega
  obtain ⟨w0, hw0⟩ : ∃ w0, w0 = w.alloc (.cells #[.int .i64 0, .int .i64 0, .int .i64 0, .int .i64 0, .int .i64 0, .int .u32 0, .int .i64 0, .string ⟨#[]⟩, .int .i64 0, .int .i64 0, .bool false] 25) := ⟨_, rfl⟩
  have HZ : Hid (MBox w0 w.heap.size zeroM) := Lib.hid (by rw [hw0]; exact MBox.new w zeroM)
  have HB0 : Hid (Below w.heap.size w w0) := Lib.hid (by rw [hw0]; exact (Below.refl _ _).alloc (Nat.le_refl _) _)
  have HY0 : Hid (By w0 w0.heap.size A b) := Lib.hid (hb.later HB0.out)
  have HLT : Hid (w.heap.size < w0.heap.size) := Lib.hid (by rw [hw0]; simp)
  have HW0 := Lib.hid hw0
  obtain ⟨x, hx⟩ : ∃ x, b[0]? = some x := ⟨_, List.getElem?_eq_getElem (by omega)⟩
  obtain ⟨g, o, rfl, hlt, hc⟩ := HY0.out.at_ 0 x hx
  have hc0 : w0.cell? ⟨g, o, none⟩ = some (.int .u8 (x.toNat : Int)) := hc
  have hX0 := take_one hx
  have t1 : ((x.toNat : Int) == 1) = false := by rw [← hX0, hk]; decide
  have t3 : ((x.toNat : Int) == 3) = false := by rw [← hX0, hk]; decide
  have t2 : ((x.toNat : Int) == 2) = true := by rw [← hX0, hk]; decide
  have HK2 := Lib.hid (show x.toNat = 2 from by rw [← hX0]; exact hk)
  have HX0 := Lib.hid hX0
  obtain ⟨A1, r1, b1⟩ := cut_by HY0.out b.length c 1 5 1 5 rfl rfl (by omega) (by omega) hbc
  obtain ⟨A5, r5, b5⟩ := cut_by HY0.out b.length c 5 9 5 9 rfl rfl (by omega) (by omega) hbc
  simp only [Nat.reduceSub] at r1 r5 b1 b5
  have K1 : Hid (∀ W, By W w0.heap.size A1 ((b.drop 1).take 4) → Calls Try.prog 22 #[.slice A1 4 (c - 1)] W fun e w' => e = .returned (.int .i64 ((atD b 1 4 : Nat) : Int)) ∧ W = w') := Lib.hid (fun W h => by
    have := of_any w0.heap.size A1 (c - 1) ((b.drop 1).take 4) W h (by rw [List.length_take]; omega)
    rwa [show ((b.drop 1).take 4).length = 4 by rw [List.length_take, List.length_drop]; omega] at this)
  have K5 : Hid (∀ W, By W w0.heap.size A5 ((b.drop 5).take 4) → Calls Try.prog 22 #[.slice A5 4 (c - 5)] W fun e w' => e = .returned (.int .i64 ((atD b 5 4 : Nat) : Int)) ∧ W = w') := Lib.hid (fun W h => by
    have := of_any w0.heap.size A5 (c - 5) ((b.drop 5).take 4) W h (by rw [List.length_take]; omega)
    rwa [show ((b.drop 5).take 4).length = 4 by rw [List.length_take, List.length_drop]; omega] at this)
  have htl := run_tailB (some ⟨g, o, none⟩) b.length c 9 (by omega) (by omega)
  have hcut := HY0.out.cut (k := 9) (cap := c) (by omega) hbc
  obtain ⟨A9, hA9⟩ : ∃ A9, A9 = (if c = 9 then (some ⟨g, o, none⟩ : Option Addr) else (some ⟨g, o, none⟩ : Option Addr).map (·.add 9)) := ⟨_, rfl⟩
  rw [show (9 : Int).toNat = 9 from rfl, ← hA9] at htl
  rw [← hA9] at hcut
  have HCUT := Lib.hid hcut
  have HQ := Lib.hid (show decBy refD b = decBy refD b from rfl)
  have i0 : 0 < b.length := by omega
  have i0' : (0 : Int) < (b.length : Int) := by omega
  have hxx := x.toNat_lt
  have hxw : IntKind.i64.wrap (x.toNat : Int) = x.toNat := by rw [IntKind.wrap_i64]; omega
  clear hw0 hb hx hc hk hX0 hA9 hcut
  go_enter Try.func15, Try.ntmps15
  go_upto_region 3 with fail
  rw [← HW0.out]
  go_cut [4] (fun s4 wx => s4 = .pointer (some ⟨w0.heap.size, 0, none⟩) ∧ MBox wx w0.heap.size ⟨x.toNat, (atD b 1 4 : Nat), (atD b 5 4 : Nat), 0, 0, 0, 0, ⟨#[]⟩, 0, 0, false⟩ ∧ Below w0.heap.size w0 wx)
  case first =>
    clear htl
    go_region_held3 (fun w' => w'.cell? ⟨g, o, none⟩ = some (.int .u8 (x.toNat : Int))) (go_keep)
      (first
        | (go_at_call 22; (with_reducible refine (K1.out _ ?_).mono ?_); (first | exact b1.drew | exact (b1.below ((Below.refl _ _).alloc (Nat.le_refl _) _)).drew); rintro e w' ⟨rfl, rfl⟩)
        | (go_at_call 22; (with_reducible refine (K5.out _ ?_).mono ?_); (first | exact b5.drew | exact (b5.below ((Below.refl _ _).alloc (Nat.le_refl _) _)).drew); rintro e w' ⟨rfl, rfl⟩))
    all_goals
      go_wp2_with fail
      go_meet
      exact ⟨rfl, MBox.new w0 ⟨x.toNat, (atD b 1 4 : Nat), (atD b 5 4 : Nat), 0, 0, 0, 0, ⟨#[]⟩, 0, 0, false⟩, ((Below.refl _ _).alloc (Nat.le_refl _) _).drew⟩
  case rest =>
    obtain ⟨rfl, hbx, hB1⟩ := hcut
    have HB1 := Lib.hid (HB0.out.trans (hB1.mono HB0.out.size))
    have HZ1 := Lib.hid (HZ.out.below hB1 HLT.out)
    have HY1 := Lib.hid (HY0.out.below hB1)
    have HC1 := Lib.hid ((HCUT.out.below hB1).below ((Below.refl wc.heap.size wc).alloc (Nat.le_refl _) (.cells #[] 5) |>.mono hB1.size))
    have HBX := Lib.hid hbx
    have HMX := Lib.hid hbx.lt
    clear hB1 hbx r1 r5 b1 b5 i0 i0' hc0 hlt
    go_upto_region 5 with (first
      | (at_builtin; refine wpList_rowN (l := []) rfl (.tmp 28) (.tmp 30) rfl rfl (rowE0 wc) (b.drop 9) List.length_drop rfl HC1.out (by simp; omega) ?_; intro g4 c4 w4 l4 HL4 hl4 R4)
      | (at_builtin; refine wpList_rowO rfl (.tmp 31) (.const (.int .i64 30)) rfl rfl R4 30 (by omega) rfl rfl (by simp at hl4; omega) ?_; intro g5 c5 w5 l5 HL5 hl5 hl5' hc5 hg5 R5))
    have HRD : Hid (restD b = l5) := Lib.hid (by rw [HL5.out, HL4.out]; rfl)
    have D5 : DS w w5 w0.heap.size g5 (some ⟨g, o, none⟩) b l5 ⟨x.toNat, (atD b 1 4 : Nat), (atD b 5 4 : Nat), 0, 0, 0, 0, ⟨#[]⟩, 0, 0, false⟩ :=
      ⟨HZ1.out.below R5.low (Nat.lt_trans HLT.out HMX.out), HBX.out.later R5.low, (HY1.out.below (R5.low.mono (Nat.le_of_lt HMX.out))), By.of_own R5.own, HB1.out.trans (R5.low.mono HB1.out.size), ⟨HLT.out, Nat.lt_of_lt_of_le HMX.out hg5⟩⟩
    have hlb : l5.length ≤ 121 := by simp at hl4; omega
    have hl30 : 30 ≤ l5.length := by omega
    clear R4 R5 htl hl4 hl5 hl5' hg5
    have HD5 := Lib.hid D5
    have HC5 := Lib.hid hc5
    clear D5 hc5
    have c0 := HD5.out.m.c0
    have d3 := HD5.out.m.c3
    have f3 := HD5.out.m.free 3
    obtain ⟨hh, ho⟩ := HD5.out.head HC5.out (by omega)
    go_upto_region 14 with (go_at_call 22; refine ho.mono ?_; rintro e w' ⟨rfl, rfl⟩)
    obtain ⟨w6, hw6⟩ : ∃ w6, w6 = w5.setCell ⟨w0.heap.size, 3, none⟩ (.int .i64 ((atD l5 0 4 : Nat) : Int)) := ⟨_, rfl⟩
    have HD6 : Hid (DS w w6 w0.heap.size g5 (some ⟨g, o, none⟩) b l5 ⟨x.toNat, (atD b 1 4 : Nat), (atD b 5 4 : Nat), (atD l5 0 4 : Nat), 0, 0, 0, ⟨#[]⟩, 0, 0, false⟩) := Lib.hid (by rw [hw6]; exact HD5.out.store 3 _ rfl)
    rw [← hw6]
    clear c0 d3 f3 hh ho hw6
    obtain ⟨Ap, hh, ho⟩ := HD6.out.piece HC5.out 4 8 (by omega) (by omega) (by omega)
    simp only [Nat.reduceSub, Int.cast_ofNat_Int] at hh ho
    have ha4 : atD l5 4 4 < 4294967296 := at_lt l5 4 4
    have hw4 : IntKind.u32.wrap ((atD l5 4 4 : Nat) : Int) = ((atD l5 4 4 : Nat) : Int) := by simp [IntKind.wrap, IntKind.bits, IntKind.signed]; omega
    have d5 := HD6.out.m.c5
    have f5 := HD6.out.m.free 5
    go_upto_region 15 with (go_at_call 22; refine ho.mono ?_; rintro e w' ⟨rfl, rfl⟩)
    obtain ⟨w7, hw7⟩ : ∃ z, z = w6.setCell ⟨w0.heap.size, 5, none⟩ (.int .u32 ((atD l5 4 4 : Nat) : Int)) := ⟨_, rfl⟩
    have HD7 : Hid (DS w w7 w0.heap.size g5 (some ⟨g, o, none⟩) b l5 ⟨x.toNat, (atD b 1 4 : Nat), (atD b 5 4 : Nat), (atD l5 0 4 : Nat), 0, atD l5 4 4, 0, ⟨#[]⟩, 0, 0, false⟩) := Lib.hid (by rw [hw7]; exact HD6.out.store 5 _ rfl)
    rw [← hw7]
    clear d5 f5 hw7 hh ho hw4
    have hc8 := HD7.out.byte (k := 8) (by omega)
    have hb8 : atD l5 8 1 < 256 := at_lt l5 8 1
    have i8 : 8 < l5.length := by omega
    have d6 := HD7.out.m.c6
    have f6 := HD7.out.m.free 6
    go_upto_region 16 with (fail)
    obtain ⟨w8, hw8⟩ : ∃ z, z = w7.setCell ⟨w0.heap.size, 6, none⟩ (.int .i64 ((atD l5 8 1 : Nat) : Int)) := ⟨_, rfl⟩
    have HD8 : Hid (DS w w8 w0.heap.size g5 (some ⟨g, o, none⟩) b l5 ⟨x.toNat, (atD b 1 4 : Nat), (atD b 5 4 : Nat), (atD l5 0 4 : Nat), 0, atD l5 4 4, (atD l5 8 1 : Nat), ⟨#[]⟩, 0, 0, false⟩) := Lib.hid (by rw [hw8]; exact HD7.out.store 6 _ rfl)
    rw [← hw8]
    clear d6 f6 hw8 hc8
    obtain ⟨Ap, hh, ho⟩ := HD8.out.piece HC5.out 9 15 (by omega) (by omega) (by omega)
    simp only [Nat.reduceSub, Int.cast_ofNat_Int] at hh ho
    have d8 := HD8.out.m.c8
    have f8 := HD8.out.m.free 8
    go_upto_region 17 with (go_at_call 22; refine ho.mono ?_; rintro e w' ⟨rfl, rfl⟩)
    obtain ⟨w9, hw9⟩ : ∃ z, z = w8.setCell ⟨w0.heap.size, 8, none⟩ (.int .i64 ((atD l5 9 6 : Nat) : Int)) := ⟨_, rfl⟩
    have HD9 : Hid (DS w w9 w0.heap.size g5 (some ⟨g, o, none⟩) b l5 ⟨x.toNat, (atD b 1 4 : Nat), (atD b 5 4 : Nat), (atD l5 0 4 : Nat), 0, atD l5 4 4, (atD l5 8 1 : Nat), ⟨#[]⟩, (atD l5 9 6 : Nat), 0, false⟩) := Lib.hid (by rw [hw9]; exact HD8.out.store 8 _ rfl)
    rw [← hw9]
    clear d8 f8 hw9 hh ho
    obtain ⟨Ap, hh, ho⟩ := HD9.out.piece HC5.out 15 21 (by omega) (by omega) (by omega)
    simp only [Nat.reduceSub, Int.cast_ofNat_Int] at hh ho
    have d9 := HD9.out.m.c9
    have f9 := HD9.out.m.free 9
    go_upto_region 18 with (go_at_call 22; refine ho.mono ?_; rintro e w' ⟨rfl, rfl⟩)
    obtain ⟨w10, hw10⟩ : ∃ z, z = w9.setCell ⟨w0.heap.size, 9, none⟩ (.int .i64 ((atD l5 15 6 : Nat) : Int)) := ⟨_, rfl⟩
    have HD10 : Hid (DS w w10 w0.heap.size g5 (some ⟨g, o, none⟩) b l5 ⟨x.toNat, (atD b 1 4 : Nat), (atD b 5 4 : Nat), (atD l5 0 4 : Nat), 0, atD l5 4 4, (atD l5 8 1 : Nat), ⟨#[]⟩, (atD l5 9 6 : Nat), (atD l5 15 6 : Nat), false⟩) := Lib.hid (by rw [hw10]; exact HD9.out.store 9 _ rfl)
    rw [← hw10]
    clear d9 f9 hw10 hh ho
    have hc21 := HD10.out.byte (k := 21) (by omega)
    have hb21 : atD l5 21 1 < 256 := at_lt l5 21 1
    have i21 : 21 < l5.length := by omega
    have d7 := HD10.out.m.c7
    have f7 := HD10.out.m.free 7
    by_cases hmin : atD l5 21 1 ≤ l5.length - 22
    · obtain ⟨p, hp⟩ : ∃ p, p = atD l5 21 1 := ⟨_, rfl⟩
      rw [← hp] at hc21 hb21 hmin
      have hnm : nameD l5 = nameD l5 := rfl
      have hm0 : ¬ ((l5.length : Int) - 22 < (p : Int)) := by omega
      have HP := Lib.hid hp
      obtain ⟨Ac, hcut, hbyc⟩ := cut_by HD10.out.r l5.length c5 22 (22 + p) 22 (22 + (p : Int)) rfl (by omega) (by omega) (by omega) HC5.out
      have hname : nameD l5 = ⟨((l5.drop 22).take p).toArray⟩ := by unfold nameD; rw [← HP.out]; congr 3; omega
      have hpl : ((l5.drop 22).take p).length = p := by rw [List.length_take, List.length_drop]; omega
      have hstr := str_run (c5 - 22) hbyc
      rw [show 22 + p - 22 = p by omega] at hcut hstr
      rw [hpl, ← hname] at hstr
      have HNM := Lib.hid hname
      clear hname hbyc hpl
      clear hp
      go_upto_region 19 with fail
      obtain ⟨wz, hwz⟩ : ∃ z, z = w10.setCell ⟨w0.heap.size, 7, none⟩ (.string (nameD l5)) := ⟨_, rfl⟩
      have HDz : Hid (DS w wz w0.heap.size g5 (some ⟨g, o, none⟩) b l5 ⟨x.toNat, (atD b 1 4 : Nat), (atD b 5 4 : Nat), (atD l5 0 4 : Nat), 0, atD l5 4 4, (atD l5 8 1 : Nat), nameD l5, (atD l5 9 6 : Nat), (atD l5 15 6 : Nat), false⟩) := Lib.hid (by rw [hwz]; exact HD10.out.store 7 _ rfl)
      rw [← hwz]
      clear d7 f7 hwz hcut hstr hc21
      have HRV : Hid (refD b = ⟨x.toNat, (atD b 1 4 : Nat), (atD b 5 4 : Nat), (atD l5 0 4 : Nat), 0, atD l5 4 4, (atD l5 8 1 : Nat), nameD l5, (atD l5 9 6 : Nat), (atD l5 15 6 : Nat), false⟩) := Lib.hid (by unfold refD; rw [HRD.out, HX0.out]; simp [HK2.out])
      obtain ⟨q, hq⟩ : ∃ q, q = refD b := ⟨_, rfl⟩
      have HXQ : Hid (MBox wz w0.heap.size q) := Lib.hid (by rw [hq, HRV.out]; exact HDz.out.m)
      have HZ2 := Lib.hid HDz.out.z
      have HY2 : Hid (By wz wz.heap.size (some ⟨g, o, none⟩) b) := Lib.hid (HDz.out.b.more (Nat.le_of_lt HDz.out.m.lt))
      have HB2 := Lib.hid HDz.out.low
      have HE := Lib.hid (fun W => rencode_any q (by rw [hq]; exact refD_addr b) W)
      have HDD : Hid (decBy refD b = if rightM q = true ∧ encM q = b then (q, 0) else (zeroM, 2)) := Lib.hid (by rw [hq]; rfl)
      clear hq
      obtain ⟨k0, k1, k2, k3, k4, k5, k6, k7, k8, k9, k10⟩ := HXQ.out.all
      go_wp2_with fail
      cases hr : rightM q
      · have HR := Lib.hid (show encR q = ([], 1) by simp [encR, hr])
        simp only [HR.out] at HE
        have HF := Lib.hid (show decBy refD b = (zeroM, 2) by rw [HDD.out, if_neg (by rw [hr]; simp)])
        refine (HE.out _).mono ?_
        rintro e w3 ⟨A3, c3, rfl, hby3, _, hB3⟩
        have HB3 := Lib.hid (HB2.out.trans (hB3.mono HB2.out.size))
        have HZ3 := Lib.hid (HZ2.out.later hB3)
        clear k0 k1 k2 k3 k4 k5 k6 k7 k8 k9 k10
        clear hr hB3 hby3
        obtain ⟨z0, z1, z2, z3, z4, z5, z6, z7, z8, z9, z10⟩ := HZ3.out.all
        have f0 := HZ3.out.free 0
        have f1 := HZ3.out.free 1
        have f2 := HZ3.out.free 2
        have f3 := HZ3.out.free 3
        have f4 := HZ3.out.free 4
        have f5 := HZ3.out.free 5
        have f6 := HZ3.out.free 6
        have f7 := HZ3.out.free 7
        have f8 := HZ3.out.free 8
        have f9 := HZ3.out.free 9
        have f10 := HZ3.out.free 10
        go_wp2
        exact rdec_end (q := zeroM) (W := w3) HZ3.out HB3.out (Nat.le_refl _) HF.out rfl rfl
      · have HR := Lib.hid (show encR q = (encM q, 0) by simp [encR, hr])
        simp only [HR.out] at HE
        refine (HE.out _).mono ?_
        rintro e w3 ⟨A3, c3, rfl, hby3, _, hB3⟩
        have HB3 := Lib.hid (HB2.out.trans (hB3.mono HB2.out.size))
        have HZ3 := Lib.hid (HZ2.out.later hB3)
        have HX3 := Lib.hid (HXQ.out.later hB3)
        have hs1 := str_run c3 hby3
        have hs2 := str_run c (HY2.out.later hB3)
        clear k0 k1 k2 k3 k4 k5 k6 k7 k8 k9 k10
        clear hB3 hby3
        obtain ⟨z0, z1, z2, z3, z4, z5, z6, z7, z8, z9, z10⟩ := HZ3.out.all
        have f0 := HZ3.out.free 0
        have f1 := HZ3.out.free 1
        have f2 := HZ3.out.free 2
        have f3 := HZ3.out.free 3
        have f4 := HZ3.out.free 4
        have f5 := HZ3.out.free 5
        have f6 := HZ3.out.free 6
        have f7 := HZ3.out.free 7
        have f8 := HZ3.out.free 8
        have f9 := HZ3.out.free 9
        have f10 := HZ3.out.free 10
        by_cases hq : encM q = b
        · have HF := Lib.hid (show decBy refD b = (q, 0) by rw [HDD.out, if_pos ⟨hr, hq⟩])
          have hself : (encM q == b) = true := by simpa using hq
          have hself2 : (encM q != b) = false := by simpa using hq
          clear hq hr HE HDD HRV HR
          generalize encM q = bl at hs1 hself hself2 ⊢
          obtain ⟨y0, y1, y2, y3, y4, y5, y6, y7, y8, y9, y10⟩ := HX3.out.all
          go_wp2
          exact rdec_end (q := q) (W := w3) HZ3.out HB3.out (Nat.le_refl _) HF.out rfl rfl
        · have HF := Lib.hid (show decBy refD b = (zeroM, 2) by rw [HDD.out, if_neg (fun h => hq h.2)])
          have hself : (encM q == b) = false := by simpa using hq
          have hself2 : (encM q != b) = true := by simpa using hq
          clear hq hr HE HDD HRV HR
          generalize encM q = bl at hs1 hself hself2 ⊢
          go_wp2
          exact rdec_end (q := zeroM) (W := w3) HZ3.out HB3.out (Nat.le_refl _) HF.out rfl rfl
    · obtain ⟨p, hp⟩ : ∃ p, p = l5.length - 22 := ⟨_, rfl⟩
      have hm0 : (l5.length : Int) - 22 < ((atD l5 21 1 : Nat) : Int) := by omega
      have hpi : (l5.length : Int) - 22 = (p : Int) := by omega
      obtain ⟨Ac, hcut, hbyc⟩ := cut_by HD10.out.r l5.length c5 22 (22 + p) 22 (22 + (p : Int)) rfl (by omega) (by omega) (by omega) HC5.out
      have hname : nameD l5 = ⟨((l5.drop 22).take p).toArray⟩ := by unfold nameD; congr 3; omega
      have hpl : ((l5.drop 22).take p).length = p := by rw [List.length_take, List.length_drop]; omega
      have hstr := str_run (c5 - 22) hbyc
      rw [show 22 + p - 22 = p by omega] at hcut hstr
      rw [hpl, ← hname] at hstr
      have HNM := Lib.hid hname
      clear hname hbyc hpl
      clear hp
      go_upto_region 19 with fail
      obtain ⟨wz, hwz⟩ : ∃ z, z = w10.setCell ⟨w0.heap.size, 7, none⟩ (.string (nameD l5)) := ⟨_, rfl⟩
      have HDz : Hid (DS w wz w0.heap.size g5 (some ⟨g, o, none⟩) b l5 ⟨x.toNat, (atD b 1 4 : Nat), (atD b 5 4 : Nat), (atD l5 0 4 : Nat), 0, atD l5 4 4, (atD l5 8 1 : Nat), nameD l5, (atD l5 9 6 : Nat), (atD l5 15 6 : Nat), false⟩) := Lib.hid (by rw [hwz]; exact HD10.out.store 7 _ rfl)
      rw [← hwz]
      clear d7 f7 hwz hcut hstr hc21
      have HRV : Hid (refD b = ⟨x.toNat, (atD b 1 4 : Nat), (atD b 5 4 : Nat), (atD l5 0 4 : Nat), 0, atD l5 4 4, (atD l5 8 1 : Nat), nameD l5, (atD l5 9 6 : Nat), (atD l5 15 6 : Nat), false⟩) := Lib.hid (by unfold refD; rw [HRD.out, HX0.out]; simp [HK2.out])
      obtain ⟨q, hq⟩ : ∃ q, q = refD b := ⟨_, rfl⟩
      have HXQ : Hid (MBox wz w0.heap.size q) := Lib.hid (by rw [hq, HRV.out]; exact HDz.out.m)
      have HZ2 := Lib.hid HDz.out.z
      have HY2 : Hid (By wz wz.heap.size (some ⟨g, o, none⟩) b) := Lib.hid (HDz.out.b.more (Nat.le_of_lt HDz.out.m.lt))
      have HB2 := Lib.hid HDz.out.low
      have HE := Lib.hid (fun W => rencode_any q (by rw [hq]; exact refD_addr b) W)
      have HDD : Hid (decBy refD b = if rightM q = true ∧ encM q = b then (q, 0) else (zeroM, 2)) := Lib.hid (by rw [hq]; rfl)
      clear hq
      obtain ⟨k0, k1, k2, k3, k4, k5, k6, k7, k8, k9, k10⟩ := HXQ.out.all
      go_wp2_with fail
      cases hr : rightM q
      · have HR := Lib.hid (show encR q = ([], 1) by simp [encR, hr])
        simp only [HR.out] at HE
        have HF := Lib.hid (show decBy refD b = (zeroM, 2) by rw [HDD.out, if_neg (by rw [hr]; simp)])
        refine (HE.out _).mono ?_
        rintro e w3 ⟨A3, c3, rfl, hby3, _, hB3⟩
        have HB3 := Lib.hid (HB2.out.trans (hB3.mono HB2.out.size))
        have HZ3 := Lib.hid (HZ2.out.later hB3)
        clear k0 k1 k2 k3 k4 k5 k6 k7 k8 k9 k10
        clear hr hB3 hby3
        obtain ⟨z0, z1, z2, z3, z4, z5, z6, z7, z8, z9, z10⟩ := HZ3.out.all
        have f0 := HZ3.out.free 0
        have f1 := HZ3.out.free 1
        have f2 := HZ3.out.free 2
        have f3 := HZ3.out.free 3
        have f4 := HZ3.out.free 4
        have f5 := HZ3.out.free 5
        have f6 := HZ3.out.free 6
        have f7 := HZ3.out.free 7
        have f8 := HZ3.out.free 8
        have f9 := HZ3.out.free 9
        have f10 := HZ3.out.free 10
        go_wp2
        exact rdec_end (q := zeroM) (W := w3) HZ3.out HB3.out (Nat.le_refl _) HF.out rfl rfl
      · have HR := Lib.hid (show encR q = (encM q, 0) by simp [encR, hr])
        simp only [HR.out] at HE
        refine (HE.out _).mono ?_
        rintro e w3 ⟨A3, c3, rfl, hby3, _, hB3⟩
        have HB3 := Lib.hid (HB2.out.trans (hB3.mono HB2.out.size))
        have HZ3 := Lib.hid (HZ2.out.later hB3)
        have HX3 := Lib.hid (HXQ.out.later hB3)
        have hs1 := str_run c3 hby3
        have hs2 := str_run c (HY2.out.later hB3)
        clear k0 k1 k2 k3 k4 k5 k6 k7 k8 k9 k10
        clear hB3 hby3
        obtain ⟨z0, z1, z2, z3, z4, z5, z6, z7, z8, z9, z10⟩ := HZ3.out.all
        have f0 := HZ3.out.free 0
        have f1 := HZ3.out.free 1
        have f2 := HZ3.out.free 2
        have f3 := HZ3.out.free 3
        have f4 := HZ3.out.free 4
        have f5 := HZ3.out.free 5
        have f6 := HZ3.out.free 6
        have f7 := HZ3.out.free 7
        have f8 := HZ3.out.free 8
        have f9 := HZ3.out.free 9
        have f10 := HZ3.out.free 10
        by_cases hq : encM q = b
        · have HF := Lib.hid (show decBy refD b = (q, 0) by rw [HDD.out, if_pos ⟨hr, hq⟩])
          have hself : (encM q == b) = true := by simpa using hq
          have hself2 : (encM q != b) = false := by simpa using hq
          clear hq hr HE HDD HRV HR
          generalize encM q = bl at hs1 hself hself2 ⊢
          obtain ⟨y0, y1, y2, y3, y4, y5, y6, y7, y8, y9, y10⟩ := HX3.out.all
          go_wp2
          exact rdec_end (q := q) (W := w3) HZ3.out HB3.out (Nat.le_refl _) HF.out rfl rfl
        · have HF := Lib.hid (show decBy refD b = (zeroM, 2) by rw [HDD.out, if_neg (fun h => hq h.2)])
          have hself : (encM q == b) = false := by simpa using hq
          have hself2 : (encM q != b) = true := by simpa using hq
          clear hq hr HE HDD HRV HR
          generalize encM q = bl at hs1 hself hself2 ⊢
          go_wp2
          exact rdec_end (q := zeroM) (W := w3) HZ3.out HB3.out (Nat.le_refl _) HF.out rfl rfl

theorem rdecode_any (A : Option Addr) (c : Nat) (b : List UInt8) (w : World) (hb : By w w.heap.size A b) (hbc : b.length ≤ c) (hbl : b.length ≤ 9223372036854775807) :
    Calls Try.prog 15 #[.slice A b.length c] w (GivesM w (decM b)) := by
  by_cases h : b.length < 9 ∨ 100 < b.length
  · exact rdec_out A c b w hbl h
  · rw [decM_ref]
    by_cases h1 : atD b 0 1 = 1
    · exact rdec_1 A c b w hb hbc (by omega) (by omega) h1
    by_cases h3 : atD b 0 1 = 3
    · exact rdec_3 A c b w hb hbc (by omega) (by omega) h3
    by_cases h2 : atD b 0 1 = 2
    · exact rdec_2 A c b w hb hbc (by omega) (by omega) h2
    · exact rdec_0 A c b w hb hbc (by omega) (by omega) ⟨h1, h3, h2⟩
end Go.Proofs.Ytgdkioegadbnmaa
