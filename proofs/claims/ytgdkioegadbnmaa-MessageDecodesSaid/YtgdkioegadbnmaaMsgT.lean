/- lessorref04.Encode. -/
import Derived.Test.YtgdkioegadbnmaaMsgQ
import Derived.Test.YtgdkioegadbnmaaMsgE
import Derived.Deep.RegionHeld3
import Derived.Lib.AppendStr
namespace Go.Proofs.Ytgdkioegadbnmaa
open Go.RowKit Go.Sort

theorem oneI (w : World) (t : TypeId) (c : Int) (h0 : 0 ≤ c) (h1 : c < 256) : By (w.alloc (.cells #[.int .u8 c] t)) (w.heap.size + 1) (some ⟨w.heap.size, 0, none⟩) [UInt8.ofNat c.toNat] := by
  have h := one_byte w t c.toNat (by omega)
  rw [Int.toNat_of_nonneg h0] at h
  exact h
theorem rowI (w0 w : World) (c : Int) (h0 : 0 ≤ c) (h1 : c < 256) (hB : Below w0.heap.size w0 w) : Row w0 (w.alloc (.cells #[.int .u8 c] 5)) (.slice (some ⟨w.heap.size, 0, none⟩) 1 1) [UInt8.ofNat c.toNat] := by
  have e1 : ((UInt8.ofNat c.toNat).toNat : Int) = c := by
    rw [UInt8.toNat_ofNat', Nat.mod_eq_of_lt (by omega)]; omega
  have h := World.ownsRow_lit (base := w0.heap.size) (e := 5) (size := 1) w #[.int .u8 c] 1 hB.size (by unfold maxLen; omega) rfl
  refine ⟨?_, hB.alloc hB.size _⟩
  simp only [bcells, List.map_cons, List.map_nil, bV, e1]
  exact h
theorem wayA {w w2 : World} {o : Obj} (h : Below (w.alloc o).drew.heap.size (w.alloc o).drew w2) : Below w.heap.size w w2 :=
  ⟨h.os, h.tape, h.output, Nat.le_trans (by show w.heap.size ≤ (w.alloc o).heap.size; simp) h.size, fun k hk => (h.block k (by show k < (w.alloc o).heap.size; simp; omega)).trans (Below.heap_alloc w o k hk)⟩
theorem wayB {w w2 : World} (h : Below w.drew.heap.size w.drew w2) : Below w.heap.size w w2 := ⟨h.os, h.tape, h.output, h.size, h.block⟩
theorem rowA {w w2 : World} {c : Int} (h0 : 0 ≤ c) (h1 : c < 256) (h : Below (w.alloc (.cells #[.int .u8 c] 5)).drew.heap.size (w.alloc (.cells #[.int .u8 c] 5)).drew w2) : Row w w2 (.slice (some ⟨w.heap.size, 0, none⟩) 1 1) [UInt8.ofNat c.toNat] :=
  (rowI w w c h0 h1 (Below.refl _ w)).drew.later h
theorem step_row {w0 w : World} {ops : Array Oper} {o : Oper} {a : Act} {K : Act → World → Prop} {Q : Exit → Act → World → Prop} {E : Prop} (hgd : o.guard = none) (s x : Operand)
    (ho : o.op = .call { callee := .builtin .append, args := #[s, x], argTypes := #[27, 27] }) {v : Value} {l : List UInt8} (hs : a.eval s = v) (h : Row w0 w v l)
    {B : Nat} {A : Option Addr} (l2 : List UInt8) {m c : Nat} (hm : l2.length = m) (hx : a.eval x = .slice A m c) (hr : By w B A l2) (hsz : l.length + l2.length ≤ 140737488355328)
    (hk : ∀ A' c' w', Row w0 w' (.slice A' (l ++ l2).length c') (l ++ l2) → w.grownBy w' v.ownBlock → K (a.put o.dst (.slice A' (l ++ l2).length c')) w') :
    if Region.wanted o (yielded ops a.tmps) = true then Oper.wp Try.prog o a w K Q else E := by
  subst hm
  refine step_appB hgd s x ho w0.heap.size v l.length (bcells l) hs h.own B A l2 c hx hr hsz h.low.size fun v' w' h1 h2 _ => ?_
  have h3 : Row w0 w' v' (l ++ l2) := h.grows (by rw [List.length_append, bcells_append]; exact h1) h2
  obtain ⟨A', c', rfl, _, _⟩ := h3.form
  exact hk A' c' w' h3 h2
/-- Bytes in a block that is newer than a row stay where the row grows. -/
theorem By.newer {w w' : World} {v : Value} {l2 : List UInt8} {A : Option Addr} {b n : Nat} (h : By w n A l2) (hA : A = some ⟨b, 0, none⟩) (hn : n ≤ w.heap.size) (hv : ∀ k, v.ownBlock = some k → k ≠ b) (hg : w.grownBy w' v.ownBlock) : By w' n A l2 := by
  refine ⟨fun i x hx => ?_⟩
  obtain ⟨b', o, e, hb, hc⟩ := h.at_ i x hx
  rw [hA] at e
  injection e with e
  injection e with e1 e2
  subst e1 e2
  exact ⟨b, 0, hA, hb, (World.cell?_of_block (hg.block b (by omega) (fun e => hv b e.symm rfl))).trans hc⟩
theorem Row.lt {w0 w : World} {v : Value} {l : List UInt8} (h : Row w0 w v l) : ∀ k, v.ownBlock = some k → k < w.heap.size := fun k hk => (h.own.lt k hk).2

theorem newA (w w2 : World) (c : Int) (h0 : 0 ≤ c) (h1 : c < 256) (h : Below (w.alloc (.cells #[.int .u8 c] 5)).drew.heap.size (w.alloc (.cells #[.int .u8 c] 5)).drew w2) : By w2 (w.heap.size + 1) (some ⟨w.heap.size, 0, none⟩) [UInt8.ofNat c.toNat] ∧ w.heap.size + 1 ≤ w2.heap.size ∧ Below w.heap.size w w2 := by
  have hs : w.heap.size + 1 ≤ w2.heap.size := by have := h.size; have e : (w.alloc (.cells #[.int .u8 c] 5)).drew.heap.size = w.heap.size + 1 := by show (w.alloc _).heap.size = _; simp
                                                 omega
  refine ⟨?_, hs, wayA h⟩
  have hb : Below (w.heap.size + 1) (w.alloc (.cells #[.int .u8 c] 5)).drew w2 := h.mono (by show _ ≤ (w.alloc _).heap.size; simp)
  exact ((oneI w 5 c h0 h1).drew).below hb
theorem newC {w0 w w2 w3 : World} {v : Value} {l l2 : List UInt8} (hR : Row w0 w v l) (hg : w2.grownBy w3 v.ownBlock) (h : By w2 (w.heap.size + 1) (some ⟨w.heap.size, 0, none⟩) l2 ∧ w.heap.size + 1 ≤ w2.heap.size ∧ Below w.heap.size w w2) : By w3 (w.heap.size + 1) (some ⟨w.heap.size, 0, none⟩) l2 :=
  h.1.newer rfl h.2.1 (fun k hk => by have := hR.lt k hk; omega) hg
theorem newB {w0 w w3 : World} {v : Value} {l : List UInt8} {c : Int} (hR : Row w0 w v l) (h0 : 0 ≤ c) (h1 : c < 256) (hg : (w.alloc (.cells #[.int .u8 c] 5)).grownBy w3 v.ownBlock) : By w3 (w.heap.size + 1) (some ⟨w.heap.size, 0, none⟩) [UInt8.ofNat c.toNat] :=
  (oneI w 5 c h0 h1).newer rfl (by simp) (fun k hk => by have := hR.lt k hk; omega) hg
theorem oneN (w : World) (t : TypeId) (c : Nat) (h1 : c < 256) : By (w.alloc (.cells #[.int .u8 (c : Int)] t)) (w.heap.size + 1) (some ⟨w.heap.size, 0, none⟩) [UInt8.ofNat c] := one_byte w t c h1

theorem wpList_rowV {w0 w : World} {ops : Array Oper} {rest : List Oper} {o : Oper} {a : Act} {Q : Exit → Act → World → Prop} (hgd : o.guard = none) (s x : Operand)
    (ho : o.op = .call { callee := .builtin .append, args := #[s, x], argTypes := #[27, 27] }) {v : Value} {l : List UInt8} (hs : a.eval s = v) (h : Row w0 w v l)
    {B : Nat} {A : Option Addr} (l2 : List UInt8) {m c : Nat} (hm : l2.length = m) (hx : a.eval x = .slice A m c) (hr : By w B A l2) (n n2 : Nat) (hn : l.length ≤ n) (hn2 : l2.length ≤ n2) (hsz : n + n2 ≤ 100000)
    (hk : ∀ A' c' w' l3, Hid (l3 = l ++ l2) → l3.length ≤ n + n2 → Row w0 w' (.slice A' l3.length c') l3 → l3.length ≤ c' → By w' w'.heap.size A' l3 → wpList Try.prog ops Q rest (a.put o.dst (.slice A' l3.length c')) w') :
    wpList Try.prog ops Q (o :: rest) a w := by
  refine wpList_row hgd s x ho hs h l2 hm hx hr (by omega) fun v' w' h1 _ => ?_
  obtain ⟨A', c', rfl, h2, h3⟩ := h1.form
  exact hk A' c' w' _ (Lib.hid rfl) (by rw [List.length_append]; omega) h1 h2 h3
theorem step_rowV {w0 w : World} {ops : Array Oper} {o : Oper} {a : Act} {K : Act → World → Prop} {Q : Exit → Act → World → Prop} {E : Prop} (hgd : o.guard = none) (s x : Operand)
    (ho : o.op = .call { callee := .builtin .append, args := #[s, x], argTypes := #[27, 27] }) {v : Value} {l : List UInt8} (hs : a.eval s = v) (h : Row w0 w v l)
    {B : Nat} {A : Option Addr} (l2 : List UInt8) {m c : Nat} (hm : l2.length = m) (hx : a.eval x = .slice A m c) (hr : By w B A l2) (n n2 : Nat) (hn : l.length ≤ n) (hn2 : l2.length ≤ n2) (hsz : n + n2 ≤ 100000)
    (hk : ∀ A' c' w' l3, Hid (l3 = l ++ l2) → l3.length ≤ n + n2 → Row w0 w' (.slice A' l3.length c') l3 → l3.length ≤ c' → By w' w'.heap.size A' l3 → w.grownBy w' v.ownBlock → K (a.put o.dst (.slice A' l3.length c')) w') :
    if Region.wanted o (yielded ops a.tmps) = true then Oper.wp Try.prog o a w K Q else E := by
  refine step_row hgd s x ho hs h l2 hm hx hr (by omega) fun A' c' w' h1 h2 => ?_
  obtain ⟨A2, c2, e, h3, h4⟩ := h1.form
  injection e with e1 e2 e3
  subst e1 e3
  exact hk A' c' w' _ (Lib.hid rfl) (by rw [List.length_append]; omega) h1 h3 h4 h2

theorem wpList_rowS {w0 w : World} {ops : Array Oper} {rest : List Oper} {o : Oper} {a : Act} {Q : Exit → Act → World → Prop} (hgd : o.guard = none) (s x : Operand)
    (ho : o.op = .call { callee := .builtin .append, args := #[s, x], argTypes := #[27, 9] }) {v : Value} {l : List UInt8} (hs : a.eval s = v) (h : Row w0 w v l)
    (t : ByteArray) (hx : a.eval x = .string t) (hsz : l.length + t.size ≤ 140737488355328)
    (hk : ∀ A' c' w' l3, Hid (l3 = l ++ t.data.toList) → Row w0 w' (.slice A' l3.length c') l3 → l3.length ≤ c' → By w' w'.heap.size A' l3 → wpList Try.prog ops Q rest (a.put o.dst (.slice A' l3.length c')) w') :
    wpList Try.prog ops Q (o :: rest) a w := by
  obtain ⟨i, hi, hz0, hz1, hz2⟩ := info_parts Try.infoB
  refine wpList_plain hgd fun K hK => ?_
  obtain ⟨v', w', h1, h2, h3, _⟩ := Lib.run_append_own_string (P := Try.prog) w w0.heap.size 27 9 o.type 5 i Try.underlying27 Try.underlying9 hi hz0 hz1 hz2 v l.length (bcells l) h.own t (by unfold maxLen; omega) hsz h.low.size
  have h4 : Row w0 w' v' (l ++ t.data.toList) := h.grows (by rw [List.length_append, bcells_append, len_data]; exact h2) h3
  unfold Oper.wp execOp
  simp only [ho, resolve, invoke, builtin, Sem.run_bind, Sem.run_pure, Result.andThen_ok, List.map_toArray, List.map_cons, List.map_nil, hs, hx, h1]
  obtain ⟨A', c', rfl, h5, h6⟩ := h4.form
  exact hK _ _ (hk A' c' w' _ (Lib.hid rfl) h4 h5 h6)

set_option maxRecDepth 100000 in
set_option maxHeartbeats 2000000 in
theorem rencode_bad (m : MsgV) (w : World) (hr : rightM m = false) :
    Calls Try.prog 11 #[m.v] w (GivesB w [] 1) := by
  have HR := Lib.hid (fun W => rright_any m W)
  rw [hr] at HR
  have hB0 : Below w.heap.size w (w.alloc (mbox m)) := (Below.refl _ _).alloc (Nat.le_refl _) _
  clear hr
  go_enter Try.func11, Try.ntmps11
  go_wp2_with fail
  refine (HR.out _).mono ?_
  rintro e w1 ⟨rfl, hB1⟩
  go_wp2
  go_ret2
  exact ⟨none, 0, rfl, By.nil, Nat.le_refl _, hB0.trans (hB1.mono hB0.size)⟩

set_option maxRecDepth 100000 in
set_option maxHeartbeats 4000000 in
theorem rencode_0 (m : MsgV) (w : World) (hr : rightM m = true) (ha : m.addr < 4294967296) (hk : m.kind ≠ 1 ∧ m.kind ≠ 3 ∧ m.kind ≠ 2) :
    Calls Try.prog 11 #[m.v] w (GivesB w (encM m) 0) := by
  have HR := Lib.hid (fun W => rright_any m W)
  rw [hr] at HR
  obtain ⟨hk5, hl, hs, hKM⟩ := (right_iff m).1 hr
  have hcs := size_small ((right_iff m).1 hr)
  have hx : 0 ≤ m.xid ∧ m.xid ≤ 1073741824 ∧ 0 ≤ m.state ∧ m.state ≤ 8 ∧ 0 ≤ m.bind ∧ m.bind ≤ 5 ∧ 0 ≤ m.pot ∧ m.pot ≤ 1099511627776 ∧ 0 ≤ m.at_ ∧ m.at_ ≤ 1099511627776 := by unfold KM at hKM; omega
  have HF := Lib.hid (show encM m = [UInt8.ofNat m.kind.toNat] ++ beL m.life.toNat 4 ++ beL m.seen.toNat 4 by simp [encM, tailE, hk, be_one])
  have t1 : (m.kind == 1) = false := by simpa using hk.1
  have t3 : (m.kind == 3) = false := by simpa using hk.2.1
  have t2 : (m.kind == 2) = false := by simpa using hk.2.2
  have HN1 : Hid (∀ W, Calls Try.prog 18 #[.int .i64 (m.life.toNat : Int), .int .i64 4] W (GivesV W (beL m.life.toNat 4))) := Lib.hid (fun W => rnum_any m.life.toNat 4 (by omega) (by omega) (by omega) W)
  have HN2 : Hid (∀ W, Calls Try.prog 18 #[.int .i64 (m.seen.toNat : Int), .int .i64 4] W (GivesV W (beL m.seen.toNat 4))) := Lib.hid (fun W => rnum_any m.seen.toNat 4 (by omega) (by omega) (by omega) W)
  have HN3 : Hid (∀ W, Calls Try.prog 18 #[.int .i64 (m.xid.toNat : Int), .int .i64 4] W (GivesV W (beL m.xid.toNat 4))) := Lib.hid (fun W => rnum_any m.xid.toNat 4 (by omega) (by omega) (by omega) W)
  have HN4 : Hid (∀ W, Calls Try.prog 18 #[.int .i64 (m.addr : Int), .int .i64 4] W (GivesV W (beL m.addr 4))) := Lib.hid (fun W => rnum_any m.addr 4 (by omega) (by omega) (by omega) W)
  have HN5 : Hid (∀ W, Calls Try.prog 18 #[.int .i64 (m.pot.toNat : Int), .int .i64 6] W (GivesV W (beL m.pot.toNat 6))) := Lib.hid (fun W => rnum_any m.pot.toNat 6 (by omega) (by omega) (by omega) W)
  have HN6 : Hid (∀ W, Calls Try.prog 18 #[.int .i64 (m.at_.toNat : Int), .int .i64 6] W (GivesV W (beL m.at_.toNat 6))) := Lib.hid (fun W => rnum_any m.at_.toNat 6 (by omega) (by omega) (by omega) W)
  rw [Int.toNat_of_nonneg (by omega)] at HN1 HN2 HN3 HN5 HN6
  have hwk : IntKind.u8.wrap m.kind = m.kind := by simp [IntKind.wrap, IntKind.bits, IntKind.signed]; omega
  have hws : IntKind.u8.wrap m.state = m.state := by simp [IntKind.wrap, IntKind.bits, IntKind.signed]; omega
  have hwb : IntKind.u8.wrap m.bind = m.bind := by simp [IntKind.wrap, IntKind.bits, IntKind.signed]; omega
  have hwc : IntKind.u8.wrap (m.client.size : Int) = m.client.size := by simp [IntKind.wrap, IntKind.bits, IntKind.signed]; omega
  obtain ⟨w0, hw0⟩ : ∃ w0, w0 = w.alloc (mbox m) := ⟨_, rfl⟩
  have HX : Hid (MBox w0 w.heap.size m) := Lib.hid (by rw [hw0]; exact MBox.new w m)
  have HB0 : Hid (Below w.heap.size w w0) := Lib.hid (by rw [hw0]; exact (Below.refl _ _).alloc (Nat.le_refl _) _)
  have HW := Lib.hid hw0
  have HK5 := Lib.hid hk5
  have HXS := Lib.hid hx
  have HCS := Lib.hid hcs
  clear hr hk hk5 hl hs hKM hx hw0 hcs
  go_enter Try.func11, Try.ntmps11
  go_wp2_with fail
  rw [← HW.out]
  refine (HR.out _).mono ?_
  rintro e w1 ⟨rfl, hB1⟩
  have HX1 := Lib.hid (HX.out.later hB1)
  have HB1 := Lib.hid (HB0.out.trans (hB1.mono HB0.out.size))
  clear hB1
  go_upto_region 4 with fail
  go_cut [5] (fun s5 wx => Row w1 wx s5 ([UInt8.ofNat m.kind.toNat] ++ beL m.life.toNat 4))
  case first =>
    have c0 := HX1.out.c0
    have c1 := HX1.out.c1
    clear hws hwb hwc
    go_region_held3 (fun w' => w'.cell? ⟨w.heap.size, 0, none⟩ = some (.int .i64 m.kind) ∧ w'.cell? ⟨w.heap.size, 1, none⟩ = some (.int .i64 m.life))
      (first | go_keep | exact ⟨(HX1.out.later hB2).c0, (HX1.out.later hB2).c1⟩ | exact ⟨(HX1.out.later R2.low).c0, (HX1.out.later R2.low).c1⟩)
      (first
        | (go_at_call 18; (with_reducible refine (HN1.out _).mono ?_); rintro e w2 ⟨A1, k1, rfl, hby1, hBc⟩; have hB2 := (by first | exact wayA hBc | exact wayB hBc : Below w1.heap.size w1 w2))
        | (refine step_row rfl (.tmp 14) (.tmp 17) rfl rfl (rowA (by have := HK5.out; omega) (by have := HK5.out; omega) hBc) (beL m.life.toNat 4) rfl rfl hby1 (by simp [beL_length]) ?_; intro A2 k2 w3 R2 _)
        | (refine step_row rfl (.tmp 14) (.tmp 17) rfl rfl (rowI w1 w2 m.kind (by have := HK5.out; omega) (by have := HK5.out; omega) hB2) (beL m.life.toNat 4) rfl rfl (hby1.later ((Below.refl _ _).alloc (Nat.le_refl _) _)) (by simp [beL_length]) ?_; intro A2 k2 w3 R2 _))
    all_goals
      go_wp2_with fail
      go_meet
      exact R2
  case rest =>
    have R2 := hcut
    obtain ⟨l2, hl2⟩ : ∃ l2, l2 = [UInt8.ofNat m.kind.toNat] ++ beL m.life.toNat 4 := ⟨_, rfl⟩
    rw [← hl2] at R2
    have hl2n : l2.length ≤ 5 := by rw [hl2]; simp [beL_length]
    have HL2 := Lib.hid hl2
    clear hcut hl2
    have c2 := (HX1.out.later R2.low).c2
    go_wp2_with fail
    refine (HN2.out _).mono ?_
    rintro e w5 ⟨A2, k2, rfl, hby2, hB5⟩
    have R3 := R2.later hB5
    clear R2 c2 hB5
    go_wp2_with (at_builtin; refine wpList_rowV rfl (.tmp 19) (.tmp 22) rfl rfl R3 (beL m.seen.toNat 4) rfl rfl hby2 5 4 (by omega) (Nat.le_of_eq (beL_length _ _)) (by omega) ?_; intro A4 k4 w6 l4 HL4 hl4 R4 hk4 hby4; have c0 := (HX1.out.later R4.low).c0)
    have HE : Hid (encM m = l4) := Lib.hid (by rw [HF.out, HL4.out, HL2.out])
    rw [HE.out]
    go_ret2
    exact ⟨A4, k4, rfl, hby4, hk4, HB1.out.trans (R4.low.mono HB1.out.size)⟩

set_option maxRecDepth 100000 in
set_option maxHeartbeats 4000000 in
theorem rencode_1 (m : MsgV) (w : World) (hr : rightM m = true) (ha : m.addr < 4294967296) (hk : m.kind = 1) :
    Calls Try.prog 11 #[m.v] w (GivesB w (encM m) 0) := by
  have HR := Lib.hid (fun W => rright_any m W)
  rw [hr] at HR
  obtain ⟨hk5, hl, hs, hKM⟩ := (right_iff m).1 hr
  have hcs := size_small ((right_iff m).1 hr)
  have hx : 0 ≤ m.xid ∧ m.xid ≤ 1073741824 ∧ 0 ≤ m.state ∧ m.state ≤ 8 ∧ 0 ≤ m.bind ∧ m.bind ≤ 5 ∧ 0 ≤ m.pot ∧ m.pot ≤ 1099511627776 ∧ 0 ≤ m.at_ ∧ m.at_ ≤ 1099511627776 := by unfold KM at hKM; omega
  have HF := Lib.hid (show encM m = [UInt8.ofNat m.kind.toNat] ++ beL m.life.toNat 4 ++ beL m.seen.toNat 4 ++ beL m.xid.toNat 4 ++ [UInt8.ofNat m.state.toNat] by simp [encM, tailE, hk, be_one])
  have t1 : (m.kind == 1) = true := by rw [hk]; decide
  have t3 : (m.kind == 3) = false := by rw [hk]; decide
  have t2 : (m.kind == 2) = false := by rw [hk]; decide
  have HN1 : Hid (∀ W, Calls Try.prog 18 #[.int .i64 (m.life.toNat : Int), .int .i64 4] W (GivesV W (beL m.life.toNat 4))) := Lib.hid (fun W => rnum_any m.life.toNat 4 (by omega) (by omega) (by omega) W)
  have HN2 : Hid (∀ W, Calls Try.prog 18 #[.int .i64 (m.seen.toNat : Int), .int .i64 4] W (GivesV W (beL m.seen.toNat 4))) := Lib.hid (fun W => rnum_any m.seen.toNat 4 (by omega) (by omega) (by omega) W)
  have HN3 : Hid (∀ W, Calls Try.prog 18 #[.int .i64 (m.xid.toNat : Int), .int .i64 4] W (GivesV W (beL m.xid.toNat 4))) := Lib.hid (fun W => rnum_any m.xid.toNat 4 (by omega) (by omega) (by omega) W)
  have HN4 : Hid (∀ W, Calls Try.prog 18 #[.int .i64 (m.addr : Int), .int .i64 4] W (GivesV W (beL m.addr 4))) := Lib.hid (fun W => rnum_any m.addr 4 (by omega) (by omega) (by omega) W)
  have HN5 : Hid (∀ W, Calls Try.prog 18 #[.int .i64 (m.pot.toNat : Int), .int .i64 6] W (GivesV W (beL m.pot.toNat 6))) := Lib.hid (fun W => rnum_any m.pot.toNat 6 (by omega) (by omega) (by omega) W)
  have HN6 : Hid (∀ W, Calls Try.prog 18 #[.int .i64 (m.at_.toNat : Int), .int .i64 6] W (GivesV W (beL m.at_.toNat 6))) := Lib.hid (fun W => rnum_any m.at_.toNat 6 (by omega) (by omega) (by omega) W)
  rw [Int.toNat_of_nonneg (by omega)] at HN1 HN2 HN3 HN5 HN6
  have hwk : IntKind.u8.wrap m.kind = m.kind := by simp [IntKind.wrap, IntKind.bits, IntKind.signed]; omega
  have hws : IntKind.u8.wrap m.state = m.state := by simp [IntKind.wrap, IntKind.bits, IntKind.signed]; omega
  have hwb : IntKind.u8.wrap m.bind = m.bind := by simp [IntKind.wrap, IntKind.bits, IntKind.signed]; omega
  have hwc : IntKind.u8.wrap (m.client.size : Int) = m.client.size := by simp [IntKind.wrap, IntKind.bits, IntKind.signed]; omega
  obtain ⟨w0, hw0⟩ : ∃ w0, w0 = w.alloc (mbox m) := ⟨_, rfl⟩
  have HX : Hid (MBox w0 w.heap.size m) := Lib.hid (by rw [hw0]; exact MBox.new w m)
  have HB0 : Hid (Below w.heap.size w w0) := Lib.hid (by rw [hw0]; exact (Below.refl _ _).alloc (Nat.le_refl _) _)
  have HW := Lib.hid hw0
  have HK5 := Lib.hid hk5
  have HXS := Lib.hid hx
  have HCS := Lib.hid hcs
  clear hr hk hk5 hl hs hKM hx hw0 hcs
  go_enter Try.func11, Try.ntmps11
  go_wp2_with fail
  rw [← HW.out]
  refine (HR.out _).mono ?_
  rintro e w1 ⟨rfl, hB1⟩
  have HX1 := Lib.hid (HX.out.later hB1)
  have HB1 := Lib.hid (HB0.out.trans (hB1.mono HB0.out.size))
  clear hB1
  go_upto_region 4 with fail
  go_cut [5] (fun s5 wx => Row w1 wx s5 ([UInt8.ofNat m.kind.toNat] ++ beL m.life.toNat 4))
  case first =>
    have c0 := HX1.out.c0
    have c1 := HX1.out.c1
    clear hws hwb hwc
    go_region_held3 (fun w' => w'.cell? ⟨w.heap.size, 0, none⟩ = some (.int .i64 m.kind) ∧ w'.cell? ⟨w.heap.size, 1, none⟩ = some (.int .i64 m.life))
      (first | go_keep | exact ⟨(HX1.out.later hB2).c0, (HX1.out.later hB2).c1⟩ | exact ⟨(HX1.out.later R2.low).c0, (HX1.out.later R2.low).c1⟩)
      (first
        | (go_at_call 18; (with_reducible refine (HN1.out _).mono ?_); rintro e w2 ⟨A1, k1, rfl, hby1, hBc⟩; have hB2 := (by first | exact wayA hBc | exact wayB hBc : Below w1.heap.size w1 w2))
        | (refine step_row rfl (.tmp 14) (.tmp 17) rfl rfl (rowA (by have := HK5.out; omega) (by have := HK5.out; omega) hBc) (beL m.life.toNat 4) rfl rfl hby1 (by simp [beL_length]) ?_; intro A2 k2 w3 R2 _)
        | (refine step_row rfl (.tmp 14) (.tmp 17) rfl rfl (rowI w1 w2 m.kind (by have := HK5.out; omega) (by have := HK5.out; omega) hB2) (beL m.life.toNat 4) rfl rfl (hby1.later ((Below.refl _ _).alloc (Nat.le_refl _) _)) (by simp [beL_length]) ?_; intro A2 k2 w3 R2 _))
    all_goals
      go_wp2_with fail
      go_meet
      exact R2
  case rest =>
    have R2 := hcut
    obtain ⟨l2, hl2⟩ : ∃ l2, l2 = [UInt8.ofNat m.kind.toNat] ++ beL m.life.toNat 4 := ⟨_, rfl⟩
    rw [← hl2] at R2
    have hl2n : l2.length ≤ 5 := by rw [hl2]; simp [beL_length]
    have HL2 := Lib.hid hl2
    clear hcut hl2
    have c2 := (HX1.out.later R2.low).c2
    go_wp2_with fail
    refine (HN2.out _).mono ?_
    rintro e w5 ⟨A2, k2, rfl, hby2, hB5⟩
    have R3 := R2.later hB5
    clear R2 c2 hB5
    go_wp2_with (at_builtin; refine wpList_rowV rfl (.tmp 19) (.tmp 22) rfl rfl R3 (beL m.seen.toNat 4) rfl rfl hby2 5 4 (by omega) (Nat.le_of_eq (beL_length _ _)) (by omega) ?_; intro A4 k4 w6 l4 HL4 hl4 R4 hk4 hby4; have c0 := (HX1.out.later R4.low).c0; have c3 := (HX1.out.later R4.low).c3; have c4 := (HX1.out.later R4.low).c4)
    clear hk4 hby4 c0 hby2 R3 hl2n hwk hwb hwc
    have hst0 := HXS.out.2.2.1
    have hst1 : m.state < 256 := by have := HXS.out; omega
    go_region_held3 (fun w' => w'.cell? ⟨w.heap.size, 3, none⟩ = some (.int .i64 m.xid) ∧ w'.cell? ⟨w.heap.size, 4, none⟩ = some (.int .i64 m.state))
      (first | go_keep | exact ⟨(HX1.out.later R7.low).c3, (HX1.out.later R7.low).c4⟩ | exact ⟨(HX1.out.later R6.low).c3, (HX1.out.later R6.low).c4⟩ | exact ⟨(HX1.out.later R5.low).c3, (HX1.out.later R5.low).c4⟩)
      (first
        | (go_at_call 18; (with_reducible refine (HN3.out _).mono ?_); rintro e w7 ⟨A5, k5, rfl, hby5, hBc⟩; have hB7 := (by first | exact wayA hBc | exact wayB hBc : Below w6.heap.size w6 w7); have R5 := R4.later hB7; have hx7 := newA w6 w7 m.state hst0 hst1)
        | (refine step_rowV rfl (.tmp 28) (.tmp 31) rfl rfl R5 (beL m.xid.toNat 4) rfl rfl hby5 9 4 hl4 (Nat.le_of_eq (beL_length _ _)) (by omega) ?_; intro A6 k6 w8 l6 HL6 hl6 R6 _ _ hg6; have hx8 := fun h => newC (l2 := [UInt8.ofNat m.state.toNat]) R4 hg6 h)
        | (refine step_rowV rfl (.tmp 28) (.tmp 31) rfl rfl (R5.alloc _) (beL m.xid.toNat 4) rfl rfl (hby5.later ((Below.refl _ _).alloc (Nat.le_refl _) _)) 9 4 hl4 (Nat.le_of_eq (beL_length _ _)) (by omega) ?_; intro A6 k6 w8 l6 HL6 hl6 R6 _ _ hg6; have hx8 := newB R5 hst0 hst1 hg6)
        | (refine step_rowV rfl (.tmp 32) (.tmp 36) rfl rfl R6 [UInt8.ofNat m.state.toNat] rfl rfl (hx8 (hx7 hBc)) 13 1 hl6 (Nat.le_refl _) (by omega) ?_; intro A7 k7 w9 l7 HL7 hl7 R7 hk7 hby7 _)
        | (refine step_rowV rfl (.tmp 32) (.tmp 36) rfl rfl R6 [UInt8.ofNat m.state.toNat] rfl rfl hx8 13 1 hl6 (Nat.le_refl _) (by omega) ?_; intro A7 k7 w9 l7 HL7 hl7 R7 hk7 hby7 _)
        | (refine step_rowV rfl (.tmp 32) (.tmp 36) rfl rfl (R6.alloc _) [UInt8.ofNat m.state.toNat] rfl rfl (oneI w8 _ m.state hst0 hst1) 13 1 hl6 (Nat.le_refl _) (by omega) ?_; intro A7 k7 w9 l7 HL7 hl7 R7 hk7 hby7 _))
    all_goals
      have HE : Hid (encM m = l7) := Lib.hid (by rw [HF.out, HL7.out, HL6.out, HL4.out, HL2.out])
      go_wp2
      go_ret2
      rw [HE.out]
      exact ⟨A7, k7, rfl, hby7, hk7, HB1.out.trans (R7.low.mono HB1.out.size)⟩

set_option maxRecDepth 100000 in
set_option maxHeartbeats 4000000 in
theorem rencode_3t (m : MsgV) (w : World) (hr : rightM m = true) (ha : m.addr < 4294967296) (hk : m.kind = 3) (hok : m.ok = true) :
    Calls Try.prog 11 #[m.v] w (GivesB w (encM m) 0) := by
  have HR := Lib.hid (fun W => rright_any m W)
  rw [hr] at HR
  obtain ⟨hk5, hl, hs, hKM⟩ := (right_iff m).1 hr
  have hcs := size_small ((right_iff m).1 hr)
  have hx : 0 ≤ m.xid ∧ m.xid ≤ 1073741824 ∧ 0 ≤ m.state ∧ m.state ≤ 8 ∧ 0 ≤ m.bind ∧ m.bind ≤ 5 ∧ 0 ≤ m.pot ∧ m.pot ≤ 1099511627776 ∧ 0 ≤ m.at_ ∧ m.at_ ≤ 1099511627776 := by unfold KM at hKM; omega
  have HF := Lib.hid (show encM m = [UInt8.ofNat m.kind.toNat] ++ beL m.life.toNat 4 ++ beL m.seen.toNat 4 ++ beL m.xid.toNat 4 ++ [UInt8.ofNat (bitI m.ok).toNat] by simp [encM, tailE, hk, be_one])
  rw [hok] at HF
  have HOK := Lib.hid hok
  clear hok
  have t1 : (m.kind == 1) = false := by rw [hk]; decide
  have t3 : (m.kind == 3) = true := by rw [hk]; decide
  have t2 : (m.kind == 2) = false := by rw [hk]; decide
  have HN1 : Hid (∀ W, Calls Try.prog 18 #[.int .i64 (m.life.toNat : Int), .int .i64 4] W (GivesV W (beL m.life.toNat 4))) := Lib.hid (fun W => rnum_any m.life.toNat 4 (by omega) (by omega) (by omega) W)
  have HN2 : Hid (∀ W, Calls Try.prog 18 #[.int .i64 (m.seen.toNat : Int), .int .i64 4] W (GivesV W (beL m.seen.toNat 4))) := Lib.hid (fun W => rnum_any m.seen.toNat 4 (by omega) (by omega) (by omega) W)
  have HN3 : Hid (∀ W, Calls Try.prog 18 #[.int .i64 (m.xid.toNat : Int), .int .i64 4] W (GivesV W (beL m.xid.toNat 4))) := Lib.hid (fun W => rnum_any m.xid.toNat 4 (by omega) (by omega) (by omega) W)
  have HN4 : Hid (∀ W, Calls Try.prog 18 #[.int .i64 (m.addr : Int), .int .i64 4] W (GivesV W (beL m.addr 4))) := Lib.hid (fun W => rnum_any m.addr 4 (by omega) (by omega) (by omega) W)
  have HN5 : Hid (∀ W, Calls Try.prog 18 #[.int .i64 (m.pot.toNat : Int), .int .i64 6] W (GivesV W (beL m.pot.toNat 6))) := Lib.hid (fun W => rnum_any m.pot.toNat 6 (by omega) (by omega) (by omega) W)
  have HN6 : Hid (∀ W, Calls Try.prog 18 #[.int .i64 (m.at_.toNat : Int), .int .i64 6] W (GivesV W (beL m.at_.toNat 6))) := Lib.hid (fun W => rnum_any m.at_.toNat 6 (by omega) (by omega) (by omega) W)
  rw [Int.toNat_of_nonneg (by omega)] at HN1 HN2 HN3 HN5 HN6
  have hwk : IntKind.u8.wrap m.kind = m.kind := by simp [IntKind.wrap, IntKind.bits, IntKind.signed]; omega
  have hws : IntKind.u8.wrap m.state = m.state := by simp [IntKind.wrap, IntKind.bits, IntKind.signed]; omega
  have hwb : IntKind.u8.wrap m.bind = m.bind := by simp [IntKind.wrap, IntKind.bits, IntKind.signed]; omega
  have hwc : IntKind.u8.wrap (m.client.size : Int) = m.client.size := by simp [IntKind.wrap, IntKind.bits, IntKind.signed]; omega
  obtain ⟨w0, hw0⟩ : ∃ w0, w0 = w.alloc (mbox m) := ⟨_, rfl⟩
  have HX : Hid (MBox w0 w.heap.size m) := Lib.hid (by rw [hw0]; exact MBox.new w m)
  have HB0 : Hid (Below w.heap.size w w0) := Lib.hid (by rw [hw0]; exact (Below.refl _ _).alloc (Nat.le_refl _) _)
  have HW := Lib.hid hw0
  have HK5 := Lib.hid hk5
  have HXS := Lib.hid hx
  have HCS := Lib.hid hcs
  clear hr hk hk5 hl hs hKM hx hw0 hcs
  go_enter Try.func11, Try.ntmps11
  go_wp2_with fail
  rw [← HW.out]
  refine (HR.out _).mono ?_
  rintro e w1 ⟨rfl, hB1⟩
  have HX1 := Lib.hid (HX.out.later hB1)
  have HB1 := Lib.hid (HB0.out.trans (hB1.mono HB0.out.size))
  clear hB1
  go_upto_region 4 with fail
  go_cut [5] (fun s5 wx => Row w1 wx s5 ([UInt8.ofNat m.kind.toNat] ++ beL m.life.toNat 4))
  case first =>
    have c0 := HX1.out.c0
    have c1 := HX1.out.c1
    clear hws hwb hwc
    go_region_held3 (fun w' => w'.cell? ⟨w.heap.size, 0, none⟩ = some (.int .i64 m.kind) ∧ w'.cell? ⟨w.heap.size, 1, none⟩ = some (.int .i64 m.life))
      (first | go_keep | exact ⟨(HX1.out.later hB2).c0, (HX1.out.later hB2).c1⟩ | exact ⟨(HX1.out.later R2.low).c0, (HX1.out.later R2.low).c1⟩)
      (first
        | (go_at_call 18; (with_reducible refine (HN1.out _).mono ?_); rintro e w2 ⟨A1, k1, rfl, hby1, hBc⟩; have hB2 := (by first | exact wayA hBc | exact wayB hBc : Below w1.heap.size w1 w2))
        | (refine step_row rfl (.tmp 14) (.tmp 17) rfl rfl (rowA (by have := HK5.out; omega) (by have := HK5.out; omega) hBc) (beL m.life.toNat 4) rfl rfl hby1 (by simp [beL_length]) ?_; intro A2 k2 w3 R2 _)
        | (refine step_row rfl (.tmp 14) (.tmp 17) rfl rfl (rowI w1 w2 m.kind (by have := HK5.out; omega) (by have := HK5.out; omega) hB2) (beL m.life.toNat 4) rfl rfl (hby1.later ((Below.refl _ _).alloc (Nat.le_refl _) _)) (by simp [beL_length]) ?_; intro A2 k2 w3 R2 _))
    all_goals
      go_wp2_with fail
      go_meet
      exact R2
  case rest =>
    have R2 := hcut
    obtain ⟨l2, hl2⟩ : ∃ l2, l2 = [UInt8.ofNat m.kind.toNat] ++ beL m.life.toNat 4 := ⟨_, rfl⟩
    rw [← hl2] at R2
    have hl2n : l2.length ≤ 5 := by rw [hl2]; simp [beL_length]
    have HL2 := Lib.hid hl2
    clear hcut hl2
    have c2 := (HX1.out.later R2.low).c2
    go_wp2_with fail
    refine (HN2.out _).mono ?_
    rintro e w5 ⟨A2, k2, rfl, hby2, hB5⟩
    have R3 := R2.later hB5
    clear R2 c2 hB5
    go_wp2_with (at_builtin; refine wpList_rowV rfl (.tmp 19) (.tmp 22) rfl rfl R3 (beL m.seen.toNat 4) rfl rfl hby2 5 4 (by omega) (Nat.le_of_eq (beL_length _ _)) (by omega) ?_; intro A4 k4 w6 l4 HL4 hl4 R4 hk4 hby4; have c0 := (HX1.out.later R4.low).c0; have c3 := (HX1.out.later R4.low).c3; have c10 := (HX1.out.later R4.low).c10; rw [HOK.out] at c10)
    clear hk4 hby4 c0 c3 c10 hby2 R3 hl2n hwk hwb hwc hws
    refine (HN3.out _).mono ?_
    rintro e w7 ⟨A5, k5, rfl, hby5, hB7⟩
    have R5 := R4.later hB7
    clear R4 hB7
    go_wp2_with (first
      | (at_builtin; refine wpList_rowV rfl (.tmp 42) (.tmp 45) rfl rfl R5 (beL m.xid.toNat 4) rfl rfl hby5 9 4 hl4 (Nat.le_of_eq (beL_length _ _)) (by omega) ?_; intro A6 k6 w8 l6 HL6 hl6 R6 _ _)
      | (at_builtin; refine wpList_rowV rfl (.tmp 46) (.tmp 48) rfl rfl (R6.alloc _) [UInt8.ofNat (bitI true).toNat] rfl rfl (oneI w8 _ (bitI true) (by decide) (by decide)) 13 1 hl6 (Nat.le_refl _) (by omega) ?_; intro A7 k7 w9 l7 HL7 hl7 R7 hk7 hby7))
    have HE : Hid (encM m = l7) := Lib.hid (by rw [HF.out, HL7.out, HL6.out, HL4.out, HL2.out])
    rw [HE.out]
    go_ret2
    exact ⟨A7, k7, rfl, hby7, hk7, HB1.out.trans (R7.low.mono HB1.out.size)⟩

set_option maxRecDepth 100000 in
set_option maxHeartbeats 4000000 in
theorem rencode_3f (m : MsgV) (w : World) (hr : rightM m = true) (ha : m.addr < 4294967296) (hk : m.kind = 3) (hok : m.ok = false) :
    Calls Try.prog 11 #[m.v] w (GivesB w (encM m) 0) := by
  have HR := Lib.hid (fun W => rright_any m W)
  rw [hr] at HR
  obtain ⟨hk5, hl, hs, hKM⟩ := (right_iff m).1 hr
  have hcs := size_small ((right_iff m).1 hr)
  have hx : 0 ≤ m.xid ∧ m.xid ≤ 1073741824 ∧ 0 ≤ m.state ∧ m.state ≤ 8 ∧ 0 ≤ m.bind ∧ m.bind ≤ 5 ∧ 0 ≤ m.pot ∧ m.pot ≤ 1099511627776 ∧ 0 ≤ m.at_ ∧ m.at_ ≤ 1099511627776 := by unfold KM at hKM; omega
  have HF := Lib.hid (show encM m = [UInt8.ofNat m.kind.toNat] ++ beL m.life.toNat 4 ++ beL m.seen.toNat 4 ++ beL m.xid.toNat 4 ++ [UInt8.ofNat (bitI m.ok).toNat] by simp [encM, tailE, hk, be_one])
  rw [hok] at HF
  have HOK := Lib.hid hok
  clear hok
  have t1 : (m.kind == 1) = false := by rw [hk]; decide
  have t3 : (m.kind == 3) = true := by rw [hk]; decide
  have t2 : (m.kind == 2) = false := by rw [hk]; decide
  have HN1 : Hid (∀ W, Calls Try.prog 18 #[.int .i64 (m.life.toNat : Int), .int .i64 4] W (GivesV W (beL m.life.toNat 4))) := Lib.hid (fun W => rnum_any m.life.toNat 4 (by omega) (by omega) (by omega) W)
  have HN2 : Hid (∀ W, Calls Try.prog 18 #[.int .i64 (m.seen.toNat : Int), .int .i64 4] W (GivesV W (beL m.seen.toNat 4))) := Lib.hid (fun W => rnum_any m.seen.toNat 4 (by omega) (by omega) (by omega) W)
  have HN3 : Hid (∀ W, Calls Try.prog 18 #[.int .i64 (m.xid.toNat : Int), .int .i64 4] W (GivesV W (beL m.xid.toNat 4))) := Lib.hid (fun W => rnum_any m.xid.toNat 4 (by omega) (by omega) (by omega) W)
  have HN4 : Hid (∀ W, Calls Try.prog 18 #[.int .i64 (m.addr : Int), .int .i64 4] W (GivesV W (beL m.addr 4))) := Lib.hid (fun W => rnum_any m.addr 4 (by omega) (by omega) (by omega) W)
  have HN5 : Hid (∀ W, Calls Try.prog 18 #[.int .i64 (m.pot.toNat : Int), .int .i64 6] W (GivesV W (beL m.pot.toNat 6))) := Lib.hid (fun W => rnum_any m.pot.toNat 6 (by omega) (by omega) (by omega) W)
  have HN6 : Hid (∀ W, Calls Try.prog 18 #[.int .i64 (m.at_.toNat : Int), .int .i64 6] W (GivesV W (beL m.at_.toNat 6))) := Lib.hid (fun W => rnum_any m.at_.toNat 6 (by omega) (by omega) (by omega) W)
  rw [Int.toNat_of_nonneg (by omega)] at HN1 HN2 HN3 HN5 HN6
  have hwk : IntKind.u8.wrap m.kind = m.kind := by simp [IntKind.wrap, IntKind.bits, IntKind.signed]; omega
  have hws : IntKind.u8.wrap m.state = m.state := by simp [IntKind.wrap, IntKind.bits, IntKind.signed]; omega
  have hwb : IntKind.u8.wrap m.bind = m.bind := by simp [IntKind.wrap, IntKind.bits, IntKind.signed]; omega
  have hwc : IntKind.u8.wrap (m.client.size : Int) = m.client.size := by simp [IntKind.wrap, IntKind.bits, IntKind.signed]; omega
  obtain ⟨w0, hw0⟩ : ∃ w0, w0 = w.alloc (mbox m) := ⟨_, rfl⟩
  have HX : Hid (MBox w0 w.heap.size m) := Lib.hid (by rw [hw0]; exact MBox.new w m)
  have HB0 : Hid (Below w.heap.size w w0) := Lib.hid (by rw [hw0]; exact (Below.refl _ _).alloc (Nat.le_refl _) _)
  have HW := Lib.hid hw0
  have HK5 := Lib.hid hk5
  have HXS := Lib.hid hx
  have HCS := Lib.hid hcs
  clear hr hk hk5 hl hs hKM hx hw0 hcs
  go_enter Try.func11, Try.ntmps11
  go_wp2_with fail
  rw [← HW.out]
  refine (HR.out _).mono ?_
  rintro e w1 ⟨rfl, hB1⟩
  have HX1 := Lib.hid (HX.out.later hB1)
  have HB1 := Lib.hid (HB0.out.trans (hB1.mono HB0.out.size))
  clear hB1
  go_upto_region 4 with fail
  go_cut [5] (fun s5 wx => Row w1 wx s5 ([UInt8.ofNat m.kind.toNat] ++ beL m.life.toNat 4))
  case first =>
    have c0 := HX1.out.c0
    have c1 := HX1.out.c1
    clear hws hwb hwc
    go_region_held3 (fun w' => w'.cell? ⟨w.heap.size, 0, none⟩ = some (.int .i64 m.kind) ∧ w'.cell? ⟨w.heap.size, 1, none⟩ = some (.int .i64 m.life))
      (first | go_keep | exact ⟨(HX1.out.later hB2).c0, (HX1.out.later hB2).c1⟩ | exact ⟨(HX1.out.later R2.low).c0, (HX1.out.later R2.low).c1⟩)
      (first
        | (go_at_call 18; (with_reducible refine (HN1.out _).mono ?_); rintro e w2 ⟨A1, k1, rfl, hby1, hBc⟩; have hB2 := (by first | exact wayA hBc | exact wayB hBc : Below w1.heap.size w1 w2))
        | (refine step_row rfl (.tmp 14) (.tmp 17) rfl rfl (rowA (by have := HK5.out; omega) (by have := HK5.out; omega) hBc) (beL m.life.toNat 4) rfl rfl hby1 (by simp [beL_length]) ?_; intro A2 k2 w3 R2 _)
        | (refine step_row rfl (.tmp 14) (.tmp 17) rfl rfl (rowI w1 w2 m.kind (by have := HK5.out; omega) (by have := HK5.out; omega) hB2) (beL m.life.toNat 4) rfl rfl (hby1.later ((Below.refl _ _).alloc (Nat.le_refl _) _)) (by simp [beL_length]) ?_; intro A2 k2 w3 R2 _))
    all_goals
      go_wp2_with fail
      go_meet
      exact R2
  case rest =>
    have R2 := hcut
    obtain ⟨l2, hl2⟩ : ∃ l2, l2 = [UInt8.ofNat m.kind.toNat] ++ beL m.life.toNat 4 := ⟨_, rfl⟩
    rw [← hl2] at R2
    have hl2n : l2.length ≤ 5 := by rw [hl2]; simp [beL_length]
    have HL2 := Lib.hid hl2
    clear hcut hl2
    have c2 := (HX1.out.later R2.low).c2
    go_wp2_with fail
    refine (HN2.out _).mono ?_
    rintro e w5 ⟨A2, k2, rfl, hby2, hB5⟩
    have R3 := R2.later hB5
    clear R2 c2 hB5
    go_wp2_with (at_builtin; refine wpList_rowV rfl (.tmp 19) (.tmp 22) rfl rfl R3 (beL m.seen.toNat 4) rfl rfl hby2 5 4 (by omega) (Nat.le_of_eq (beL_length _ _)) (by omega) ?_; intro A4 k4 w6 l4 HL4 hl4 R4 hk4 hby4; have c0 := (HX1.out.later R4.low).c0; have c3 := (HX1.out.later R4.low).c3; have c10 := (HX1.out.later R4.low).c10; rw [HOK.out] at c10)
    clear hk4 hby4 c0 c3 c10 hby2 R3 hl2n hwk hwb hwc hws
    refine (HN3.out _).mono ?_
    rintro e w7 ⟨A5, k5, rfl, hby5, hB7⟩
    have R5 := R4.later hB7
    clear R4 hB7
    go_wp2_with (first
      | (at_builtin; refine wpList_rowV rfl (.tmp 42) (.tmp 45) rfl rfl R5 (beL m.xid.toNat 4) rfl rfl hby5 9 4 hl4 (Nat.le_of_eq (beL_length _ _)) (by omega) ?_; intro A6 k6 w8 l6 HL6 hl6 R6 _ _)
      | (at_builtin; refine wpList_rowV rfl (.tmp 46) (.tmp 48) rfl rfl (R6.alloc _) [UInt8.ofNat (bitI false).toNat] rfl rfl (oneI w8 _ (bitI false) (by decide) (by decide)) 13 1 hl6 (Nat.le_refl _) (by omega) ?_; intro A7 k7 w9 l7 HL7 hl7 R7 hk7 hby7))
    have HE : Hid (encM m = l7) := Lib.hid (by rw [HF.out, HL7.out, HL6.out, HL4.out, HL2.out])
    rw [HE.out]
    go_ret2
    exact ⟨A7, k7, rfl, hby7, hk7, HB1.out.trans (R7.low.mono HB1.out.size)⟩

set_option maxRecDepth 100000 in
set_option maxHeartbeats 4000000 in
theorem rencode_2 (m : MsgV) (w : World) (hr : rightM m = true) (ha : m.addr < 4294967296) (hk : m.kind = 2) :
    Calls Try.prog 11 #[m.v] w (GivesB w (encM m) 0) := by
  have HR := Lib.hid (fun W => rright_any m W)
  rw [hr] at HR
  obtain ⟨hk5, hl, hs, hKM⟩ := (right_iff m).1 hr
  have hcs := size_small ((right_iff m).1 hr)
  have hx : 0 ≤ m.xid ∧ m.xid ≤ 1073741824 ∧ 0 ≤ m.state ∧ m.state ≤ 8 ∧ 0 ≤ m.bind ∧ m.bind ≤ 5 ∧ 0 ≤ m.pot ∧ m.pot ≤ 1099511627776 ∧ 0 ≤ m.at_ ∧ m.at_ ≤ 1099511627776 := by unfold KM at hKM; omega
  have HF := Lib.hid (show encM m = [UInt8.ofNat m.kind.toNat] ++ beL m.life.toNat 4 ++ beL m.seen.toNat 4 ++ beL m.xid.toNat 4 ++ beL m.addr 4 ++ [UInt8.ofNat m.bind.toNat] ++ beL m.pot.toNat 6 ++ beL m.at_.toNat 6 ++ [UInt8.ofNat m.client.size] ++ m.client.data.toList by simp [encM, tailE, hk, be_one])
  have t1 : (m.kind == 1) = false := by rw [hk]; decide
  have t3 : (m.kind == 3) = false := by rw [hk]; decide
  have t2 : (m.kind == 2) = true := by rw [hk]; decide
  have HN1 : Hid (∀ W, Calls Try.prog 18 #[.int .i64 (m.life.toNat : Int), .int .i64 4] W (GivesV W (beL m.life.toNat 4))) := Lib.hid (fun W => rnum_any m.life.toNat 4 (by omega) (by omega) (by omega) W)
  have HN2 : Hid (∀ W, Calls Try.prog 18 #[.int .i64 (m.seen.toNat : Int), .int .i64 4] W (GivesV W (beL m.seen.toNat 4))) := Lib.hid (fun W => rnum_any m.seen.toNat 4 (by omega) (by omega) (by omega) W)
  have HN3 : Hid (∀ W, Calls Try.prog 18 #[.int .i64 (m.xid.toNat : Int), .int .i64 4] W (GivesV W (beL m.xid.toNat 4))) := Lib.hid (fun W => rnum_any m.xid.toNat 4 (by omega) (by omega) (by omega) W)
  have HN4 : Hid (∀ W, Calls Try.prog 18 #[.int .i64 (m.addr : Int), .int .i64 4] W (GivesV W (beL m.addr 4))) := Lib.hid (fun W => rnum_any m.addr 4 (by omega) (by omega) (by omega) W)
  have HN5 : Hid (∀ W, Calls Try.prog 18 #[.int .i64 (m.pot.toNat : Int), .int .i64 6] W (GivesV W (beL m.pot.toNat 6))) := Lib.hid (fun W => rnum_any m.pot.toNat 6 (by omega) (by omega) (by omega) W)
  have HN6 : Hid (∀ W, Calls Try.prog 18 #[.int .i64 (m.at_.toNat : Int), .int .i64 6] W (GivesV W (beL m.at_.toNat 6))) := Lib.hid (fun W => rnum_any m.at_.toNat 6 (by omega) (by omega) (by omega) W)
  rw [Int.toNat_of_nonneg (by omega)] at HN1 HN2 HN3 HN5 HN6
  have hwk : IntKind.u8.wrap m.kind = m.kind := by simp [IntKind.wrap, IntKind.bits, IntKind.signed]; omega
  have hws : IntKind.u8.wrap m.state = m.state := by simp [IntKind.wrap, IntKind.bits, IntKind.signed]; omega
  have hwb : IntKind.u8.wrap m.bind = m.bind := by simp [IntKind.wrap, IntKind.bits, IntKind.signed]; omega
  have hwc : IntKind.u8.wrap (m.client.size : Int) = m.client.size := by simp [IntKind.wrap, IntKind.bits, IntKind.signed]; omega
  obtain ⟨w0, hw0⟩ : ∃ w0, w0 = w.alloc (mbox m) := ⟨_, rfl⟩
  have HX : Hid (MBox w0 w.heap.size m) := Lib.hid (by rw [hw0]; exact MBox.new w m)
  have HB0 : Hid (Below w.heap.size w w0) := Lib.hid (by rw [hw0]; exact (Below.refl _ _).alloc (Nat.le_refl _) _)
  have HW := Lib.hid hw0
  have HK5 := Lib.hid hk5
  have HXS := Lib.hid hx
  have HCS := Lib.hid hcs
  clear hr hk hk5 hl hs hKM hx hw0 hcs
  go_enter Try.func11, Try.ntmps11
  go_wp2_with fail
  rw [← HW.out]
  refine (HR.out _).mono ?_
  rintro e w1 ⟨rfl, hB1⟩
  have HX1 := Lib.hid (HX.out.later hB1)
  have HB1 := Lib.hid (HB0.out.trans (hB1.mono HB0.out.size))
  clear hB1
  go_upto_region 4 with fail
  go_cut [5] (fun s5 wx => Row w1 wx s5 ([UInt8.ofNat m.kind.toNat] ++ beL m.life.toNat 4))
  case first =>
    have c0 := HX1.out.c0
    have c1 := HX1.out.c1
    clear hws hwb hwc
    go_region_held3 (fun w' => w'.cell? ⟨w.heap.size, 0, none⟩ = some (.int .i64 m.kind) ∧ w'.cell? ⟨w.heap.size, 1, none⟩ = some (.int .i64 m.life))
      (first | go_keep | exact ⟨(HX1.out.later hB2).c0, (HX1.out.later hB2).c1⟩ | exact ⟨(HX1.out.later R2.low).c0, (HX1.out.later R2.low).c1⟩)
      (first
        | (go_at_call 18; (with_reducible refine (HN1.out _).mono ?_); rintro e w2 ⟨A1, k1, rfl, hby1, hBc⟩; have hB2 := (by first | exact wayA hBc | exact wayB hBc : Below w1.heap.size w1 w2))
        | (refine step_row rfl (.tmp 14) (.tmp 17) rfl rfl (rowA (by have := HK5.out; omega) (by have := HK5.out; omega) hBc) (beL m.life.toNat 4) rfl rfl hby1 (by simp [beL_length]) ?_; intro A2 k2 w3 R2 _)
        | (refine step_row rfl (.tmp 14) (.tmp 17) rfl rfl (rowI w1 w2 m.kind (by have := HK5.out; omega) (by have := HK5.out; omega) hB2) (beL m.life.toNat 4) rfl rfl (hby1.later ((Below.refl _ _).alloc (Nat.le_refl _) _)) (by simp [beL_length]) ?_; intro A2 k2 w3 R2 _))
    all_goals
      go_wp2_with fail
      go_meet
      exact R2
  case rest =>
    have R2 := hcut
    obtain ⟨l2, hl2⟩ : ∃ l2, l2 = [UInt8.ofNat m.kind.toNat] ++ beL m.life.toNat 4 := ⟨_, rfl⟩
    rw [← hl2] at R2
    have hl2n : l2.length ≤ 5 := by rw [hl2]; simp [beL_length]
    have HL2 := Lib.hid hl2
    clear hcut hl2
    have c2 := (HX1.out.later R2.low).c2
    go_wp2_with fail
    refine (HN2.out _).mono ?_
    rintro e w5 ⟨A2, k2, rfl, hby2, hB5⟩
    have R3 := R2.later hB5
    clear R2 c2 hB5
    go_wp2_with (at_builtin; refine wpList_rowV rfl (.tmp 19) (.tmp 22) rfl rfl R3 (beL m.seen.toNat 4) rfl rfl hby2 5 4 (by omega) (Nat.le_of_eq (beL_length _ _)) (by omega) ?_; intro A4 k4 w6 l4 HL4 hl4 R4 hk4 hby4; have c0 := (HX1.out.later R4.low).c0; have c3 := (HX1.out.later R4.low).c3)
    clear hk4 hby4 c0 c3 hby2 R3 hl2n hwk hws
    refine (HN3.out _).mono ?_
    rintro e w7 ⟨A5, k5, rfl, hby5, hB7⟩
    have R5 := R4.later hB7
    clear R4 hB7
    go_wp2_with (at_builtin; refine wpList_rowV rfl (.tmp 52) (.tmp 55) rfl rfl R5 (beL m.xid.toNat 4) rfl rfl hby5 9 4 hl4 (Nat.le_of_eq (beL_length _ _)) (by omega) ?_; intro A6 k6 w8 l6 HL6 hl6 R6 _ _; have c5 := (HX1.out.later R6.low).c5)
    clear hby5 R5
    refine (HN4.out _).mono ?_
    rintro e w9 ⟨A7, k7, rfl, hby7, hB9⟩
    have R7 := R6.later hB9
    clear R6 c5 hB9
    have hb0 := HXS.out.2.2.2.2.1
    have hb1 : m.bind < 256 := by have := HXS.out; omega
    go_wp2_with (first
      | (at_builtin; refine wpList_rowV rfl (.tmp 57) (.tmp 61) rfl rfl R7 (beL m.addr 4) rfl rfl hby7 13 4 hl6 (Nat.le_of_eq (beL_length _ _)) (by omega) ?_; intro A8 k8 w10 l8 HL8 hl8 R8 _ _; have c6 := (HX1.out.later R8.low).c6)
      | (at_builtin; refine wpList_rowV rfl (.tmp 63) (.tmp 67) rfl rfl (R8.alloc _) [UInt8.ofNat m.bind.toNat] rfl rfl (oneI w10 _ m.bind hb0 hb1) 17 1 hl8 (Nat.le_refl _) (by omega) ?_; intro A9 k9 w11 l9 HL9 hl9 R9 _ _; have c8 := (HX1.out.later R9.low).c8))
    clear hby7 R7 R8 c6 c8 hwb hb0 hb1
    refine (HN5.out _).mono ?_
    rintro e w12 ⟨A10, k10, rfl, hby10, hB12⟩
    have R10 := R9.later hB12
    clear R9 hB12
    go_wp2_with (at_builtin; refine wpList_rowV rfl (.tmp 69) (.tmp 72) rfl rfl R10 (beL m.pot.toNat 6) rfl rfl hby10 18 6 hl9 (Nat.le_of_eq (beL_length _ _)) (by omega) ?_; intro A11 k11 w13 l11 HL11 hl11 R11 _ _; have c9 := (HX1.out.later R11.low).c9)
    clear hby10 R10
    refine (HN6.out _).mono ?_
    rintro e w14 ⟨A12, k12, rfl, hby12, hB14⟩
    have R12 := R11.later hB14
    clear R11 c9 hB14
    have hcs := HCS.out
    go_wp2_with (first
      | (at_builtin; refine wpList_rowV rfl (.tmp 74) (.tmp 77) rfl rfl R12 (beL m.at_.toNat 6) rfl rfl hby12 24 6 hl11 (Nat.le_of_eq (beL_length _ _)) (by omega) ?_; intro A13 k13 w15 l13 HL13 hl13 R13 _ _; have c7 := (HX1.out.later R13.low).c7)
      | (at_builtin; refine wpList_rowV rfl (.tmp 79) (.tmp 84) rfl rfl (R13.alloc _) [UInt8.ofNat m.client.size] rfl rfl (oneN w15 _ m.client.size (by omega)) 30 1 hl13 (Nat.le_refl _) (by omega) ?_; intro A14 k14 w16 l14 HL14 hl14 R14 _ _; have d7 := (HX1.out.later R14.low).c7)
      | (at_builtin; refine wpList_rowS rfl (.tmp 86) (.tmp 88) rfl rfl R14 m.client rfl (by omega) ?_; intro A15 k15 w17 l15 HL15 R15 hk15 hby15))
    have HE : Hid (encM m = l15) := Lib.hid (by rw [HF.out, HL15.out, HL14.out, HL13.out, HL11.out, HL9.out, HL8.out, HL6.out, HL4.out, HL2.out])
    rw [HE.out]
    go_ret2
    exact ⟨A15, k15, rfl, hby15, hk15, HB1.out.trans (R15.low.mono HB1.out.size)⟩

theorem rencode_any (m : MsgV) (ha : m.addr < 4294967296) (w : World) :
    Calls Try.prog 11 #[m.v] w (GivesB w (encR m).1 (encR m).2) := by
  cases hr : rightM m
  · rw [show encR m = ([], 1) by simp [encR, hr]]
    exact rencode_bad m w hr
  · rw [show encR m = (encM m, 0) by simp [encR, hr]]
    by_cases h1 : m.kind = 1
    · exact rencode_1 m w hr ha h1
    by_cases h3 : m.kind = 3
    · cases hok : m.ok
      · exact rencode_3f m w hr ha h3 hok
      · exact rencode_3t m w hr ha h3 hok
    by_cases h2 : m.kind = 2
    · exact rencode_2 m w hr ha h2
    · exact rencode_0 m w hr ha ⟨h1, h3, h2⟩
end Go.Proofs.Ytgdkioegadbnmaa
