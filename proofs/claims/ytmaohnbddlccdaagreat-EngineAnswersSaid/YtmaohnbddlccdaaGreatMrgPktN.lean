/- Joined texts: PktN, PktK, PktL, PktP. -/
import Derived.Test.YtmaohnbddlccdaaGreatMrgPktM
import Derived.Test.YtmaohnbddlccdaaGreatMrgOptI

/- packet.number, lessorref03.number, lessorref03.of; rows of bytes that grow. -/
section
namespace Go.Proofs.YtmaohnbddlccdaaGreat.NO
open Go.RowKit

/-- Bytes are answered; nothing that lay has turned. -/
def GivesV (w : World) (l : List UInt8) (e : Ending) (w' : World) : Prop :=
  ∃ A c, e = .returned (.slice A l.length c) ∧ By w' w'.heap.size A l ∧ Below w.heap.size w w'

set_option maxRecDepth 100000 in
set_option maxHeartbeats 1000000 in
theorem of_any (B : Nat) (A : Option Addr) (c : Nat) (l : List UInt8) (w : World) (h : By w B A l) (hl4 : l.length ≤ 4) :
    Calls Tryz.prog 129 #[.slice A l.length c] w fun e w' => e = .returned (.int .i64 ((numL l : Nat) : Int)) ∧ w = w' := by
  go_enter Tryz.func129, Tryz.ntmps129
  go_wp2
  go_loop [3, 4] (fun n i => ∃ k m : Nat, k ≤ l.length ∧ i = .int .i64 k ∧ n = .int .i64 (m : Int) ∧ m = numL (l.take k)) (fun _ i => l.length - (intOf i).toNat)
  case atStart => exact ⟨0, 0, Nat.zero_le _, rfl, rfl, rfl⟩
  case round =>
    obtain ⟨k, m, hk, rfl, rfl, hm⟩ := hrel
    have HM := Lib.hid hm
    have hml : m < 256 ^ k := by rw [hm]; have := numL_lt (l.take k); rwa [List.length_take, Nat.min_eq_left hk] at this
    clear hm
    by_cases hlt : k < l.length
    · obtain ⟨x, hx⟩ : ∃ x, l[k]? = some x := ⟨_, List.getElem?_eq_getElem hlt⟩
      obtain ⟨b, o, rfl, hb, hc⟩ := h.at_ k x hx
      have hml2 : m < 16777216 := Nat.lt_of_lt_of_le hml (Nat.pow_le_pow_right (by omega) (show k ≤ 3 by omega))
      have hxx := x.toNat_lt
      go_wp2
      go_round
      case rel => exact ⟨k + 1, m * 256 + x.toNat, by omega, by go_num, by go_num, by rw [take_snoc_of l k x hx, numL_snoc, ← HM.out]⟩
      case measure => simp [intOf]; omega
    · go_wp2
      go_ret
      rw [HM.out, List.take_of_length_le (by omega)]
      exact ⟨rfl, rfl⟩

/-- The value v reads as the bytes l in a row of its own, made since w0. -/
structure Row (w0 w : World) (v : Value) (l : List UInt8) : Prop where
  own : w.ownsRow w0.heap.size 5 1 v l.length (bcells l)
  low : Below w0.heap.size w0 w
section
variable {w0 w w' : World} {v : Value} {l : List UInt8}
theorem grownBy_of_below {V V' : World} (hb : Below V.heap.size V V') : V.grownBy V' none := ⟨hb.os, hb.tape, hb.output, hb.size, fun i hi _ => hb.block i hi⟩
theorem Row.later (h : Row w0 w v l) (hb : Below w.heap.size w w') : Row w0 w' v l :=
  ⟨h.own.kept (grownBy_of_below hb) (by cases v.ownBlock <;> simp), h.low.trans (hb.mono h.low.size)⟩
theorem Row.alloc (h : Row w0 w v l) (o : Obj) : Row w0 (w.alloc o) v l := h.later ((Below.refl _ _).alloc (Nat.le_refl _) _)
theorem Row.drew (h : Row w0 w v l) : Row w0 w.drew v l := ⟨h.own.drew, h.low.drew⟩
theorem Row.form (h : Row w0 w v l) : ∃ A c, v = .slice A l.length c ∧ l.length ≤ c ∧ By w w.heap.size A l := by
  obtain ⟨A, c, rfl, hc⟩ := own_form h.own
  exact ⟨A, c, rfl, hc, By.of_own h.own⟩
/-- A block of another type is not the row's. -/
theorem Row.apart (h : Row w0 w v l) {g : Nat} {cs : Array Value} {t : TypeId} {fr : Nat × Nat} (hg : w.heap[g]? = some (.cells cs t fr)) (ht : t ≠ 5) : v.ownBlock ≠ some g := by
  rcases h.own.2 with ⟨rfl, _⟩ | ⟨g1, _, _, rfl, _, hh1, _⟩
  · simp [Value.ownBlock]
  · intro e
    simp [Value.ownBlock] at e
    subst e
    rw [hh1] at hg
    injection hg with hg
    injection hg with _ h2
    exact ht h2.symm
theorem Row.grows (h : Row w0 w v l) {v' : Value} {l' : List UInt8} (ho : w'.ownsRow w0.heap.size 5 1 v' l'.length (bcells l')) (hg : w.grownBy w' v.ownBlock) : Row w0 w' v' l' :=
  ⟨ho, own_below h.low h.low.size h.own hg⟩
end

theorem wpList_row {w0 w : World} {ops : Array Oper} {rest : List Oper} {o : Oper} {a : Act} {Q : Exit → Act → World → Prop} (hgd : o.guard = none) (s x : Operand)
    (ho : o.op = .call { callee := .builtin .append, args := #[s, x], argTypes := #[29, 29] }) {v : Value} {l : List UInt8} (hs : a.eval s = v) (h : Row w0 w v l)
    {B : Nat} {A : Option Addr} (l2 : List UInt8) {m c : Nat} (hm : l2.length = m) (hx : a.eval x = .slice A m c) (hr : By w B A l2) (hsz : l.length + l2.length ≤ 140737488355328)
    (hk : ∀ v' w', Row w0 w' v' (l ++ l2) → w.grownBy w' v.ownBlock → wpList Tryz.prog ops Q rest (a.put o.dst v') w') :
    wpList Tryz.prog ops Q (o :: rest) a w := by
  subst hm
  refine wpList_appB hgd s x ho w0.heap.size v l.length (bcells l) hs h.own B A l2 c hx hr hsz h.low.size fun v' w' h1 h2 _ => hk v' w' (h.grows ?_ h2) h2
  rw [List.length_append, bcells_append]
  exact h1

theorem wpList_rowZ {w0 w : World} {ops : Array Oper} {rest : List Oper} {o : Oper} {a : Act} {Q : Exit → Act → World → Prop} (hgd : o.guard = none) (s x : Operand)
    (ho : o.op = .call { callee := .builtin .append, args := #[s, x], argTypes := #[29, 3] }) {v : Value} {l : List UInt8} (hs : a.eval s = v) (h : Row w0 w v l) (hl : 0 < l.length)
    (n : Nat) {N : Int} (hN : N = (n : Int)) (hx : a.eval x = .int .i64 N) (hsz : l.length + n ≤ 1048576)
    (hk : ∀ v' w', Row w0 w' v' (l ++ List.replicate n 0) → w.grownBy w' v.ownBlock → wpList Tryz.prog ops Q rest (a.put o.dst v') w') :
    wpList Tryz.prog ops Q (o :: rest) a w := by
  subst hN
  have hown := h.own
  rcases hown.2 with ⟨_, h0⟩ | ⟨g, cap, cur, rfl, _⟩
  · omega
  refine wpList_plain hgd fun K hK => ?_
  obtain ⟨A', c', w', h1, h2, h3⟩ := run_zeros w w0.heap.size o.type g l.length cap n (bcells l) hown hsz h.low.size
  unfold Oper.wp execOp
  simp only [ho, resolve, invoke, builtin, Sem.run_bind, Sem.run_pure, Result.andThen_ok, List.map_toArray, List.map_cons, List.map_nil, hs, hx, h1]
  refine hK _ _ (hk _ w' (h.grows ?_ h3) h3)
  rw [List.length_append, bcells_append, List.length_replicate]
  exact h2

end Go.Proofs.YtmaohnbddlccdaaGreat.NO
end

/- packet.found, Kind, Client, Asked, and the document's own. -/
section
namespace Go.Proofs.YtmaohnbddlccdaaGreat.NO
open Go.RowKit

/-- The data of the first option with a code. -/
def fd (a : PktA) (code : Int) : List UInt8 := (findL a.opts code).1
def foundN (a : PktA) (code : Int) (m : Nat) : Nat := if (fd a code).length = m then numL (fd a code) else 0
def kindA (a : PktA) : Nat := foundN a 53 1
def clientA (a : PktA) : List UInt8 := if (fd a 61).length < 1 ∨ 32 < (fd a 61).length then a.hw else fd a 61
def askA (a : PktA) : Nat := if (fd a 50).length = 4 then numL (fd a 50) else a.ci
def longA (a : PktA) : Nat := foundN a 51 4

theorem fd_len (p : PktV) (hd : ∀ x ∈ p.L, x.data.length ≤ 1000) (code : Int) : (fd p.abs code).length ≤ 1000 := by
  unfold fd
  show (findL (absL p.L) code).1.length ≤ 1000
  rcases first_cases (absL p.L) code with ⟨_, h2⟩ | ⟨k, y, _, h2, h3, h4⟩
  · rw [find_none _ _ h2]; simp
  · rw [find_at _ _ k y h2 h3 h4]
    have hm := List.mem_of_getElem? h2
    simp only [absL, List.mem_map] at hm
    obtain ⟨x, hx, rfl⟩ := hm
    exact hd x hx
theorem num4_lt (l : List UInt8) (h : l.length = 4) : numL l < 4294967296 := by have := numL_lt l; rw [h] at this; exact this

set_option maxRecDepth 100000 in
set_option maxHeartbeats 1000000 in
theorem found_any (p : PktV) (code : Int) (m : Nat) (hm : sizedB (m : Int) = true) (w : World) (hp : Pk w w.heap.size p) (hL : p.L.length ≤ 1000) (hd : ∀ x ∈ p.L, x.data.length ≤ 1000) :
    Calls Tryz.prog 53 #[p.v, .int .i64 code, .int .i64 (m : Int)] w fun e w' => e = .returned (.tuple #[.int .i64 ((foundN p.abs code m : Nat) : Int), .bool (decide ((fd p.abs code).length = m))]) ∧ Below w.heap.size w w' := by
  have hB0 : Below w.heap.size w (w.alloc (pbox p)) := (Below.refl _ _).alloc (Nat.le_refl _) _
  have HF := Lib.hid (find_any p.opA p.opC p.L code (w.alloc (pbox p)) (hp.boxed (pbox p)).opt (by omega) hd)
  have hfl := fd_len p hd code
  obtain ⟨l, hl⟩ : ∃ l, l = fd p.abs code := ⟨_, rfl⟩
  have hl' : (findL (absL p.L) code).1 = l := hl.symm
  unfold foundN
  rw [← hl] at hfl ⊢
  unfold GivesF at HF
  rw [hl'] at HF
  clear hl hl' hd hp
  by_cases hlen : l.length = m
  · rw [if_pos hlen, decide_eq_true hlen]
    subst hlen
    have hne : ((l.length : Int) != (l.length : Int)) = false := by simp
    have HN := Lib.hid (fun A c W (h : By W W.heap.size A l) => number_any A c l W h hfl)
    have HR := Lib.hid (show numR l = (((numL l : Nat) : Int), 0) by unfold numR; rw [hm]; rfl)
    rw [HR.out] at HN
    clear hm
    go_enter Tryz.func53, Tryz.ntmps53
    go_wp2_with fail
    refine HF.out.mono ?_
    rintro e w1 ⟨A, c, rfl, hby, hB1⟩
    go_wp2_with fail
    refine (HN.out A c w1 hby).mono ?_
    rintro e w' ⟨rfl, rfl⟩
    go_wp2
    go_ret2
    exact ⟨rfl, hB0.trans (hB1.mono hB0.size)⟩
  · have hne : ((l.length : Int) != (m : Int)) = true := by simp; omega
    rw [if_neg hlen, decide_eq_false hlen]
    clear hm hlen
    go_enter Tryz.func53, Tryz.ntmps53
    go_wp2_with fail
    refine HF.out.mono ?_
    rintro e w1 ⟨A, c, rfl, hby, hB1⟩
    go_wp2
    go_ret2
    exact ⟨rfl, hB0.trans (hB1.mono hB0.size)⟩

set_option maxRecDepth 100000 in
set_option maxHeartbeats 1000000 in
theorem kind_any (p : PktV) (w : World) (hp : Pk w w.heap.size p) (hL : p.L.length ≤ 1000) (hd : ∀ x ∈ p.L, x.data.length ≤ 1000) :
    Calls Tryz.prog 17 #[p.v] w fun e w' => e = .returned (.int .i64 ((kindA p.abs : Nat) : Int)) ∧ Below w.heap.size w w' := by
  have hB0 : Below w.heap.size w (w.alloc (pbox p)) := (Below.refl _ _).alloc (Nat.le_refl _) _
  have HF := Lib.hid (found_any p 53 1 (by decide) (w.alloc (pbox p)) (hp.boxed (pbox p)) hL hd)
  clear hp hd
  unfold kindA
  go_enter Tryz.func17, Tryz.ntmps17
  go_wp2_with fail
  refine HF.out.mono ?_
  rintro e w1 ⟨rfl, hB1⟩
  go_wp2
  go_ret
  exact ⟨rfl, hB0.trans (hB1.mono hB0.size)⟩

set_option maxRecDepth 100000 in
set_option maxHeartbeats 1000000 in
theorem client_any (p : PktV) (w : World) (hp : Pk w w.heap.size p) (hL : p.L.length ≤ 1000) (hd : ∀ x ∈ p.L, x.data.length ≤ 1000) :
    Calls Tryz.prog 20 #[p.v] w fun e w' => e = .returned (.string ⟨(clientA p.abs).toArray⟩) ∧ Below w.heap.size w w' := by
  have hB0 : Below w.heap.size w (w.alloc (pbox p)) := (Below.refl _ _).alloc (Nat.le_refl _) _
  have HX := Lib.hid (PBox.new w p)
  have HP := Lib.hid (hp.boxed (pbox p))
  have HF := Lib.hid (find_any p.opA p.opC p.L 61 (w.alloc (pbox p)) (hp.boxed (pbox p)).opt (by omega) hd)
  have hfl := fd_len p hd 61
  obtain ⟨l, hl⟩ : ∃ l, l = fd p.abs 61 := ⟨_, rfl⟩
  have hl' : (findL (absL p.L) 61).1 = l := hl.symm
  unfold clientA
  rw [← hl] at hfl ⊢
  unfold GivesF at HF
  rw [hl'] at HF
  clear hl hl' hd hp
  by_cases h1 : l.length < 1
  · rw [if_pos (.inl h1)]
    have hd1 : decide ((l.length : Int) < 1) = true := by simp; omega
    clear h1
    go_enter Tryz.func20, Tryz.ntmps20
    go_wp2_with fail
    refine HF.out.mono ?_
    rintro e w1 ⟨A, c, rfl, hby, hB1⟩
    have c8 := (HX.out.later hB1).c8
    have hs := str_run p.hwC (HP.out.later hB1).hw
    go_wp2
    go_ret
    exact ⟨rfl, hB0.trans (hB1.mono hB0.size)⟩
  · by_cases h2 : 32 < l.length
    · rw [if_pos (.inr h2)]
      have hd1 : decide ((l.length : Int) < 1) = false := by simp; omega
      go_enter Tryz.func20, Tryz.ntmps20
      go_wp2_with fail
      refine HF.out.mono ?_
      rintro e w1 ⟨A, c, rfl, hby, hB1⟩
      have c8 := (HX.out.later hB1).c8
      have hs := str_run p.hwC (HP.out.later hB1).hw
      go_wp2
      go_ret
      exact ⟨rfl, hB0.trans (hB1.mono hB0.size)⟩
    · rw [if_neg (by omega)]
      have hd1 : decide ((l.length : Int) < 1) = false := by simp; omega
      go_enter Tryz.func20, Tryz.ntmps20
      go_wp2_with fail
      refine HF.out.mono ?_
      rintro e w1 ⟨A, c, rfl, hby, hB1⟩
      have hs := str_run c hby
      go_wp2
      go_ret
      exact ⟨rfl, hB0.trans (hB1.mono hB0.size)⟩

theorem wrap32 (n : Nat) (h : n < 4294967296) : IntKind.u32.wrap (n : Int) = n := by
  simp [IntKind.wrap, IntKind.bits, IntKind.signed]; omega

set_option maxRecDepth 100000 in
set_option maxHeartbeats 1000000 in
theorem asked_any (p : PktV) (w : World) (hp : Pk w w.heap.size p) (hL : p.L.length ≤ 1000) (hd : ∀ x ∈ p.L, x.data.length ≤ 1000) :
    Calls Tryz.prog 70 #[p.v] w fun e w' => e = .returned (.tuple #[.int .u32 ((askA p.abs : Nat) : Int), .int .i64 ((longA p.abs : Nat) : Int)]) ∧ Below w.heap.size w w' := by
  have hB0 : Below w.heap.size w (w.alloc (pbox p)) := (Below.refl _ _).alloc (Nat.le_refl _) _
  have HX := Lib.hid (PBox.new w p)
  have HP := Lib.hid (hp.boxed (pbox p))
  have HF := Lib.hid (found_any p 50 4 (by decide) (w.alloc (pbox p)) (hp.boxed (pbox p)) hL hd)
  have HG := Lib.hid (fun W (h : Pk W W.heap.size p) => found_any p 51 4 (by decide) W h hL hd)
  clear hp hd
  unfold askA longA
  by_cases h4 : (fd p.abs 50).length = 4
  · rw [decide_eq_true h4] at HF
    rw [if_pos h4]
    rw [show foundN p.abs 50 4 = numL (fd p.abs 50) by unfold foundN; rw [if_pos h4]] at HF
    have hlt := num4_lt _ h4
    clear h4
    generalize numL (fd p.abs 50) = n at *
    have hwr := wrap32 n hlt
    go_enter Tryz.func70, Tryz.ntmps70
    go_wp2_with fail
    refine HF.out.mono ?_
    rintro e w1 ⟨rfl, hB1⟩
    obtain ⟨c0, c1, c2, c3, c4, c5, c6, c7, c8, c9⟩ := (HX.out.later hB1).all
    go_wp2_with fail
    refine (HG.out w1 (HP.out.later hB1)).mono ?_
    rintro e w2 ⟨rfl, hB2⟩
    have hB := hB0.trans (hB1.mono hB0.size)
    clear c0 c1 c2 c3 c4 c5 c6 c7 c8 c9
    go_wp2
    go_ret2
    exact ⟨rfl, hB.trans (hB2.mono hB.size)⟩
  · rw [decide_eq_false h4] at HF
    rw [if_neg h4]
    clear h4
    go_enter Tryz.func70, Tryz.ntmps70
    go_wp2_with fail
    refine HF.out.mono ?_
    rintro e w1 ⟨rfl, hB1⟩
    obtain ⟨c0, c1, c2, c3, c4, c5, c6, c7, c8, c9⟩ := (HX.out.later hB1).all
    go_wp2_with fail
    refine (HG.out w1 (HP.out.later hB1)).mono ?_
    rintro e w2 ⟨rfl, hB2⟩
    have hB := hB0.trans (hB1.mono hB0.size)
    clear c0 c1 c2 c3 c4 c5 c6 c7 c8 c9
    go_wp2
    go_ret2
    exact ⟨rfl, hB.trans (hB2.mono hB.size)⟩
end Go.Proofs.YtmaohnbddlccdaaGreat.NO
end

/- lessorref03.Kind, Client, Asked. -/
section
namespace Go.Proofs.YtmaohnbddlccdaaGreat.NO
open Go.RowKit

set_option maxRecDepth 100000 in
set_option maxHeartbeats 1000000 in
theorem rkind_any (p : PktV) (w : World) (hp : Pk w w.heap.size p) (hL : p.L.length ≤ 1000) (hd : ∀ x ∈ p.L, x.data.length ≤ 1000) :
    Calls Tryz.prog 44 #[p.v] w fun e w' => e = .returned (.int .i64 ((kindA p.abs : Nat) : Int)) ∧ Below w.heap.size w w' := by
  have hB0 : Below w.heap.size w (w.alloc (pbox p)) := (Below.refl _ _).alloc (Nat.le_refl _) _
  have HF := Lib.hid (rfind_any p.opA p.opC p.L 53 (w.alloc (pbox p)) (hp.boxed (pbox p)).opt (by omega))
  have hfl := fd_len p hd 53
  obtain ⟨l, hl⟩ : ∃ l, l = fd p.abs 53 := ⟨_, rfl⟩
  have hl' : (findL (absL p.L) 53).1 = l := hl.symm
  unfold kindA foundN
  rw [← hl] at hfl ⊢
  unfold GivesF at HF
  rw [hl'] at HF
  clear hl hl' hd hp
  by_cases hlen : l.length = 1
  · rw [if_pos hlen]
    obtain ⟨x, rfl⟩ : ∃ x, l = [x] := List.length_eq_one_iff.1 hlen
    rw [show numL [x] = x.toNat by simp [numL]]
    have hxx := x.toNat_lt
    clear hlen hfl
    go_enter Tryz.func44, Tryz.ntmps44
    go_wp2_with fail
    refine HF.out.mono ?_
    rintro e w1 ⟨A, c, rfl, hby, hB1⟩
    obtain ⟨b, o, rfl, hb, hcell⟩ := hby.at_ 0 x rfl
    have hcell' : w1.cell? ⟨b, o, none⟩ = some (.int .u8 (x.toNat : Int)) := hcell
    clear hby hcell
    rw [List.length_singleton]
    go_wp2
    go_ret
    exact ⟨rfl, hB0.trans (hB1.mono hB0.size)⟩
  · rw [if_neg hlen]
    have hne : ((l.length : Int) != 1) = true := by simp; omega
    clear hlen
    go_enter Tryz.func44, Tryz.ntmps44
    go_wp2_with fail
    refine HF.out.mono ?_
    rintro e w1 ⟨A, c, rfl, hby, hB1⟩
    go_wp2
    go_ret
    exact ⟨rfl, hB0.trans (hB1.mono hB0.size)⟩

set_option maxRecDepth 100000 in
set_option maxHeartbeats 1000000 in
theorem rclient_any (p : PktV) (w : World) (hp : Pk w w.heap.size p) (hL : p.L.length ≤ 1000) (hd : ∀ x ∈ p.L, x.data.length ≤ 1000) :
    Calls Tryz.prog 42 #[p.v] w fun e w' => e = .returned (.string ⟨(clientA p.abs).toArray⟩) ∧ Below w.heap.size w w' := by
  have hB0 : Below w.heap.size w (w.alloc (pbox p)) := (Below.refl _ _).alloc (Nat.le_refl _) _
  have HX := Lib.hid (PBox.new w p)
  have HP := Lib.hid (hp.boxed (pbox p))
  have HF := Lib.hid (rfind_any p.opA p.opC p.L 61 (w.alloc (pbox p)) (hp.boxed (pbox p)).opt (by omega))
  have hfl := fd_len p hd 61
  obtain ⟨l, hl⟩ : ∃ l, l = fd p.abs 61 := ⟨_, rfl⟩
  have hl' : (findL (absL p.L) 61).1 = l := hl.symm
  unfold clientA
  rw [← hl] at hfl ⊢
  unfold GivesF at HF
  rw [hl'] at HF
  clear hl hl' hd hp
  by_cases h1 : l.length < 1
  · rw [if_pos (.inl h1)]
    have hd1 : decide ((l.length : Int) < 1) = true := by simp; omega
    clear h1
    go_enter Tryz.func42, Tryz.ntmps42
    go_wp2_with fail
    refine HF.out.mono ?_
    rintro e w1 ⟨A, c, rfl, hby, hB1⟩
    have c8 := (HX.out.later hB1).c8
    have hs := str_run p.hwC (HP.out.later hB1).hw
    go_wp2
    go_ret
    exact ⟨rfl, hB0.trans (hB1.mono hB0.size)⟩
  · by_cases h2 : 32 < l.length
    · rw [if_pos (.inr h2)]
      have hd1 : decide ((l.length : Int) < 1) = false := by simp; omega
      go_enter Tryz.func42, Tryz.ntmps42
      go_wp2_with fail
      refine HF.out.mono ?_
      rintro e w1 ⟨A, c, rfl, hby, hB1⟩
      have c8 := (HX.out.later hB1).c8
      have hs := str_run p.hwC (HP.out.later hB1).hw
      go_wp2
      go_ret
      exact ⟨rfl, hB0.trans (hB1.mono hB0.size)⟩
    · rw [if_neg (by omega)]
      have hd1 : decide ((l.length : Int) < 1) = false := by simp; omega
      go_enter Tryz.func42, Tryz.ntmps42
      go_wp2_with fail
      refine HF.out.mono ?_
      rintro e w1 ⟨A, c, rfl, hby, hB1⟩
      have hs := str_run c hby
      go_wp2
      go_ret
      exact ⟨rfl, hB0.trans (hB1.mono hB0.size)⟩

set_option maxRecDepth 100000 in
set_option maxHeartbeats 1000000 in
theorem rasked_any (p : PktV) (w : World) (hp : Pk w w.heap.size p) (hL : p.L.length ≤ 1000) (hd : ∀ x ∈ p.L, x.data.length ≤ 1000) :
    Calls Tryz.prog 84 #[p.v] w fun e w' => e = .returned (.tuple #[.int .u32 ((askA p.abs : Nat) : Int), .int .i64 ((longA p.abs : Nat) : Int)]) ∧ Below w.heap.size w w' := by
  have hB0 : Below w.heap.size w (w.alloc (pbox p)) := (Below.refl _ _).alloc (Nat.le_refl _) _
  have HX := Lib.hid (PBox.new w p)
  have HP := Lib.hid (hp.boxed (pbox p))
  have HF := Lib.hid (rfind_any p.opA p.opC p.L 50 (w.alloc (pbox p)) (hp.boxed (pbox p)).opt (by omega))
  have HG := Lib.hid (fun W (h : Pk W W.heap.size p) => rfind_any p.opA p.opC p.L 51 W h.opt (by omega))
  have hfl := fd_len p hd 50
  have hgl := fd_len p hd 51
  obtain ⟨l, hl⟩ : ∃ l, l = fd p.abs 50 := ⟨_, rfl⟩
  obtain ⟨m, hm⟩ : ∃ m, m = fd p.abs 51 := ⟨_, rfl⟩
  have hl' : (findL (absL p.L) 50).1 = l := hl.symm
  have hm' : (findL (absL p.L) 51).1 = m := hm.symm
  unfold askA longA foundN
  rw [← hl] at hfl ⊢
  rw [← hm] at hgl ⊢
  unfold GivesF at HF HG
  rw [hl'] at HF
  rw [hm'] at HG
  clear hl hl' hm hm' hd hp
  by_cases h4 : l.length = 4
  · rw [if_pos h4]
    have hq : ((l.length : Int) == 4) = true := by simp [h4]
    have hlt := num4_lt _ h4
    have HO := Lib.hid (fun B A c W (h : By W B A l) => of_any B A c l W h (by omega))
    clear h4
    generalize numL l = n at *
    have hwr := wrap32 n hlt
    by_cases h5 : m.length = 4
    · rw [if_pos h5]
      have hq5 : ((m.length : Int) == 4) = true := by simp [h5]
      have HO5 := Lib.hid (fun B A c W (h : By W B A m) => of_any B A c m W h (by omega))
      clear h5
      go_enter Tryz.func84, Tryz.ntmps84
      go_wp2_with fail
      refine HF.out.mono ?_
      rintro e w1 ⟨A, c, rfl, hby, hB1⟩
      have c9 := (HX.out.later hB1).c9
      go_wp2_with fail
      refine (HO.out _ A c w1 hby).mono ?_
      rintro e w' ⟨rfl, rfl⟩
      go_wp2_with fail
      refine (HG.out w1 (HP.out.later hB1)).mono ?_
      rintro e w2 ⟨A2, c2, rfl, hby2, hB2⟩
      have hB := hB0.trans (hB1.mono hB0.size)
      go_wp2_with fail
      refine (HO5.out _ A2 c2 w2 hby2).mono ?_
      rintro e w' ⟨rfl, rfl⟩
      go_wp2
      go_ret2
      exact ⟨rfl, hB.trans (hB2.mono hB.size)⟩
    · rw [if_neg h5]
      have hq5 : ((m.length : Int) == 4) = false := by simp; omega
      clear h5
      go_enter Tryz.func84, Tryz.ntmps84
      go_wp2_with fail
      refine HF.out.mono ?_
      rintro e w1 ⟨A, c, rfl, hby, hB1⟩
      have c9 := (HX.out.later hB1).c9
      go_wp2_with fail
      refine (HO.out _ A c w1 hby).mono ?_
      rintro e w' ⟨rfl, rfl⟩
      go_wp2_with fail
      refine (HG.out w1 (HP.out.later hB1)).mono ?_
      rintro e w2 ⟨A2, c2, rfl, hby2, hB2⟩
      have hB := hB0.trans (hB1.mono hB0.size)
      go_wp2
      go_ret2
      exact ⟨rfl, hB.trans (hB2.mono hB.size)⟩
  · rw [if_neg h4]
    have hq : ((l.length : Int) == 4) = false := by simp; omega
    clear h4
    by_cases h5 : m.length = 4
    · rw [if_pos h5]
      have hq5 : ((m.length : Int) == 4) = true := by simp [h5]
      have HO5 := Lib.hid (fun B A c W (h : By W B A m) => of_any B A c m W h (by omega))
      clear h5
      go_enter Tryz.func84, Tryz.ntmps84
      go_wp2_with fail
      refine HF.out.mono ?_
      rintro e w1 ⟨A, c, rfl, hby, hB1⟩
      have c9 := (HX.out.later hB1).c9
      go_wp2_with fail
      refine (HG.out w1 (HP.out.later hB1)).mono ?_
      rintro e w2 ⟨A2, c2, rfl, hby2, hB2⟩
      have hB := hB0.trans (hB1.mono hB0.size)
      go_wp2_with fail
      refine (HO5.out _ A2 c2 w2 hby2).mono ?_
      rintro e w' ⟨rfl, rfl⟩
      go_wp2
      go_ret2
      exact ⟨rfl, hB.trans (hB2.mono hB.size)⟩
    · rw [if_neg h5]
      have hq5 : ((m.length : Int) == 4) = false := by simp; omega
      clear h5
      go_enter Tryz.func84, Tryz.ntmps84
      go_wp2_with fail
      refine HF.out.mono ?_
      rintro e w1 ⟨A, c, rfl, hby, hB1⟩
      have c9 := (HX.out.later hB1).c9
      go_wp2_with fail
      refine (HG.out w1 (HP.out.later hB1)).mono ?_
      rintro e w2 ⟨A2, c2, rfl, hby2, hB2⟩
      have hB := hB0.trans (hB1.mono hB0.size)
      go_wp2
      go_ret2
      exact ⟨rfl, hB.trans (hB2.mono hB.size)⟩
end Go.Proofs.YtmaohnbddlccdaaGreat.NO
end

/- Plain mathematics of packets: their bytes. -/
section
namespace Go.Proofs.YtmaohnbddlccdaaGreat.NO

def headA (a : PktA) : Bool := (a.op == 1 || a.op == 2) && shortB a.secs && shortB a.flags && decide (1 ≤ a.hw.length) && decide (a.hw.length ≤ 16)
def rightA (a : PktA) : Bool := ((encL a.opts).2 == 0) && headA a
theorem right_abs (p : PktV) : rightB p = rightA p.abs := rfl

/-- The bytes ahead of the options. -/
def headL (a : PktA) : List UInt8 :=
  [UInt8.ofNat a.op.toNat, 1, UInt8.ofNat a.hw.length, 0] ++ beL a.xid 4 ++ beL a.secs.toNat 2 ++ beL a.flags.toNat 2 ++ [a.ci, a.yi, a.si, a.gi].flatMap (beL · 4) ++ a.hw ++ List.replicate (16 - a.hw.length + 192) 0 ++ [99, 130, 83, 99]
theorem headL_length (a : PktA) (h : a.hw.length ≤ 16) : (headL a).length = 240 := by
  simp [headL, beL_length]
  omega
/-- A packet's bytes, and the error's number. -/
def encP (a : PktA) : List UInt8 × Int := if rightA a then (headL a ++ (encL a.opts).1, 0) else ([], 1)
theorem encP_bad {a : PktA} (h : rightA a = false) : encP a = ([], 1) := by simp [encP, h]
theorem encP_ok {a : PktA} (h : rightA a = true) : encP a = (headL a ++ (encL a.opts).1, 0) := by simp [encP, h]
theorem encL_len (l : List (Int × List UInt8)) : (encL l).1.length ≤ 1024 := by
  unfold encL
  split
  · split
    · simp; omega
    · simp
  · simp
theorem right_iff (p : PktV) : rightB p = true ↔ (encL (absL p.L)).2 = 0 ∧ headB p = true := by simp [rightB]
end Go.Proofs.YtmaohnbddlccdaaGreat.NO
end
