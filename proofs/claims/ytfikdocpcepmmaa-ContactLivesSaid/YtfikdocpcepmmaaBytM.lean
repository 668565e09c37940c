/- Bytes in memory: how a slice of bytes reads; appending bytes; a text of bytes. (The half of OptM that needs no options.) -/
import Derived.Test.YtfikdocpcepmmaaBasM
namespace Go.Proofs.Ytfikdocpcepmmaa
open Go.RowKit

/-- A byte's value. -/
abbrev bV (x : UInt8) : Value := .int .u8 (x.toNat : Int)
def bcells (l : List UInt8) : List Value := l.map bV
theorem bcells_length (l : List UInt8) : (bcells l).length = l.length := by simp [bcells]
theorem bcells_append (a b : List UInt8) : bcells (a ++ b) = bcells a ++ bcells b := by simp [bcells]
theorem bcells_one (l : List UInt8) : ∀ u ∈ bcells l, u.oneCell' = true := by
  intro u hu
  obtain ⟨x, _, rfl⟩ := List.mem_map.1 hu
  rfl

/-- The slice at A reads as the bytes l, and lies below block B. -/
structure By (w : World) (B : Nat) (A : Option Addr) (l : List UInt8) : Prop where
  at_ : ∀ i x, l[i]? = some x → ∃ b o, A = some ⟨b, o, none⟩ ∧ b < B ∧ w.cell? ⟨b, o + i, none⟩ = some (bV x)

section
variable {w w' : World} {B B' : Nat} {A : Option Addr} {l : List UInt8}
theorem By.nil : By w B A [] := ⟨fun i x h => by simp at h⟩
theorem By.keep (h : By w B A l) (hk : ∀ p : Addr, p.block < B → w'.cell? p = w.cell? p) : By w' B A l :=
  ⟨fun i x hx => by
    obtain ⟨b, o, rfl, hb, h1⟩ := h.at_ i x hx
    exact ⟨b, o, rfl, hb, (hk _ hb).trans h1⟩⟩
theorem By.below (h : By w B A l) (hb : Below B w w') : By w' B A l := h.keep fun _ hp => hb.cell hp
theorem By.more (h : By w B A l) (hB : B ≤ B') : By w B' A l :=
  ⟨fun i x hx => by
    obtain ⟨b, o, rfl, hb, h1⟩ := h.at_ i x hx
    exact ⟨b, o, rfl, by omega, h1⟩⟩
theorem By.later (h : By w w.heap.size A l) (hb : Below w.heap.size w w') : By w' w'.heap.size A l := (h.below hb).more hb.size
theorem By.drew (h : By w B A l) : By w.drew B A l := ⟨h.at_⟩
theorem By.drewN (h : By w B A l) (n : Nat) : By (w.drewN n) B A l := ⟨h.at_⟩
theorem By.cells {ad : Addr} (h : By w B (some ad) l) (j : Nat) (u : Value) (hu : (bcells l)[j]? = some u) : w.cell? (ad.add j) = some u := by
  unfold bcells at hu
  rw [List.getElem?_map] at hu
  obtain ⟨x, hx, rfl⟩ := Option.map_eq_some_iff.1 hu
  obtain ⟨b, o, hA, _, h1⟩ := h.at_ j x hx
  obtain rfl := Option.some.inj hA
  rw [add_at]
  exact h1
theorem By.none_ (h : By w B none l) : l = [] := by
  match l, h with
  | [], _ => rfl
  | x :: r, h =>
    obtain ⟨b, o, hA, _⟩ := h.at_ 0 x rfl
    cases hA
/-- Bytes cut off at the front. -/
theorem By.cut (h : By w B A l) {k cap : Nat} (hk : k ≤ l.length) (hc : l.length ≤ cap) : By w B (if cap = k then A else A.map (·.add k)) (l.drop k) := by
  refine ⟨fun i x hx => ?_⟩
  rw [List.getElem?_drop] at hx
  have hlt := (List.getElem?_eq_some_iff.1 hx).1
  obtain ⟨b, o, rfl, hb, h1⟩ := h.at_ _ x hx
  rw [if_neg (by omega)]
  exact ⟨b, o + k, by rw [Option.map_some, add_at], hb, by rw [Nat.add_assoc]; exact h1⟩
theorem By.take (h : By w B A l) (k : Nat) : By w B A (l.take k) :=
  ⟨fun i x hx => h.at_ i x (by rw [List.getElem?_take] at hx; split at hx; exact hx; cases hx)⟩
theorem By.of_own {base : Nat} {e : TypeId} {n c : Nat} (h : w.ownsRow base e 1 (.slice A n c) n (bcells l)) : By w w.heap.size A l := by
  refine ⟨fun i x hx => ?_⟩
  have hi : i < l.length := (List.getElem?_eq_some_iff.1 hx).1
  have hn : n = l.length := by have := h.1; rw [bcells_length] at this; omega
  rcases h.2 with ⟨_, h0⟩ | ⟨g, cap, cur, hv, _, hh, _⟩
  · omega
  have hA : A = some ⟨g, 0, none⟩ := by injection hv
  subst hA
  have hlt : g < w.heap.size := (Array.getElem?_eq_some_iff.1 hh).1
  refine ⟨g, 0, rfl, hlt, ?_⟩
  rw [← add_at]
  exact h.cells (g := g) rfl i _ (by simp [bcells, hx])
/-- A block of bytes that is laid now. -/
theorem By.new (w : World) (l : List UInt8) (t : TypeId) : By (w.alloc (.cells (bcells l).toArray t)) (w.heap.size + 1) (some ⟨w.heap.size, 0, none⟩) l := by
  refine ⟨fun i x hx => ⟨w.heap.size, 0, rfl, by omega, ?_⟩⟩
  have : (w.alloc (.cells (bcells l).toArray t)).heap[w.heap.size]? = some (.cells (bcells l).toArray t (0, 0)) := heap_alloc_new w _
  rw [cell_of_row _ _ _ _ _ _ this]
  simp [bcells, hx]
end

theorem Try.infoB : (Try.prog.info? 5).map (fun i => (i.zero, i.size, i.bytes)) = some (some (.int .u8 0), 1, 1) := by kernel_rfl

/-- Bytes as a text. -/
theorem foldl_push (l : List UInt8) (s : ByteArray) : (l.map fun x => (x.toNat : Int)).foldl (fun r n => r.push (UInt8.ofNat n.toNat)) s = ⟨s.data ++ l.toArray⟩ := by
  induction l generalizing s with
  | nil => simp
  | cons x r ih =>
    rw [List.map_cons, List.foldl_cons, ih]
    simp [ByteArray.push]

theorem str_run {w : World} {B : Nat} {A : Option Addr} {l : List UInt8} (c : Nat) (h : By w B A l) : (convert 72 9 (.slice A l.length c)).run Try.prog w = .ok (.string ⟨l.toArray⟩) w := by
  rw [run_convert_bytes_string _ 72 9 5 _ _ _ Try.underlying72 Try.underlying5 Try.underlying9]
  cases A with
  | none =>
    obtain rfl := h.none_
    unfold Conv.bytesToString
    simp [Sem.run_pure]
    rfl
  | some ad =>
    have hl : (loadCells ad l.length).run Try.prog w = .ok ((l.map fun x => (x.toNat : Int)).map (Value.int .u8)).toArray w := by
      have := run_loadCells_list (P := Try.prog) (w := w) ad (bcells l) (fun j v hv => h.cells j v hv)
      rw [bcells_length] at this
      rw [this]
      simp [bcells, Function.comp_def]
    rw [run_bytesToString _ ad l.length c _ hl, foldl_push]
    simp

/-- Bytes behind a row of the call's own. -/
theorem run_appB (w : World) (base : Nat) (ty : TypeId) {v : Value} {n : Nat} {xs : List Value} (hown : w.ownsRow base 5 1 v n xs) {B : Nat} {A : Option Addr} {l : List UInt8} (c : Nat) (hr : By w B A l) (hsz : n + l.length ≤ 140737488355328) (hbase : base ≤ w.heap.size) :
    ∃ v' w', (Builtin.append_ #[72, 72] ty #[v, .slice A l.length c]).run Try.prog w = .ok v' w' ∧ w'.ownsRow base 5 1 v' (n + l.length) (xs ++ bcells l) ∧ w.grownBy w' v.ownBlock ∧ (v'.ownBlock = v.ownBlock ∨ v'.ownBlock = some w.heap.size) := by
  obtain ⟨i, hi, hz0, hz1, hz2⟩ := info_parts Try.infoB
  cases A with
  | some ad =>
    obtain ⟨v', w', h1, h2, h3, _, h5⟩ := run_append_own_at (P := Try.prog) w base 72 ty 5 i (.int .u8 0) 1 1 Try.underlying72 hi hz0 hz1 hz2 rfl (by decide) v n xs hown ad l.length c (bcells l) (by rw [bcells_length]; omega) (fun j u hu => hr.cells j u hu) (bcells_one l) (by unfold maxLen; omega) (by omega) hbase
    exact ⟨v', w', h1, h2, h3, h5⟩
  | none =>
    obtain rfl := hr.none_
    refine ⟨v, w, ?_, by simpa [bcells] using hown, World.grownBy.refl w _, .inl rfl⟩
    rcases hown.2 with ⟨rfl, rfl⟩ | ⟨g, cap, cur, rfl, _, _, hnc, _⟩
    · simp [Builtin.append_, run_underlying Try.underlying72, sizeOf, typeInfo, hi, Builtin.lenOf, Builtin.firstCells]
    · simp [Builtin.append_, run_underlying Try.underlying72, sizeOf, typeInfo, hi, Builtin.lenOf, Builtin.firstCells, hnc, storeCells]

theorem wpList_appB {w : World} {ops : Array Oper} {rest : List Oper} {o : Oper} {a : Act} {Q : Exit → Act → World → Prop} (hgd : o.guard = none) (s x : Operand)
    (ho : o.op = .call { callee := .builtin .append, args := #[s, x], argTypes := #[72, 72] }) (base : Nat) (v : Value) (n : Nat) (xs : List Value) (hs : a.eval s = v) (hown : w.ownsRow base 5 1 v n xs)
    (B : Nat) (A : Option Addr) (l : List UInt8) (c : Nat) (hx : a.eval x = .slice A l.length c) (hr : By w B A l) (hsz : n + l.length ≤ 140737488355328) (hbase : base ≤ w.heap.size)
    (h : ∀ v' w', w'.ownsRow base 5 1 v' (n + l.length) (xs ++ bcells l) → w.grownBy w' v.ownBlock → (v'.ownBlock = v.ownBlock ∨ v'.ownBlock = some w.heap.size) → wpList Try.prog ops Q rest (a.put o.dst v') w') :
    wpList Try.prog ops Q (o :: rest) a w := by
  refine wpList_plain hgd fun K hK => ?_
  obtain ⟨v', w', h1, h2, h3, h4⟩ := run_appB w base o.type hown c hr hsz hbase
  unfold Oper.wp execOp
  simp only [ho, resolve, invoke, builtin, Sem.run_bind, Sem.run_pure, Result.andThen_ok, List.map_toArray, List.map_cons, List.map_nil, hs, hx, h1]
  exact hK _ _ (h v' w' h2 h3 h4)

/-- The same in a region that draws its order. -/
theorem step_appB {w : World} {ops : Array Oper} {o : Oper} {a : Act} {K : Act → World → Prop} {Q : Exit → Act → World → Prop} {E : Prop} (hgd : o.guard = none) (s x : Operand)
    (ho : o.op = .call { callee := .builtin .append, args := #[s, x], argTypes := #[72, 72] }) (base : Nat) (v : Value) (n : Nat) (xs : List Value) (hs : a.eval s = v) (hown : w.ownsRow base 5 1 v n xs)
    (B : Nat) (A : Option Addr) (l : List UInt8) (c : Nat) (hx : a.eval x = .slice A l.length c) (hr : By w B A l) (hsz : n + l.length ≤ 140737488355328) (hbase : base ≤ w.heap.size)
    (h : ∀ v' w', w'.ownsRow base 5 1 v' (n + l.length) (xs ++ bcells l) → w.grownBy w' v.ownBlock → (v'.ownBlock = v.ownBlock ∨ v'.ownBlock = some w.heap.size) → K (a.put o.dst v') w') :
    if Region.wanted o (yielded ops a.tmps) = true then Oper.wp Try.prog o a w K Q else E := by
  rw [if_pos (by simp [Region.wanted, hgd])]
  obtain ⟨v', w', h1, h2, h3, h4⟩ := run_appB w base o.type hown c hr hsz hbase
  unfold Oper.wp execOp
  simp only [ho, resolve, invoke, builtin, Sem.run_bind, Sem.run_pure, Result.andThen_ok, List.map_toArray, List.map_cons, List.map_nil, hs, hx, h1]
  exact h v' w' h2 h3 h4

/-- The same, the length under a name of its own. -/
theorem step_appBm {w : World} {ops : Array Oper} {o : Oper} {a : Act} {K : Act → World → Prop} {Q : Exit → Act → World → Prop} {E : Prop} (hgd : o.guard = none) (s x : Operand)
    (ho : o.op = .call { callee := .builtin .append, args := #[s, x], argTypes := #[72, 72] }) (base : Nat) (v : Value) (n : Nat) (xs : List Value) (hs : a.eval s = v) (hown : w.ownsRow base 5 1 v n xs)
    (B : Nat) (A : Option Addr) (l : List UInt8) (m c : Nat) (hm : m = l.length) (hx : a.eval x = .slice A m c) (hr : By w B A l) (k : Nat) (hk : n + m = k) (hsz : n + m ≤ 140737488355328) (hbase : base ≤ w.heap.size)
    (h : ∀ A' c' w', w'.ownsRow base 5 1 (.slice A' k c') k (xs ++ bcells l) → w.grownBy w' v.ownBlock → K (a.put o.dst (.slice A' k c')) w') :
    if Region.wanted o (yielded ops a.tmps) = true then Oper.wp Try.prog o a w K Q else E := by
  subst hm hk
  refine step_appB hgd s x ho base v n xs hs hown B A l c hx hr hsz hbase fun v' w' h1 h2 _ => ?_
  obtain ⟨A', c', rfl, _⟩ := (show ∃ A c, v' = .slice A (n + l.length) c ∧ True by
    rcases h1.2 with ⟨rfl, h0⟩ | ⟨g, cap, cur, rfl, _⟩
    · exact ⟨none, 0, by rw [h0], trivial⟩
    · exact ⟨_, cap, rfl, trivial⟩)
  exact h A' c' w' h1 h2

/-- Bytes cut out of a slice. -/
theorem run_cut (g o n c : Nat) (lo hi : Int) (h0 : 0 ≤ lo) (h1 : lo ≤ hi) (h2 : hi ≤ c) (W : World) :
    (Instr.slice 72 (.slice (some ⟨g, o, none⟩) n c) (some (.int .i64 lo)) (some (.int .i64 hi)) none).run Try.prog W = .ok (.slice (some ⟨g, if c = lo.toNat then o else o + lo.toNat, none⟩) (hi.toNat - lo.toNat) (c - lo.toNat)) W := by
  obtain ⟨i, hi', hz0, hz1, hz2⟩ := info_parts Try.infoB
  have c1 : 0 ≤ hi ∧ hi ≤ (c : Int) := ⟨by omega, h2⟩
  have c2 : 0 ≤ lo ∧ lo ≤ ((hi.toNat : Nat) : Int) := ⟨h0, by omega⟩
  have e : (if c = lo.toNat then some ⟨g, o, none⟩ else some (Addr.add ⟨g, o, none⟩ lo.toNat)) = some (⟨g, if c = lo.toNat then o else o + lo.toNat, none⟩ : Addr) := by
    split
    · rfl
    · rw [add_at]
  simp only [Instr.slice, run_underlying Try.underlying72, Sem.run_bind, Result.andThen_ok, Instr.sliceBounds, Instr.sliceBound, asIntOf, Sem.run_pure, if_pos c1, if_pos c2, sizeOf, typeInfo, Option.map_some]
  simp [hi', hz1, e]

theorem cut_by {w : World} {B g o : Nat} {l : List UInt8} (h : By w B (some ⟨g, o, none⟩) l) (n c lo hi : Nat) (Lo Hi : Int) (eLo : Lo = lo) (eHi : Hi = hi) (h1 : lo ≤ hi) (h2 : hi ≤ l.length) (h3 : l.length ≤ c) :
    ∃ A', (∀ W, (Instr.slice 72 (.slice (some ⟨g, o, none⟩) n c) (some (.int .i64 Lo)) (some (.int .i64 Hi)) none).run Try.prog W = .ok (.slice A' (hi - lo) (c - lo)) W) ∧ By w B A' ((l.drop lo).take (hi - lo)) := by
  subst eLo eHi
  refine ⟨some ⟨g, if c = lo then o else o + lo, none⟩, fun W => by rw [run_cut g o n c lo hi (by omega) (by omega) (by omega) W]; simp only [Int.toNat_natCast], ?_⟩
  refine ⟨fun i x hx => ?_⟩
  rw [List.getElem?_take] at hx
  split at hx
  · rw [List.getElem?_drop] at hx
    have hlt := (List.getElem?_eq_some_iff.1 hx).1
    obtain ⟨b', o', hA, hb, hcell⟩ := h.at_ _ x hx
    obtain ⟨rfl, rfl⟩ : g = b' ∧ o = o' := by injection hA with hA; injection hA with h1 h2; exact ⟨h1, h2⟩
    exact ⟨g, o + lo, by rw [if_neg (by omega)], hb, by rw [Nat.add_assoc]; exact hcell⟩
  · cases hx





/-- Bytes and an error's number are answered; nothing that lay has turned. -/
def GivesB (w : World) (l : List UInt8) (k : Int) (e : Ending) (w' : World) : Prop :=
  ∃ A c, e = .returned (.tuple #[.slice A l.length c, .int .i64 k]) ∧ By w' w'.heap.size A l ∧ l.length ≤ c ∧ Below w.heap.size w w'

theorem two_bytes (w : World) (t : TypeId) (c : Int) (n : Nat) (hc0 : 0 ≤ c) (hc : c < 256) (hn : n < 256) : By (w.alloc (.cells #[.int .u8 c, .int .u8 (n : Int)] t)) (w.heap.size + 1) (some ⟨w.heap.size, 0, none⟩) [UInt8.ofNat c.toNat, UInt8.ofNat n] := by
  have h := By.new w [UInt8.ofNat c.toNat, UInt8.ofNat n] t
  have e1 : ((UInt8.ofNat c.toNat).toNat : Int) = c := by
    rw [UInt8.toNat_ofNat', Nat.mod_eq_of_lt (by omega)]; omega
  have e2 : (UInt8.ofNat n).toNat = n := by
    rw [UInt8.toNat_ofNat', Nat.mod_eq_of_lt (by omega)]
  simp only [bcells, List.map_cons, List.map_nil, bV, e1, e2] at h
  exact h
theorem one_byte (w : World) (t : TypeId) (c : Nat) (hc : c < 256) : By (w.alloc (.cells #[.int .u8 (c : Int)] t)) (w.heap.size + 1) (some ⟨w.heap.size, 0, none⟩) [UInt8.ofNat c] := by
  have h := By.new w [UInt8.ofNat c] t
  have e2 : (UInt8.ofNat c).toNat = c := by
    rw [UInt8.toNat_ofNat', Nat.mod_eq_of_lt (by omega)]
  simp only [bcells, List.map_cons, List.map_nil, bV, e2] at h
  exact h


theorem run_makeB (s : Nat) (hs : s ≤ 1048576) (W : World) : (Instr.makeSlice 72 (.int .i64 0) (.int .i64 (s : Int))).run Try.prog W = .ok (.slice (some ⟨W.heap.size, 0, none⟩) 0 s) (W.alloc (.cells (madeCells #[.int .u8 0] s) 5)) := by
  obtain ⟨i, hi, hz0, hz1, hz2⟩ := info_parts Try.infoB
  have h := run_make (P := Try.prog) W 72 5 i (.int .u8 0) Try.underlying72 hi hz0 .i64 .i64 0 (s : Int) (by omega) (by omega) (by rw [hz2]; omega) (by omega)
  rw [hz1] at h
  simp only [Int.toNat_zero, Int.toNat_natCast, Nat.mul_one] at h
  exact h

theorem made_own (W : World) (B s : Nat) (hB : B ≤ W.heap.size) (hs : s ≤ 1048576) : (W.alloc (.cells (madeCells #[.int .u8 0] s) 5)).ownsRow B 5 1 (.slice (some ⟨W.heap.size, 0, none⟩) 0 s) 0 (bcells []) :=
  World.ownsRow_made W _ s hB (by unfold maxLen; omega) (by rw [size_madeCells]; omega)

theorem own_cap {w : World} {base g n cap : Nat} {l : List UInt8} (h : w.ownsRow base 5 1 (.slice (some ⟨g, 0, none⟩) n cap) n (bcells l)) : l.length ≤ cap := by
  have h1 := h.1
  rw [bcells_length] at h1
  rcases h.2 with ⟨h', _⟩ | ⟨g', cap', cur, hv, _, _, hnc, _⟩
  · cases h'
  · injection hv with _ _ hc
    omega

end Go.Proofs.Ytfikdocpcepmmaa
