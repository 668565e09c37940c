/- Joined texts: LeaP, LeaM, LeaB, LeaQ, LeaR. -/
import Derived.Test.YtmaohnbddlccdaaGreatMrgBasM
import Derived.Laws.StructEq
import Derived.Lib.QuietBelow
import Derived.BigQuiet
import Derived.Deep.QuietTactic
import Derived.Deep.DeepCutAuto

/- Leases, pure: which may be; their bytes; the lease that bytes tell; back. (Names no function of the program.) -/
section
namespace Go.Proofs.YtmaohnbddlccdaaGreat

/-- A lease, its fields in the order of api.Lease. -/
structure LV where
  addr : Nat
  bind : Int
  client : List UInt8
  unt : Int
  acked : Int
  told : Int
  at_ : Int
  ver : Int
deriving DecidableEq
def TimeL (n : Int) : Prop := 0 ≤ n ∧ n ≤ 1099511627776
def HeldL (b : Int) : Prop := b = 2 ∨ b = 3 ∨ b = 4
instance (n : Int) : Decidable (TimeL n) := by unfold TimeL; infer_instance
instance (n : Int) : Decidable (HeldL n) := by unfold HeldL; infer_instance
structure RightL (l : LV) : Prop where
  b0 : 0 ≤ l.bind
  b1 : l.bind ≤ 5
  unt : TimeL l.unt
  acked : TimeL l.acked
  told : TimeL l.told
  at_ : TimeL l.at_
  ver : TimeL l.ver
  held : HeldL l.bind → 1 ≤ l.client.length ∧ l.client.length ≤ 32
  bare : ¬ HeldL l.bind → l.client = [] ∧ l.unt = 0 ∧ l.acked = 0 ∧ l.told = 0 ∧ l.at_ = 0
theorem right_iff (l : LV) : RightL l ↔ (0 ≤ l.bind ∧ l.bind ≤ 5 ∧ TimeL l.unt ∧ TimeL l.acked ∧ TimeL l.told ∧ TimeL l.at_ ∧ TimeL l.ver ∧ (HeldL l.bind → 1 ≤ l.client.length ∧ l.client.length ≤ 32) ∧ (¬ HeldL l.bind → l.client = [] ∧ l.unt = 0 ∧ l.acked = 0 ∧ l.told = 0 ∧ l.at_ = 0)) :=
  ⟨fun h => ⟨h.b0, h.b1, h.unt, h.acked, h.told, h.at_, h.ver, h.held, h.bare⟩, fun ⟨a, b, c, d, e, f, g, h, i⟩ => ⟨a, b, c, d, e, f, g, h, i⟩⟩
instance (l : LV) : Decidable (RightL l) := decidable_of_iff _ (right_iff l).symm
theorem RightL.short {l : LV} (h : RightL l) : l.client.length ≤ 32 := by
  by_cases hh : HeldL l.bind
  · exact (h.held hh).2
  · rw [(h.bare hh).1]; exact Nat.zero_le _
def zeroL : LV := ⟨0, 0, [], 0, 0, 0, 0, 0⟩
def bareL (a : Nat) (bind ver : Int) : LV := ⟨a, bind, [], 0, 0, 0, 0, ver⟩
def overL (l : LV) : Int := if l.unt < l.told then l.told else l.unt
theorem bare_right (a : Nat) (bind ver : Int) : RightL (bareL a bind ver) ↔ (bind = 0 ∨ bind = 1 ∨ bind = 5) ∧ TimeL ver := by
  constructor
  · intro h
    refine ⟨?_, h.ver⟩
    have h0 : 0 ≤ bind := h.b0
    have h1 : bind ≤ 5 := h.b1
    by_cases hh : HeldL bind
    · exact absurd (h.held hh).1 (by simp [bareL])
    · unfold HeldL at hh; omega
  · rintro ⟨hb, hv⟩
    refine ⟨by show 0 ≤ bind; omega, by show bind ≤ 5; omega, by show TimeL 0; decide, by show TimeL 0; decide, by show TimeL 0; decide, by show TimeL 0; decide, hv, fun hh => ?_, fun _ => ⟨rfl, rfl, rfl, rfl, rfl⟩⟩
    have : HeldL bind := hh
    unfold HeldL at this
    omega

/-- The bytes of a lease. -/
def encL (l : LV) : List UInt8 :=
  beL l.addr 4 ++ ([UInt8.ofNat l.bind.toNat] ++ (beL l.unt.toNat 6 ++ (beL l.acked.toNat 6 ++ (beL l.told.toNat 6 ++ (beL l.at_.toNat 6 ++ (beL l.ver.toNat 6 ++ ([UInt8.ofNat l.client.length] ++ l.client)))))))
theorem encL_length (l : LV) : (encL l).length = 36 + l.client.length := by
  simp only [encL, List.length_append, beL_length, List.length_singleton]
  omega
/-- A piece of bytes. -/
def pc (b : List UInt8) (i n : Nat) : List UInt8 := (b.drop i).take n
theorem pc_length (b : List UInt8) (i n : Nat) (h : i + n ≤ b.length) : (pc b i n).length = n := by
  unfold pc; rw [List.length_take, List.length_drop]; omega
theorem pc_skip {x b : List UInt8} {i n : Nat} (k : Nat) (hk : x.length = k) (hi : k ≤ i) : pc (x ++ b) i n = pc b (i - k) n := by
  unfold pc
  rw [List.drop_append, List.drop_of_length_le (by omega), hk, List.nil_append]
theorem pc_here {x b : List UInt8} {n : Nat} (hx : x.length = n) : pc (x ++ b) 0 n = x := by
  unfold pc
  rw [List.drop_zero, List.take_left' hx]
/-- The lease that bytes tell, be they its bytes or not. -/
def rawL (b : List UInt8) : LV := ⟨numL (pc b 0 4), numL (pc b 4 1), b.drop 36, numL (pc b 5 6), numL (pc b 11 6), numL (pc b 17 6), numL (pc b 23 6), numL (pc b 29 6)⟩

theorem num_one (x : UInt8) : numL [x] = x.toNat := by simp [numL]
theorem num_be (n m : Nat) (h : n < 256 ^ m) : numL (beL n m) = n := by rw [numL_beL, Nat.mod_eq_of_lt h]
theorem time_be {n : Int} (h : TimeL n) : ((numL (beL n.toNat 6) : Nat) : Int) = n := by
  unfold TimeL at h
  rw [num_be _ _ (by omega)]
  omega

/-- A lease's bytes tell it. -/
theorem raw_enc {l : LV} (h : RightL l) (ha : l.addr < 4294967296) : rawL (encL l) = l := by
  have e0 : pc (encL l) 0 4 = beL l.addr 4 := pc_here (beL_length _ _)
  have e1 : pc (encL l) 4 1 = [UInt8.ofNat l.bind.toNat] := by unfold encL; rw [pc_skip 4 (beL_length _ _) (by omega)]; exact pc_here rfl
  have s5 : ∀ i n, 5 ≤ i → pc (encL l) i n = pc (beL l.unt.toNat 6 ++ (beL l.acked.toNat 6 ++ (beL l.told.toNat 6 ++ (beL l.at_.toNat 6 ++ (beL l.ver.toNat 6 ++ ([UInt8.ofNat l.client.length] ++ l.client)))))) (i - 5) n := fun i n hi => by
    unfold encL
    rw [pc_skip 4 (beL_length _ _) (by omega), pc_skip 1 rfl (by omega), Nat.sub_sub]
  have e2 : pc (encL l) 5 6 = beL l.unt.toNat 6 := by rw [s5 5 6 (by omega)]; exact pc_here (beL_length _ _)
  have e3 : pc (encL l) 11 6 = beL l.acked.toNat 6 := by rw [s5 11 6 (by omega), pc_skip 6 (beL_length _ _) (by omega)]; exact pc_here (beL_length _ _)
  have e4 : pc (encL l) 17 6 = beL l.told.toNat 6 := by rw [s5 17 6 (by omega), pc_skip 6 (beL_length _ _) (by omega), pc_skip 6 (beL_length _ _) (by omega)]; exact pc_here (beL_length _ _)
  have e5 : pc (encL l) 23 6 = beL l.at_.toNat 6 := by rw [s5 23 6 (by omega), pc_skip 6 (beL_length _ _) (by omega), pc_skip 6 (beL_length _ _) (by omega), pc_skip 6 (beL_length _ _) (by omega)]; exact pc_here (beL_length _ _)
  have e6 : pc (encL l) 29 6 = beL l.ver.toNat 6 := by rw [s5 29 6 (by omega), pc_skip 6 (beL_length _ _) (by omega), pc_skip 6 (beL_length _ _) (by omega), pc_skip 6 (beL_length _ _) (by omega), pc_skip 6 (beL_length _ _) (by omega)]; exact pc_here (beL_length _ _)
  have e7 : (encL l).drop 36 = l.client := by
    have : encL l = (beL l.addr 4 ++ ([UInt8.ofNat l.bind.toNat] ++ (beL l.unt.toNat 6 ++ (beL l.acked.toNat 6 ++ (beL l.told.toNat 6 ++ (beL l.at_.toNat 6 ++ (beL l.ver.toNat 6 ++ [UInt8.ofNat l.client.length]))))))) ++ l.client := by
      simp only [encL, List.append_assoc]
    rw [this]
    exact List.drop_left' (by simp only [List.length_append, beL_length, List.length_singleton])
  have hb : ((numL [UInt8.ofNat l.bind.toNat] : Nat) : Int) = l.bind := by
    have h0 := h.b0
    have h1 := h.b1
    rw [num_one, UInt8.toNat_ofNat']
    omega
  unfold rawL
  rw [e0, e1, e2, e3, e4, e5, e6, e7, num_be _ _ (by simpa using ha), hb, time_be h.unt, time_be h.acked, time_be h.told, time_be h.at_, time_be h.ver]

theorem pc_join (b : List UInt8) (i n : Nat) : b.drop i = pc b i n ++ b.drop (i + n) := by
  unfold pc
  rw [← List.drop_drop, List.take_append_drop]
theorem be_pc (b : List UInt8) (i n : Nat) (h : i + n ≤ b.length) : beL (numL (pc b i n)) n = pc b i n := by
  have := beL_numL (pc b i n)
  rw [pc_length b i n h] at this
  exact this
theorem one_pc (b : List UInt8) (i : Nat) (h : i + 1 ≤ b.length) : [UInt8.ofNat (numL (pc b i 1))] = pc b i 1 := by
  have hl := pc_length b i 1 h
  match hp : pc b i 1, hl with
  | [x], _ => rw [num_one, UInt8.ofNat_toNat]
/-- What bytes tell has them for its bytes, if the length that they tell is theirs. -/
theorem enc_raw {b : List UInt8} (h : 36 ≤ b.length) (hl : pc b 35 1 = [UInt8.ofNat (b.length - 36)]) : encL (rawL b) = b := by
  have hc : (b.drop 36).length = b.length - 36 := List.length_drop
  unfold encL rawL
  simp only [Int.toNat_natCast]
  rw [be_pc b 0 4 (by omega), one_pc b 4 (by omega), be_pc b 5 6 (by omega), be_pc b 11 6 (by omega), be_pc b 17 6 (by omega), be_pc b 23 6 (by omega), be_pc b 29 6 (by omega), hc, ← hl]
  rw [← pc_join b 35 1, ← pc_join b 29 6, ← pc_join b 23 6, ← pc_join b 17 6, ← pc_join b 11 6, ← pc_join b 5 6, ← pc_join b 4 1, ← pc_join b 0 4, List.drop_zero]
theorem enc_len {l : LV} : pc (encL l) 35 1 = [UInt8.ofNat l.client.length] := by
  have : encL l = (beL l.addr 4 ++ ([UInt8.ofNat l.bind.toNat] ++ (beL l.unt.toNat 6 ++ (beL l.acked.toNat 6 ++ (beL l.told.toNat 6 ++ (beL l.at_.toNat 6 ++ beL l.ver.toNat 6)))))) ++ ([UInt8.ofNat l.client.length] ++ l.client) := by
    simp only [encL, List.append_assoc]
  rw [this, pc_skip 35 (by simp only [List.length_append, beL_length, List.length_singleton]) (by omega)]
  exact pc_here rfl

/-- The lease of bytes, if they are one's. -/
def decOk (b : List UInt8) : Prop := 36 ≤ b.length ∧ RightL (rawL b) ∧ encL (rawL b) = b
instance (b : List UInt8) : Decidable (decOk b) := by unfold decOk; infer_instance
def decL (b : List UInt8) : LV × Int := if decOk b then (rawL b, 0) else (zeroL, 2)
def encRL (l : LV) : List UInt8 × Int := if RightL l then (encL l, 0) else ([], 1)
/-- The same by the length that the bytes tell: what a decoder may ask instead. -/
theorem dec_iff (b : List UInt8) : decOk b ↔ 36 ≤ b.length ∧ RightL (rawL b) ∧ numL (pc b 35 1) = b.length - 36 := by
  constructor
  · rintro ⟨h1, h2, h3⟩
    refine ⟨h1, h2, ?_⟩
    have hs : (b.drop 36).length ≤ 32 := h2.short
    rw [List.length_drop] at hs
    have h4 := enc_len (l := rawL b)
    rw [h3] at h4
    rw [h4, num_one, UInt8.toNat_ofNat', show (rawL b).client.length = b.length - 36 from List.length_drop]
    omega
  · rintro ⟨h1, h2, h3⟩
    refine ⟨h1, h2, enc_raw h1 ?_⟩
    rw [← h3]
    exact (one_pc b 35 (by omega)).symm
theorem dec_enc {l : LV} (h : RightL l) (ha : l.addr < 4294967296) : decL (encL l) = (l, 0) := by
  have e := raw_enc h ha
  unfold decL
  rw [if_pos, e]
  exact ⟨by rw [encL_length]; omega, by rw [e]; exact h, by rw [e]⟩
theorem dec_addr (b : List UInt8) : (rawL b).addr < 4294967296 := by
  have h := numL_lt (pc b 0 4)
  have h2 : (pc b 0 4).length ≤ 4 := by unfold pc; rw [List.length_take]; omega
  have h3 : 256 ^ (pc b 0 4).length ≤ 256 ^ 4 := Nat.pow_le_pow_right (by omega) h2
  show numL (pc b 0 4) < _
  omega
end Go.Proofs.YtmaohnbddlccdaaGreat
end

/- Leases in memory: how a lease lies, its box, two of them compared. -/
section
namespace Go.Proofs.YtmaohnbddlccdaaGreat
open Go.RowKit Go.Sort

/-- Its client, as a text. -/
def LV.cb (m : LV) : ByteArray := ⟨m.client.toArray⟩
theorem LV.cb_size (m : LV) : m.cb.size = m.client.length := by simp [LV.cb, ByteArray.size]
theorem LV.cb_data (m : LV) : m.cb.data.toList = m.client := by simp [LV.cb]
theorem LV.cb_eq (a b : LV) : a.cb = b.cb ↔ a.client = b.client := by
  constructor
  · intro h; rw [← a.cb_data, h, b.cb_data]
  · intro h; unfold LV.cb; rw [h]
abbrev LV.cells (m : LV) : Array Value := #[.int .u32 (m.addr : Int), .int .i64 m.bind, .string m.cb, .int .i64 m.unt, .int .i64 m.acked, .int .i64 m.told, .int .i64 m.at_, .int .i64 m.ver]
abbrev LV.v (m : LV) : Value := .agg m.cells
/-- A lease's cells in a block of their own. -/
abbrev lbox (m : LV) : Obj := .cells m.cells 42

/-- Block g is the lease's box. -/
def LBox (w : World) (g : Nat) (m : LV) : Prop := w.heap[g]? = some (.cells m.cells 42 (0, 0))

section
variable {w w' : World} {g : Nat} {m : LV}
theorem LBox.new (w : World) (m : LV) : LBox (w.alloc (lbox m)) w.heap.size m := heap_alloc_new w _
theorem LBox.lt (h : LBox w g m) : g < w.heap.size := (Array.getElem?_eq_some_iff.1 h).1
theorem LBox.below (h : LBox w g m) {B : Nat} (hb : Below B w w') (hg : g < B) : LBox w' g m := (hb.block g hg).trans h
theorem LBox.later (h : LBox w g m) (hb : Below w.heap.size w w') : LBox w' g m := h.below hb h.lt
theorem LBox.alloc (h : LBox w g m) (o : Obj) : LBox (w.alloc o) g m := h.later ((Below.refl _ _).alloc (Nat.le_refl _) o)
theorem LBox.other (h : LBox w g m) {a : Addr} (ha : g ≠ a.block) (v : Value) : LBox (w.setCell a v) g m := (Below.heap_setCell w a v g ha).trans h
theorem LBox.drew (h : LBox w g m) : LBox w.drew g m := h
theorem LBox.grown (h : LBox w g m) {row : Option Nat} (hg : w.grownBy w' row) (hr : row ≠ some g) : LBox w' g m := (hg.block g h.lt (fun e => hr e.symm)).trans h
theorem LBox.at_ (h : LBox w g m) (i : Nat) : w.cell? ⟨g, i, none⟩ = m.cells[i]? := cell_of_row w g i _ _ _ h
theorem LBox.c0 (h : LBox w g m) : w.cell? ⟨g, 0, none⟩ = some (.int .u32 (m.addr : Int)) := h.at_ 0
theorem LBox.c1 (h : LBox w g m) : w.cell? ⟨g, 1, none⟩ = some (.int .i64 m.bind) := h.at_ 1
theorem LBox.c2 (h : LBox w g m) : w.cell? ⟨g, 2, none⟩ = some (.string m.cb) := h.at_ 2
theorem LBox.c3 (h : LBox w g m) : w.cell? ⟨g, 3, none⟩ = some (.int .i64 m.unt) := h.at_ 3
theorem LBox.c4 (h : LBox w g m) : w.cell? ⟨g, 4, none⟩ = some (.int .i64 m.acked) := h.at_ 4
theorem LBox.c5 (h : LBox w g m) : w.cell? ⟨g, 5, none⟩ = some (.int .i64 m.told) := h.at_ 5
theorem LBox.c6 (h : LBox w g m) : w.cell? ⟨g, 6, none⟩ = some (.int .i64 m.at_) := h.at_ 6
theorem LBox.c7 (h : LBox w g m) : w.cell? ⟨g, 7, none⟩ = some (.int .i64 m.ver) := h.at_ 7
theorem LBox.all (h : LBox w g m) : w.cell? ⟨g, 0, none⟩ = some (.int .u32 (m.addr : Int)) ∧ w.cell? ⟨g, 1, none⟩ = some (.int .i64 m.bind) ∧ w.cell? ⟨g, 2, none⟩ = some (.string m.cb) ∧ w.cell? ⟨g, 3, none⟩ = some (.int .i64 m.unt) ∧ w.cell? ⟨g, 4, none⟩ = some (.int .i64 m.acked) ∧ w.cell? ⟨g, 5, none⟩ = some (.int .i64 m.told) ∧ w.cell? ⟨g, 6, none⟩ = some (.int .i64 m.at_) ∧ w.cell? ⟨g, 7, none⟩ = some (.int .i64 m.ver) :=
  ⟨h.c0, h.c1, h.c2, h.c3, h.c4, h.c5, h.c6, h.c7⟩
theorem LBox.free (h : LBox w g m) (i : Nat) : w.frozen? ⟨g, i, none⟩ = false := by
  simp [World.frozen?, (show w.heap[g]? = _ from h)]
theorem LBox.allF (h : LBox w g m) : w.frozen? ⟨g, 0, none⟩ = false ∧ w.frozen? ⟨g, 1, none⟩ = false ∧ w.frozen? ⟨g, 2, none⟩ = false ∧ w.frozen? ⟨g, 3, none⟩ = false ∧ w.frozen? ⟨g, 4, none⟩ = false ∧ w.frozen? ⟨g, 5, none⟩ = false ∧ w.frozen? ⟨g, 6, none⟩ = false ∧ w.frozen? ⟨g, 7, none⟩ = false := ⟨h.free 0, h.free 1, h.free 2, h.free 3, h.free 4, h.free 5, h.free 6, h.free 7⟩
theorem LBox.allR (h : LBox w g m) : (∀ (d : Nat) (os : Array Obj), (grow (redrawn w d) os).cell? ⟨g, 0, none⟩ = some (.int .u32 (m.addr : Int))) ∧ (∀ (d : Nat) (os : Array Obj), (grow (redrawn w d) os).cell? ⟨g, 1, none⟩ = some (.int .i64 m.bind)) ∧ (∀ (d : Nat) (os : Array Obj), (grow (redrawn w d) os).cell? ⟨g, 2, none⟩ = some (.string m.cb)) ∧ (∀ (d : Nat) (os : Array Obj), (grow (redrawn w d) os).cell? ⟨g, 3, none⟩ = some (.int .i64 m.unt)) ∧ (∀ (d : Nat) (os : Array Obj), (grow (redrawn w d) os).cell? ⟨g, 4, none⟩ = some (.int .i64 m.acked)) ∧ (∀ (d : Nat) (os : Array Obj), (grow (redrawn w d) os).cell? ⟨g, 5, none⟩ = some (.int .i64 m.told)) ∧ (∀ (d : Nat) (os : Array Obj), (grow (redrawn w d) os).cell? ⟨g, 6, none⟩ = some (.int .i64 m.at_)) ∧ (∀ (d : Nat) (os : Array Obj), (grow (redrawn w d) os).cell? ⟨g, 7, none⟩ = some (.int .i64 m.ver)) :=
  ⟨cell_regrown h.c0, cell_regrown h.c1, cell_regrown h.c2, cell_regrown h.c3, cell_regrown h.c4, cell_regrown h.c5, cell_regrown h.c6, cell_regrown h.c7⟩
/-- One cell is stored. -/
theorem LBox.store {m' : LV} (h : LBox w g m) (i : Nat) (u : Value) (hu : m.cells.setIfInBounds i u = m'.cells) : LBox (w.setCell ⟨g, i, none⟩ u) g m' := by
  unfold LBox at h ⊢
  rw [← hu]
  show (w.heap.modify g _)[g]? = _
  rw [Array.getElem?_modify, if_pos rfl, h]
  rfl
end

/-- A lease is laid into a box, cell by cell. -/
def storeL (W : World) (g : Nat) (q : LV) : World :=
  ((((((((W.setCell ⟨g, 0, none⟩ (.int .u32 (q.addr : Int))).setCell ⟨g, 1, none⟩ (.int .i64 q.bind)).setCell ⟨g, 2, none⟩ (.string q.cb)).setCell ⟨g, 3, none⟩ (.int .i64 q.unt)).setCell ⟨g, 4, none⟩ (.int .i64 q.acked)).setCell ⟨g, 5, none⟩ (.int .i64 q.told)).setCell ⟨g, 6, none⟩ (.int .i64 q.at_)).setCell ⟨g, 7, none⟩ (.int .i64 q.ver))
theorem storeL_box {W : World} {g : Nat} {m : LV} (h : LBox W g m) (q : LV) : LBox (storeL W g q) g q := by
  unfold storeL
  exact ((((((((h.store (m' := { m with addr := q.addr }) 0 (.int .u32 (q.addr : Int)) rfl).store (m' := { m with addr := q.addr, bind := q.bind }) 1 (.int .i64 q.bind) rfl).store (m' := { m with addr := q.addr, bind := q.bind, client := q.client }) 2 (.string q.cb) rfl).store (m' := { m with addr := q.addr, bind := q.bind, client := q.client, unt := q.unt }) 3 (.int .i64 q.unt) rfl).store (m' := { m with addr := q.addr, bind := q.bind, client := q.client, unt := q.unt, acked := q.acked }) 4 (.int .i64 q.acked) rfl).store (m' := { m with addr := q.addr, bind := q.bind, client := q.client, unt := q.unt, acked := q.acked, told := q.told }) 5 (.int .i64 q.told) rfl).store (m' := { m with addr := q.addr, bind := q.bind, client := q.client, unt := q.unt, acked := q.acked, told := q.told, at_ := q.at_ }) 6 (.int .i64 q.at_) rfl).store (m' := { m with addr := q.addr, bind := q.bind, client := q.client, unt := q.unt, acked := q.acked, told := q.told, at_ := q.at_, ver := q.ver }) 7 (.int .i64 q.ver) rfl)
theorem storeL_low (W : World) (B g : Nat) (hg : B ≤ g) (q : LV) : Below B W (storeL W g q) := by
  unfold storeL
  exact (((((((((Below.refl B W).setCell (p := ⟨g, 0, none⟩) hg _).setCell (p := ⟨g, 1, none⟩) hg _).setCell (p := ⟨g, 2, none⟩) hg _).setCell (p := ⟨g, 3, none⟩) hg _).setCell (p := ⟨g, 4, none⟩) hg _).setCell (p := ⟨g, 5, none⟩) hg _).setCell (p := ⟨g, 6, none⟩) hg _).setCell (p := ⟨g, 7, none⟩) hg _)

theorem Tryz.guardL : Tryz.prog.eqGuardType Tryz.prog.depth 42 = false := by kernel_rfl
theorem Tryz.heldL : Tryz.prog.stoodInHeld 42 = false := by kernel_rfl

theorem run_partP {P : Program} (t : TypeId) (cs : Array Value) (off : Nat) (v : Value) (W : World) {d : TypeDesc} (hd : P.underlying t = some d) (hn : d = .bool ∨ d = .string ∨ ∃ k, d = .int k) (hv : cs[off]? = some v) : (Go.part t cs off).run P W = .ok v W := by
  rcases hn with rfl | rfl | ⟨k, rfl⟩ <;> simp [Go.part, isAgg, run_underlying hd, hv]
theorem eq_step {P : Program} (d : Nat) (xs ys : Array Value) (f : Field) (fs : List Field) (W : World) {x y : Value} {r : Bool} (hn : f.name ≠ "_") (hx : (Go.part f.type xs f.offset).run P W = .ok x W) (hy : (Go.part f.type ys f.offset).run P W = .ok y W) (he : (Op.equalIn d f.type x y).run P W = .ok r W) :
    (Op.eqFields d xs ys (f :: fs)).run P W = if r = true then (Op.eqFields d xs ys fs).run P W else .ok false W := by
  simp only [Op.eqFields, if_pos hn, Sem.run_bind, hx, hy, he, Result.andThen_ok]
  cases r <;> simp [Sem.run_pure]
theorem eq_int {P : Program} {d : Nat} {xs ys : Array Value} {n : String} {t : TypeId} {o : Nat} {e : Bool} {tg pk : String} {bo : Nat} {fs : List Field} {W : World} {k k' : IntKind} {x y : Int} {r : Bool} (hn : n ≠ "_") (ht : P.underlying t = some (.int k')) (hx : xs[o]? = some (.int k x)) (hy : ys[o]? = some (.int k y)) (hr : (Op.eqFields (d + 1) xs ys fs).run P W = .ok r W) :
    (Op.eqFields (d + 1) xs ys (⟨n, t, o, e, tg, pk, bo⟩ :: fs)).run P W = .ok (decide (x = y) && r) W := by
  rw [eq_step (d + 1) xs ys _ fs W hn (run_partP _ _ _ _ _ ht (.inr (.inr ⟨_, rfl⟩)) hx) (run_partP _ _ _ _ _ ht (.inr (.inr ⟨_, rfl⟩)) hy) (run_equalIn_int W d t k k' x y ht), hr]
  by_cases h : x = y
  · subst h; simp
  · simp [h]
theorem eq_str {P : Program} {d : Nat} {xs ys : Array Value} {n : String} {t : TypeId} {o : Nat} {e : Bool} {tg pk : String} {bo : Nat} {fs : List Field} {W : World} {x y : ByteArray} {r : Bool} (hn : n ≠ "_") (ht : P.underlying t = some .string) (hx : xs[o]? = some (.string x)) (hy : ys[o]? = some (.string y)) (hr : (Op.eqFields (d + 1) xs ys fs).run P W = .ok r W) :
    (Op.eqFields (d + 1) xs ys (⟨n, t, o, e, tg, pk, bo⟩ :: fs)).run P W = .ok (decide (x = y) && r) W := by
  rw [eq_step (d + 1) xs ys _ fs W hn (run_partP _ _ _ _ _ ht (.inr (.inl rfl)) hx) (run_partP _ _ _ _ _ ht (.inr (.inl rfl)) hy) (run_equalIn_string W d t x y ht), hr]
  by_cases h : x = y
  · subst h; simp
  · have h' : ¬ (x.toList = y.toList) := fun e => h (by
      rw [ByteArray.toList_eq, ByteArray.toList_eq] at e
      exact ByteArray.ext (Array.toList_inj.1 e))
    simp [h, h']

def eqL (a0 : Int) (a1 : Int) (a2 : ByteArray) (a3 : Int) (a4 : Int) (a5 : Int) (a6 : Int) (a7 : Int) (b0 : Int) (b1 : Int) (b2 : ByteArray) (b3 : Int) (b4 : Int) (b5 : Int) (b6 : Int) (b7 : Int) : Bool := (decide (a0 = b0) && (decide (a1 = b1) && (decide (a2 = b2) && (decide (a3 = b3) && (decide (a4 = b4) && (decide (a5 = b5) && (decide (a6 = b6) && (decide (a7 = b7) && true))))))))
theorem eqL_of (a b : LV) : eqL (a.addr : Int) a.bind a.cb a.unt a.acked a.told a.at_ a.ver (b.addr : Int) b.bind b.cb b.unt b.acked b.told b.at_ b.ver = decide (a = b) := by
  unfold eqL
  have hc := LV.cb_eq a b
  simp only [hc]
  clear hc
  obtain ⟨a0, a1, a2, a3, a4, a5, a6, a7⟩ := a
  obtain ⟨b0, b1, b2, b3, b4, b5, b6, b7⟩ := b
  rw [Bool.eq_iff_iff]
  simp only [LV.mk.injEq, Int.ofNat_inj, Bool.and_eq_true, decide_eq_true_eq, and_true]
/-- Two leases are compared, cell by cell. -/
theorem run_eqL (a0 : Int) (a1 : Int) (a2 : ByteArray) (a3 : Int) (a4 : Int) (a5 : Int) (a6 : Int) (a7 : Int) (b0 : Int) (b1 : Int) (b2 : ByteArray) (b3 : Int) (b4 : Int) (b5 : Int) (b6 : Int) (b7 : Int) (W : World) : (Op.equalIn 10000 42 (.agg #[.int .u32 a0, .int .i64 a1, .string a2, .int .i64 a3, .int .i64 a4, .int .i64 a5, .int .i64 a6, .int .i64 a7]) (.agg #[.int .u32 b0, .int .i64 b1, .string b2, .int .i64 b3, .int .i64 b4, .int .i64 b5, .int .i64 b6, .int .i64 b7])).run Tryz.prog W = .ok (eqL a0 a1 a2 a3 a4 a5 a6 a7 b0 b1 b2 b3 b4 b5 b6 b7) W := by
  have hf : Tryz.prog.underlying 42 = some (.struct (Tryz.prog.fieldsOf 42)) := by
    simp only [Program.fieldsOf, Tryz.underlying42]
  rw [run_equalIn_struct _ 9999 _ _ _ hf Tryz.heldL]
  simp only [Program.fieldsOf, Tryz.underlying42]
  have hI := Tryz.underlying3
  unfold eqL
  refine eq_int (d := 9998) (by decide) Tryz.underlying23 rfl rfl ?_
  refine eq_int (d := 9998) (by decide) hI rfl rfl ?_
  refine eq_str (d := 9998) (by decide) Tryz.underlying9 rfl rfl ?_
  refine eq_int (d := 9998) (by decide) hI rfl rfl ?_
  refine eq_int (d := 9998) (by decide) hI rfl rfl ?_
  refine eq_int (d := 9998) (by decide) hI rfl rfl ?_
  refine eq_int (d := 9998) (by decide) hI rfl rfl ?_
  refine eq_int (d := 9998) (by decide) hI rfl rfl ?_
  simp only [Op.eqFields, Sem.run_pure]
theorem run_eqlL (a0 : Int) (a1 : Int) (a2 : ByteArray) (a3 : Int) (a4 : Int) (a5 : Int) (a6 : Int) (a7 : Int) (b0 : Int) (b1 : Int) (b2 : ByteArray) (b3 : Int) (b4 : Int) (b5 : Int) (b6 : Int) (b7 : Int) (W : World) : (binOp .eql 42 (.agg #[.int .u32 a0, .int .i64 a1, .string a2, .int .i64 a3, .int .i64 a4, .int .i64 a5, .int .i64 a6, .int .i64 a7]) (.agg #[.int .u32 b0, .int .i64 b1, .string b2, .int .i64 b3, .int .i64 b4, .int .i64 b5, .int .i64 b6, .int .i64 b7])).run Tryz.prog W = .ok (.bool (eqL a0 a1 a2 a3 a4 a5 a6 a7 b0 b1 b2 b3 b4 b5 b6 b7)) W := by
  rw [run_eql_struct, run_eqL]
  rfl
theorem run_neqL (a0 : Int) (a1 : Int) (a2 : ByteArray) (a3 : Int) (a4 : Int) (a5 : Int) (a6 : Int) (a7 : Int) (b0 : Int) (b1 : Int) (b2 : ByteArray) (b3 : Int) (b4 : Int) (b5 : Int) (b6 : Int) (b7 : Int) (W : World) : (binOp .neq 42 (.agg #[.int .u32 a0, .int .i64 a1, .string a2, .int .i64 a3, .int .i64 a4, .int .i64 a5, .int .i64 a6, .int .i64 a7]) (.agg #[.int .u32 b0, .int .i64 b1, .string b2, .int .i64 b3, .int .i64 b4, .int .i64 b5, .int .i64 b6, .int .i64 b7])).run Tryz.prog W = .ok (.bool (!eqL a0 a1 a2 a3 a4 a5 a6 a7 b0 b1 b2 b3 b4 b5 b6 b7)) W := by
  rw [run_neq_struct, run_eqL]
  rfl
theorem run_guardL (op : BinOp) (x y : Operand) (xs ys : Array Value) (W : World) : (eqGuard op 42 x y (.agg xs) (.agg ys)).run Tryz.prog W = .ok () W := run_eqGuard_agg W op _ x y xs ys Tryz.guardL
end Go.Proofs.YtmaohnbddlccdaaGreat
end

/- Leases: the two Bares, the document's time. -/
section
namespace Go.Proofs.YtmaohnbddlccdaaGreat
open Go.RowKit Go.Sort

theorem time_any (n : Int) (W : World) : Calls Tryz.prog 109 #[.int .i64 n] W fun e w' => e = .returned (.bool (decide (TimeL n))) ∧ W = w' := by
  unfold TimeL
  by_cases h : 0 ≤ n
  · have hd : decide (0 ≤ n) = true := decide_eq_true h
    go_enter Tryz.func109, Tryz.ntmps109
    go_wp2
    go_ret
    exact ⟨by simp [h], rfl⟩
  · have hd : decide (0 ≤ n) = false := decide_eq_false h
    have h' := Lib.hid h
    clear h
    go_enter Tryz.func109, Tryz.ntmps109
    go_wp2
    go_ret
    have h2 := h'.out
    rw [decide_eq_false (fun h : 0 ≤ n ∧ n ≤ 1099511627776 => absurd h.1 (by omega))]
    exact ⟨rfl, rfl⟩

theorem bare_end {w W : World} {g : Nat} {q : LV} {t : Array Value} (hz : LBox W g zeroL) (hB : Below w.heap.size w W) (hg : w.heap.size ≤ g) (h2 : t[6]?.getD undef = .pointer (some ⟨g, 0, none⟩)) :
    bodyPost Tryz.prog Tryz.f62 (fun e w' => e = .returned q.v ∧ Below w.heap.size w w') .ret { tmps := t, defers := [] } (storeL W g q) := by
  refine bodyPost_ret (v := q.v) ?_ ?_ ?_
  · obtain ⟨r0, r1, r2, r3, r4, r5, r6, r7⟩ := (storeL_box hz q).all
    simp [results, Tryz.f62, go_sem, h2, r0, r1, r2, r3, r4, r5, r6, r7]
  · rfl
  · exact ⟨rfl, hB.trans (storeL_low W _ g hg q)⟩
theorem rbare_end {w W : World} {g : Nat} {q : LV} {t : Array Value} (hz : LBox W g zeroL) (hB : Below w.heap.size w W) (hg : w.heap.size ≤ g) (h2 : t[6]?.getD undef = .pointer (some ⟨g, 0, none⟩)) :
    bodyPost Tryz.prog Tryz.f49 (fun e w' => e = .returned q.v ∧ Below w.heap.size w w') .ret { tmps := t, defers := [] } (storeL W g q) := by
  refine bodyPost_ret (v := q.v) ?_ ?_ ?_
  · obtain ⟨r0, r1, r2, r3, r4, r5, r6, r7⟩ := (storeL_box hz q).all
    simp [results, Tryz.f49, go_sem, h2, r0, r1, r2, r3, r4, r5, r6, r7]
  · rfl
  · exact ⟨rfl, hB.trans (storeL_low W _ g hg q)⟩

set_option maxRecDepth 100000 in
set_option maxHeartbeats 1000000 in
theorem bare_any (a : Nat) (b v : Int) (w : World) : Calls Tryz.prog 62 #[.int .u32 (a : Int), .int .i64 b, .int .i64 v] w fun e w' => e = .returned (bareL a b v).v ∧ Below w.heap.size w w' := by
  obtain ⟨w0, hw0⟩ : ∃ w0, w0 = w.alloc (.cells #[.int .u32 0, .int .i64 0, .string ⟨#[]⟩, .int .i64 0, .int .i64 0, .int .i64 0, .int .i64 0, .int .i64 0] 42) := ⟨_, rfl⟩
  have HZ : Hid (LBox w0 w.heap.size zeroL) := Lib.hid (by rw [hw0]; exact LBox.new w zeroL)
  have HB0 : Hid (Below w.heap.size w w0) := Lib.hid (by rw [hw0]; exact (Below.refl _ _).alloc (Nat.le_refl _) _)
  have HW0 := Lib.hid hw0
  clear hw0
  obtain ⟨z0, z1, z2, z3, z4, z5, z6, z7⟩ := HZ.out.all
  obtain ⟨f0, f1, f2, f3, f4, f5, f6, f7⟩ := HZ.out.allF
  go_enter Tryz.func62, Tryz.ntmps62
  go_upto_region 1 with fail
  rw [← HW0.out]
  go_wp2
  exact bare_end (q := bareL a b v) (W := w0) HZ.out HB0.out (Nat.le_refl _) rfl
set_option maxRecDepth 100000 in
set_option maxHeartbeats 1000000 in
theorem rbare_any (a : Nat) (b v : Int) (w : World) : Calls Tryz.prog 49 #[.int .u32 (a : Int), .int .i64 b, .int .i64 v] w fun e w' => e = .returned (bareL a b v).v ∧ Below w.heap.size w w' := by
  obtain ⟨w0, hw0⟩ : ∃ w0, w0 = w.alloc (.cells #[.int .u32 0, .int .i64 0, .string ⟨#[]⟩, .int .i64 0, .int .i64 0, .int .i64 0, .int .i64 0, .int .i64 0] 42) := ⟨_, rfl⟩
  have HZ : Hid (LBox w0 w.heap.size zeroL) := Lib.hid (by rw [hw0]; exact LBox.new w zeroL)
  have HB0 : Hid (Below w.heap.size w w0) := Lib.hid (by rw [hw0]; exact (Below.refl _ _).alloc (Nat.le_refl _) _)
  have HW0 := Lib.hid hw0
  clear hw0
  obtain ⟨z0, z1, z2, z3, z4, z5, z6, z7⟩ := HZ.out.all
  obtain ⟨f0, f1, f2, f3, f4, f5, f6, f7⟩ := HZ.out.allF
  go_enter Tryz.func49, Tryz.ntmps49
  go_upto_region 1 with fail
  rw [← HW0.out]
  go_wp2
  exact rbare_end (q := bareL a b v) (W := w0) HZ.out HB0.out (Nat.le_refl _) rfl
end Go.Proofs.YtmaohnbddlccdaaGreat
end

/- lessorref11.Right. -/
section
namespace Go.Proofs.YtmaohnbddlccdaaGreat
open Go.RowKit Go.Sort
set_option maxRecDepth 100000 in
set_option maxHeartbeats 2000000 in
theorem rright_low (m : LV) (w : World) (h : m.bind < 0) :
    Calls Tryz.prog 67 #[m.v] w fun e w' => e = .returned (.bool (decide (RightL m))) ∧ Below w.heap.size w w' := by
  have HR : Hid (decide (RightL m) = false) := Lib.hid (decide_eq_false fun r => by have := r.b0; omega)
  have hB : Below w.heap.size w (w.alloc (lbox m)) := (Below.refl _ _).alloc (Nat.le_refl _) _
  obtain ⟨c0, c1, c2, c3, c4, c5, c6, c7⟩ := (LBox.new w m).all
  have hd : decide (m.bind < 0) = true := decide_eq_true h
  clear h
  go_enter Tryz.func67, Tryz.ntmps67
  go_wp2_with (go_at_call 109; refine (time_any _ _).mono ?_; rintro e w' ⟨rfl, rfl⟩)
  go_ret
  rw [HR.out]
  exact ⟨rfl, hB⟩
set_option maxRecDepth 100000 in
set_option maxHeartbeats 2000000 in
theorem rright_high (m : LV) (w : World) (h0 : ¬ m.bind < 0) (h : 5 < m.bind) :
    Calls Tryz.prog 67 #[m.v] w fun e w' => e = .returned (.bool (decide (RightL m))) ∧ Below w.heap.size w w' := by
  have HR : Hid (decide (RightL m) = false) := Lib.hid (decide_eq_false fun r => by have := r.b1; omega)
  have hB : Below w.heap.size w (w.alloc (lbox m)) := (Below.refl _ _).alloc (Nat.le_refl _) _
  obtain ⟨c0, c1, c2, c3, c4, c5, c6, c7⟩ := (LBox.new w m).all
  have hd0 : decide (m.bind < 0) = false := decide_eq_false h0
  have hd : decide (5 < m.bind) = true := decide_eq_true h
  clear h h0
  go_enter Tryz.func67, Tryz.ntmps67
  go_wp2_with (go_at_call 109; refine (time_any _ _).mono ?_; rintro e w' ⟨rfl, rfl⟩)
  go_ret
  rw [HR.out]
  exact ⟨rfl, hB⟩
set_option maxRecDepth 100000 in
set_option maxHeartbeats 2000000 in
theorem rright_t0 (m : LV) (w : World) (h0 : ¬ m.bind < 0) (h1 : ¬ 5 < m.bind) (h : ¬ TimeL m.unt) :
    Calls Tryz.prog 67 #[m.v] w fun e w' => e = .returned (.bool (decide (RightL m))) ∧ Below w.heap.size w w' := by
  have HR : Hid (decide (RightL m) = false) := Lib.hid (decide_eq_false fun r => h r.unt)
  have hB : Below w.heap.size w (w.alloc (lbox m)) := (Below.refl _ _).alloc (Nat.le_refl _) _
  obtain ⟨c0, c1, c2, c3, c4, c5, c6, c7⟩ := (LBox.new w m).all
  have hd0 : decide (m.bind < 0) = false := decide_eq_false h0
  have hd1 : decide (5 < m.bind) = false := decide_eq_false h1
  have d0 : decide (TimeL m.unt) = false := decide_eq_false h
  clear h0 h1 h
  go_enter Tryz.func67, Tryz.ntmps67
  go_wp2_with (go_at_call 109; refine (time_any _ _).mono ?_; rintro e w' ⟨rfl, rfl⟩)
  go_ret
  rw [HR.out]
  exact ⟨rfl, hB⟩
set_option maxRecDepth 100000 in
set_option maxHeartbeats 2000000 in
theorem rright_t1 (m : LV) (w : World) (h0 : ¬ m.bind < 0) (h1 : ¬ 5 < m.bind) (t0 : TimeL m.unt) (h : ¬ TimeL m.acked) :
    Calls Tryz.prog 67 #[m.v] w fun e w' => e = .returned (.bool (decide (RightL m))) ∧ Below w.heap.size w w' := by
  have HR : Hid (decide (RightL m) = false) := Lib.hid (decide_eq_false fun r => h r.acked)
  have hB : Below w.heap.size w (w.alloc (lbox m)) := (Below.refl _ _).alloc (Nat.le_refl _) _
  obtain ⟨c0, c1, c2, c3, c4, c5, c6, c7⟩ := (LBox.new w m).all
  have hd0 : decide (m.bind < 0) = false := decide_eq_false h0
  have hd1 : decide (5 < m.bind) = false := decide_eq_false h1
  have d0 : decide (TimeL m.unt) = true := decide_eq_true t0
  have d1 : decide (TimeL m.acked) = false := decide_eq_false h
  clear h0 h1 h t0
  go_enter Tryz.func67, Tryz.ntmps67
  go_wp2_with (go_at_call 109; refine (time_any _ _).mono ?_; rintro e w' ⟨rfl, rfl⟩)
  go_ret
  rw [HR.out]
  exact ⟨rfl, hB⟩
set_option maxRecDepth 100000 in
set_option maxHeartbeats 2000000 in
theorem rright_t2 (m : LV) (w : World) (h0 : ¬ m.bind < 0) (h1 : ¬ 5 < m.bind) (t0 : TimeL m.unt) (t1 : TimeL m.acked) (h : ¬ TimeL m.told) :
    Calls Tryz.prog 67 #[m.v] w fun e w' => e = .returned (.bool (decide (RightL m))) ∧ Below w.heap.size w w' := by
  have HR : Hid (decide (RightL m) = false) := Lib.hid (decide_eq_false fun r => h r.told)
  have hB : Below w.heap.size w (w.alloc (lbox m)) := (Below.refl _ _).alloc (Nat.le_refl _) _
  obtain ⟨c0, c1, c2, c3, c4, c5, c6, c7⟩ := (LBox.new w m).all
  have hd0 : decide (m.bind < 0) = false := decide_eq_false h0
  have hd1 : decide (5 < m.bind) = false := decide_eq_false h1
  have d0 : decide (TimeL m.unt) = true := decide_eq_true t0
  have d1 : decide (TimeL m.acked) = true := decide_eq_true t1
  have d2 : decide (TimeL m.told) = false := decide_eq_false h
  clear h0 h1 h t0 t1
  go_enter Tryz.func67, Tryz.ntmps67
  go_wp2_with (go_at_call 109; refine (time_any _ _).mono ?_; rintro e w' ⟨rfl, rfl⟩)
  go_ret
  rw [HR.out]
  exact ⟨rfl, hB⟩
set_option maxRecDepth 100000 in
set_option maxHeartbeats 2000000 in
theorem rright_t3 (m : LV) (w : World) (h0 : ¬ m.bind < 0) (h1 : ¬ 5 < m.bind) (t0 : TimeL m.unt) (t1 : TimeL m.acked) (t2 : TimeL m.told) (h : ¬ TimeL m.at_) :
    Calls Tryz.prog 67 #[m.v] w fun e w' => e = .returned (.bool (decide (RightL m))) ∧ Below w.heap.size w w' := by
  have HR : Hid (decide (RightL m) = false) := Lib.hid (decide_eq_false fun r => h r.at_)
  have hB : Below w.heap.size w (w.alloc (lbox m)) := (Below.refl _ _).alloc (Nat.le_refl _) _
  obtain ⟨c0, c1, c2, c3, c4, c5, c6, c7⟩ := (LBox.new w m).all
  have hd0 : decide (m.bind < 0) = false := decide_eq_false h0
  have hd1 : decide (5 < m.bind) = false := decide_eq_false h1
  have d0 : decide (TimeL m.unt) = true := decide_eq_true t0
  have d1 : decide (TimeL m.acked) = true := decide_eq_true t1
  have d2 : decide (TimeL m.told) = true := decide_eq_true t2
  have d3 : decide (TimeL m.at_) = false := decide_eq_false h
  clear h0 h1 h t0 t1 t2
  go_enter Tryz.func67, Tryz.ntmps67
  go_wp2_with (go_at_call 109; refine (time_any _ _).mono ?_; rintro e w' ⟨rfl, rfl⟩)
  go_ret
  rw [HR.out]
  exact ⟨rfl, hB⟩
set_option maxRecDepth 100000 in
set_option maxHeartbeats 2000000 in
theorem rright_t4 (m : LV) (w : World) (h0 : ¬ m.bind < 0) (h1 : ¬ 5 < m.bind) (t0 : TimeL m.unt) (t1 : TimeL m.acked) (t2 : TimeL m.told) (t3 : TimeL m.at_) (h : ¬ TimeL m.ver) :
    Calls Tryz.prog 67 #[m.v] w fun e w' => e = .returned (.bool (decide (RightL m))) ∧ Below w.heap.size w w' := by
  have HR : Hid (decide (RightL m) = false) := Lib.hid (decide_eq_false fun r => h r.ver)
  have hB : Below w.heap.size w (w.alloc (lbox m)) := (Below.refl _ _).alloc (Nat.le_refl _) _
  obtain ⟨c0, c1, c2, c3, c4, c5, c6, c7⟩ := (LBox.new w m).all
  have hd0 : decide (m.bind < 0) = false := decide_eq_false h0
  have hd1 : decide (5 < m.bind) = false := decide_eq_false h1
  have d0 : decide (TimeL m.unt) = true := decide_eq_true t0
  have d1 : decide (TimeL m.acked) = true := decide_eq_true t1
  have d2 : decide (TimeL m.told) = true := decide_eq_true t2
  have d3 : decide (TimeL m.at_) = true := decide_eq_true t3
  have d4 : decide (TimeL m.ver) = false := decide_eq_false h
  clear h0 h1 h t0 t1 t2 t3
  go_enter Tryz.func67, Tryz.ntmps67
  go_wp2_with (go_at_call 109; refine (time_any _ _).mono ?_; rintro e w' ⟨rfl, rfl⟩)
  go_ret
  rw [HR.out]
  exact ⟨rfl, hB⟩
theorem cb_toList (m : LV) : m.cb.toList = m.client := by rw [ByteArray.toList_eq, m.cb_data]
theorem rright_eq_held {m : LV} (h0 : ¬ m.bind < 0) (h1 : ¬ 5 < m.bind) (t0 : TimeL m.unt) (t1 : TimeL m.acked) (t2 : TimeL m.told) (t3 : TimeL m.at_) (t4 : TimeL m.ver) (hh : HeldL m.bind) : decide (RightL m) = decide (1 ≤ m.client.length ∧ m.client.length ≤ 32) := by
  rw [decide_eq_decide]
  exact ⟨fun r => r.held hh, fun r => ⟨by omega, by omega, t0, t1, t2, t3, t4, fun _ => r, fun n => absurd hh n⟩⟩
theorem rright_eq_free {m : LV} (h0 : ¬ m.bind < 0) (h1 : ¬ 5 < m.bind) (t0 : TimeL m.unt) (t1 : TimeL m.acked) (t2 : TimeL m.told) (t3 : TimeL m.at_) (t4 : TimeL m.ver) (hh : ¬ HeldL m.bind) : decide (RightL m) = decide (m.client = [] ∧ m.unt = 0 ∧ m.acked = 0 ∧ m.told = 0 ∧ m.at_ = 0) := by
  rw [decide_eq_decide]
  exact ⟨fun r => r.bare hh, fun r => ⟨by omega, by omega, t0, t1, t2, t3, t4, fun n => absurd n hh, fun _ => r⟩⟩
set_option maxRecDepth 100000 in
set_option maxHeartbeats 2000000 in
theorem rright_held (m : LV) (w : World) (h0 : ¬ m.bind < 0) (h1 : ¬ 5 < m.bind) (t0 : TimeL m.unt) (t1 : TimeL m.acked) (t2 : TimeL m.told) (t3 : TimeL m.at_) (t4 : TimeL m.ver) (hh : HeldL m.bind) :
    Calls Tryz.prog 67 #[m.v] w fun e w' => e = .returned (.bool (decide (RightL m))) ∧ Below w.heap.size w w' := by
  have HR : Hid (decide (RightL m) = decide (1 ≤ m.client.length ∧ m.client.length ≤ 32)) := Lib.hid (rright_eq_held h0 h1 t0 t1 t2 t3 t4 hh)
  have hB : Below w.heap.size w (w.alloc (lbox m)) := (Below.refl _ _).alloc (Nat.le_refl _) _
  obtain ⟨c0, c1, c2, c3, c4, c5, c6, c7⟩ := (LBox.new w m).all
  have hd0 : decide (m.bind < 0) = false := decide_eq_false h0
  have hd1 : decide (5 < m.bind) = false := decide_eq_false h1
  have d0 : decide (TimeL m.unt) = true := decide_eq_true t0
  have d1 : decide (TimeL m.acked) = true := decide_eq_true t1
  have d2 : decide (TimeL m.told) = true := decide_eq_true t2
  have d3 : decide (TimeL m.at_) = true := decide_eq_true t3
  have d4 : decide (TimeL m.ver) = true := decide_eq_true t4
  clear h0 h1 t0 t1 t2 t3 t4
  have hcs := m.cb_size
  by_cases hl1 : 1 ≤ m.client.length
  · have hd : decide ((1 : Int) ≤ (m.cb.size : Int)) = true := by simp; omega
    have HF : Hid (decide (1 ≤ m.client.length ∧ m.client.length ≤ 32) = decide ((m.cb.size : Int) ≤ 32)) := Lib.hid (by rw [decide_eq_decide]; omega)
    rw [HF.out] at HR
    clear hl1 hcs
    rcases hh with hb | hb | hb
    · have b2 : (m.bind == 2) = true := by rw [hb]; rfl
      clear hb
      go_enter Tryz.func67, Tryz.ntmps67
      go_wp2_with (go_at_call 109; refine (time_any _ _).mono ?_; rintro e w' ⟨rfl, rfl⟩)
      go_ret
      rw [HR.out]
      exact ⟨rfl, hB⟩
    · have b2 : (m.bind == 2) = false := by rw [hb]; rfl
      have b3 : (m.bind == 3) = true := by rw [hb]; rfl
      clear hb
      go_enter Tryz.func67, Tryz.ntmps67
      go_wp2_with (go_at_call 109; refine (time_any _ _).mono ?_; rintro e w' ⟨rfl, rfl⟩)
      go_ret
      rw [HR.out]
      exact ⟨rfl, hB⟩
    · have b2 : (m.bind == 2) = false := by rw [hb]; rfl
      have b3 : (m.bind == 3) = false := by rw [hb]; rfl
      have b4 : (m.bind == 4) = true := by rw [hb]; rfl
      clear hb
      go_enter Tryz.func67, Tryz.ntmps67
      go_wp2_with (go_at_call 109; refine (time_any _ _).mono ?_; rintro e w' ⟨rfl, rfl⟩)
      go_ret
      rw [HR.out]
      exact ⟨rfl, hB⟩
  · have hd : decide ((1 : Int) ≤ (m.cb.size : Int)) = false := by simp; omega
    have HF : Hid (decide (1 ≤ m.client.length ∧ m.client.length ≤ 32) = false) := Lib.hid (decide_eq_false (fun h => hl1 h.1))
    rw [HF.out] at HR
    clear hl1 hcs
    rcases hh with hb | hb | hb
    · have b2 : (m.bind == 2) = true := by rw [hb]; rfl
      clear hb
      go_enter Tryz.func67, Tryz.ntmps67
      go_wp2_with (go_at_call 109; refine (time_any _ _).mono ?_; rintro e w' ⟨rfl, rfl⟩)
      go_ret
      rw [HR.out]
      exact ⟨rfl, hB⟩
    · have b2 : (m.bind == 2) = false := by rw [hb]; rfl
      have b3 : (m.bind == 3) = true := by rw [hb]; rfl
      clear hb
      go_enter Tryz.func67, Tryz.ntmps67
      go_wp2_with (go_at_call 109; refine (time_any _ _).mono ?_; rintro e w' ⟨rfl, rfl⟩)
      go_ret
      rw [HR.out]
      exact ⟨rfl, hB⟩
    · have b2 : (m.bind == 2) = false := by rw [hb]; rfl
      have b3 : (m.bind == 3) = false := by rw [hb]; rfl
      have b4 : (m.bind == 4) = true := by rw [hb]; rfl
      clear hb
      go_enter Tryz.func67, Tryz.ntmps67
      go_wp2_with (go_at_call 109; refine (time_any _ _).mono ?_; rintro e w' ⟨rfl, rfl⟩)
      go_ret
      rw [HR.out]
      exact ⟨rfl, hB⟩
set_option maxRecDepth 100000 in
set_option maxHeartbeats 2000000 in
theorem rright_free (m : LV) (w : World) (h0 : ¬ m.bind < 0) (h1 : ¬ 5 < m.bind) (t0 : TimeL m.unt) (t1 : TimeL m.acked) (t2 : TimeL m.told) (t3 : TimeL m.at_) (t4 : TimeL m.ver) (hh : ¬ HeldL m.bind) :
    Calls Tryz.prog 67 #[m.v] w fun e w' => e = .returned (.bool (decide (RightL m))) ∧ Below w.heap.size w w' := by
  have HR : Hid (decide (RightL m) = decide (m.client = [] ∧ m.unt = 0 ∧ m.acked = 0 ∧ m.told = 0 ∧ m.at_ = 0)) := Lib.hid (rright_eq_free h0 h1 t0 t1 t2 t3 t4 hh)
  have hB : Below w.heap.size w (w.alloc (lbox m)) := (Below.refl _ _).alloc (Nat.le_refl _) _
  obtain ⟨c0, c1, c2, c3, c4, c5, c6, c7⟩ := (LBox.new w m).all
  have hd0 : decide (m.bind < 0) = false := decide_eq_false h0
  have hd1 : decide (5 < m.bind) = false := decide_eq_false h1
  have d0 : decide (TimeL m.unt) = true := decide_eq_true t0
  have d1 : decide (TimeL m.acked) = true := decide_eq_true t1
  have d2 : decide (TimeL m.told) = true := decide_eq_true t2
  have d3 : decide (TimeL m.at_) = true := decide_eq_true t3
  have d4 : decide (TimeL m.ver) = true := decide_eq_true t4
  clear h0 h1 t0 t1 t2 t3 t4
  have b2 : (m.bind == 2) = false := by unfold HeldL at hh; simp; omega
  have b3 : (m.bind == 3) = false := by unfold HeldL at hh; simp; omega
  have b4 : (m.bind == 4) = false := by unfold HeldL at hh; simp; omega
  clear hh
  by_cases e0 : m.client = []
  rotate_left
  · have s0 : (m.cb.toList == []) = false := by rw [cb_toList]; simpa using e0
    rw [show decide (m.client = [] ∧ m.unt = 0 ∧ m.acked = 0 ∧ m.told = 0 ∧ m.at_ = 0) = false from decide_eq_false fun h => e0 h.1] at HR
    clear e0
    go_enter Tryz.func67, Tryz.ntmps67
    go_wp2_with (go_at_call 109; refine (time_any _ _).mono ?_; rintro e w' ⟨rfl, rfl⟩)
    go_ret
    rw [HR.out]
    exact ⟨rfl, hB⟩
  have s0 : (m.cb.toList == []) = true := by rw [cb_toList]; simpa using e0
  by_cases e1 : m.unt = 0
  rotate_left
  · have s1 : (m.unt == 0) = false := by simpa using e1
    rw [show decide (m.client = [] ∧ m.unt = 0 ∧ m.acked = 0 ∧ m.told = 0 ∧ m.at_ = 0) = false from decide_eq_false fun h => e1 h.2.1] at HR
    clear e0 e1
    go_enter Tryz.func67, Tryz.ntmps67
    go_wp2_with (go_at_call 109; refine (time_any _ _).mono ?_; rintro e w' ⟨rfl, rfl⟩)
    go_ret
    rw [HR.out]
    exact ⟨rfl, hB⟩
  have s1 : (m.unt == 0) = true := by simpa using e1
  by_cases e2 : m.acked = 0
  rotate_left
  · have s2 : (m.acked == 0) = false := by simpa using e2
    rw [show decide (m.client = [] ∧ m.unt = 0 ∧ m.acked = 0 ∧ m.told = 0 ∧ m.at_ = 0) = false from decide_eq_false fun h => e2 h.2.2.1] at HR
    clear e0 e1 e2
    go_enter Tryz.func67, Tryz.ntmps67
    go_wp2_with (go_at_call 109; refine (time_any _ _).mono ?_; rintro e w' ⟨rfl, rfl⟩)
    go_ret
    rw [HR.out]
    exact ⟨rfl, hB⟩
  have s2 : (m.acked == 0) = true := by simpa using e2
  by_cases e3 : m.told = 0
  rotate_left
  · have s3 : (m.told == 0) = false := by simpa using e3
    rw [show decide (m.client = [] ∧ m.unt = 0 ∧ m.acked = 0 ∧ m.told = 0 ∧ m.at_ = 0) = false from decide_eq_false fun h => e3 h.2.2.2.1] at HR
    clear e0 e1 e2 e3
    go_enter Tryz.func67, Tryz.ntmps67
    go_wp2_with (go_at_call 109; refine (time_any _ _).mono ?_; rintro e w' ⟨rfl, rfl⟩)
    go_ret
    rw [HR.out]
    exact ⟨rfl, hB⟩
  have s3 : (m.told == 0) = true := by simpa using e3
  by_cases e4 : m.at_ = 0
  rotate_left
  · have s4 : (m.at_ == 0) = false := by simpa using e4
    rw [show decide (m.client = [] ∧ m.unt = 0 ∧ m.acked = 0 ∧ m.told = 0 ∧ m.at_ = 0) = false from decide_eq_false fun h => e4 h.2.2.2.2] at HR
    clear e0 e1 e2 e3 e4
    go_enter Tryz.func67, Tryz.ntmps67
    go_wp2_with (go_at_call 109; refine (time_any _ _).mono ?_; rintro e w' ⟨rfl, rfl⟩)
    go_ret
    rw [HR.out]
    exact ⟨rfl, hB⟩
  have s4 : (m.at_ == 0) = true := by simpa using e4
  rw [show decide (m.client = [] ∧ m.unt = 0 ∧ m.acked = 0 ∧ m.told = 0 ∧ m.at_ = 0) = true from decide_eq_true ⟨e0, e1, e2, e3, e4⟩] at HR
  clear e0 e1 e2 e3 e4
  go_enter Tryz.func67, Tryz.ntmps67
  go_wp2_with (go_at_call 109; refine (time_any _ _).mono ?_; rintro e w' ⟨rfl, rfl⟩)
  go_ret
  rw [HR.out]
  exact ⟨rfl, hB⟩
theorem rright_any (m : LV) (w : World) :
    Calls Tryz.prog 67 #[m.v] w fun e w' => e = .returned (.bool (decide (RightL m))) ∧ Below w.heap.size w w' := by
  by_cases h0 : m.bind < 0
  · exact rright_low m w h0
  by_cases h1 : 5 < m.bind
  · exact rright_high m w h0 h1
  by_cases t0 : TimeL m.unt
  rotate_left
  · exact rright_t0 m w h0 h1 t0
  by_cases t1 : TimeL m.acked
  rotate_left
  · exact rright_t1 m w h0 h1 t0 t1
  by_cases t2 : TimeL m.told
  rotate_left
  · exact rright_t2 m w h0 h1 t0 t1 t2
  by_cases t3 : TimeL m.at_
  rotate_left
  · exact rright_t3 m w h0 h1 t0 t1 t2 t3
  by_cases t4 : TimeL m.ver
  rotate_left
  · exact rright_t4 m w h0 h1 t0 t1 t2 t3 t4
  by_cases hh : HeldL m.bind
  · exact rright_held m w h0 h1 t0 t1 t2 t3 t4 hh
  · exact rright_free m w h0 h1 t0 t1 t2 t3 t4 hh
end Go.Proofs.YtmaohnbddlccdaaGreat
end

/- lease.times, lease.Right. -/
section
namespace Go.Proofs.YtmaohnbddlccdaaGreat
open Go.RowKit Go.Sort
attribute [local go_sem ↓] run_eqlL run_neqL run_guardL

abbrev tptr (g i : Nat) : Value := .pointer (some ⟨g, i, none⟩)
/-- Where a lease's four times and its Ver lie. -/
abbrev timesV (g : Nat) : Value := .agg #[tptr g 3, tptr g 4, tptr g 5, tptr g 6, tptr g 7]

set_option maxRecDepth 100000 in
set_option maxHeartbeats 1000000 in
theorem times_any (g : Nat) (w : World) : Calls Tryz.prog 108 #[.pointer (some ⟨g, 0, none⟩)] w fun e w' => e = .returned (timesV g) ∧ Below w.heap.size w w' := by
  go_enter Tryz.func108, Tryz.ntmps108
  go_upto_region 1 with fail
  go_region
  go_wp2
  refine bodyPost_ret (v := timesV g) ?_ ?_ ?_
  · simp [results, Tryz.f108, go_sem]
  · rfl
  · exact ⟨rfl, ((Below.refl _ w).alloc (Nat.le_refl _) _).drew⟩

theorem run_idx (cs : Array Value) (i : Nat) (u : Value) (h : i < 5) (hu : cs[i]? = some u) (W : World) : (Instr.index 141 (.agg cs) (.int .i64 (i : Int))).run Tryz.prog W = .ok u W := by
  obtain ⟨x, hx, hz⟩ := Option.map_eq_some_iff.1 (show (Tryz.prog.info? 140).map (fun i => i.size) = some 1 by kernel_rfl)
  have h6' : 0 ≤ (i : Int) ∧ (i : Int) < ((5 : Nat) : Int) := ⟨by omega, by omega⟩
  simp only [Instr.index, asIntOf, Sem.run_bind, Sem.run_pure, Result.andThen_ok, run_underlying Tryz.underlying141, if_pos h6', sizeOf, typeInfo, run_program, hx, hz]
  simp [Go.part, isAgg, run_underlying Tryz.underlying140, hu]

/-- The four times and Ver. -/
def T5 (m : LV) : List Int := [m.unt, m.acked, m.told, m.at_, m.ver]
theorem T5_at (m : LV) (j : Nat) (hj : j < 5) : ∃ t, (T5 m)[j]? = some t ∧ (∀ W g, LBox W g m → W.cell? ⟨g, 3 + j, none⟩ = some (.int .i64 t)) ∧ ∀ g W, (Instr.index 141 (timesV g) (.int .i64 (j : Int))).run Tryz.prog W = .ok (tptr g (3 + j)) W := by
  match j, hj with
  | 0, _ => exact ⟨m.unt, rfl, fun W g h => h.c3, fun g W => run_idx _ 0 _ (by omega) rfl W⟩
  | 1, _ => exact ⟨m.acked, rfl, fun W g h => h.c4, fun g W => run_idx _ 1 _ (by omega) rfl W⟩
  | 2, _ => exact ⟨m.told, rfl, fun W g h => h.c5, fun g W => run_idx _ 2 _ (by omega) rfl W⟩
  | 3, _ => exact ⟨m.at_, rfl, fun W g h => h.c6, fun g W => run_idx _ 3 _ (by omega) rfl W⟩
  | 4, _ => exact ⟨m.ver, rfl, fun W g h => h.c7, fun g W => run_idx _ 4 _ (by omega) rfl W⟩
theorem right_T5 {m : LV} (h : RightL m) : ∀ t ∈ T5 m, TimeL t := by
  intro t ht
  simp only [T5, List.mem_cons, List.not_mem_nil, or_false] at ht
  rcases ht with rfl | rfl | rfl | rfl | rfl
  · exact h.unt
  · exact h.acked
  · exact h.told
  · exact h.at_
  · exact h.ver
theorem right_bare {m : LV} (ht : ∀ t ∈ T5 m, TimeL t) (hb : m.bind = 0 ∨ m.bind = 1 ∨ m.bind = 5) : decide (m = bareL m.addr m.bind m.ver) = decide (RightL m) := by
  rw [decide_eq_decide]
  constructor
  · intro h
    rw [h]
    exact (bare_right _ _ _).2 ⟨hb, ht m.ver (by simp [T5])⟩
  · intro h
    have hn : ¬ HeldL m.bind := by unfold HeldL; omega
    obtain ⟨h1, h2, h3, h4, h5⟩ := h.bare hn
    obtain ⟨a, b, cl, u, ac, to_, at_, ve⟩ := m
    simp only at h1 h2 h3 h4 h5
    subst h1 h2 h3 h4 h5
    rfl
theorem right_held {m : LV} (ht : ∀ t ∈ T5 m, TimeL t) (hb : m.bind = 2 ∨ m.bind = 3 ∨ m.bind = 4) : decide (RightL m) = decide (1 ≤ m.client.length ∧ m.client.length ≤ 32) := by
  rw [decide_eq_decide]
  have hh : HeldL m.bind := hb
  constructor
  · intro h; exact h.held hh
  · intro h
    exact ⟨by omega, by omega, ht _ (by simp [T5]), ht _ (by simp [T5]), ht _ (by simp [T5]), ht _ (by simp [T5]), ht _ (by simp [T5]), fun _ => h, fun hn => absurd hh hn⟩
theorem right_other {m : LV} (hb : ¬ (m.bind = 0 ∨ m.bind = 1 ∨ m.bind = 2 ∨ m.bind = 3 ∨ m.bind = 4 ∨ m.bind = 5)) : decide (RightL m) = false := by
  rw [decide_eq_false_iff_not]
  intro h
  have := h.b0
  have := h.b1
  omega

set_option maxRecDepth 100000 in
set_option maxHeartbeats 4000000 in
theorem right_any (m : LV) (w : World) :
    Calls Tryz.prog 66 #[m.v] w fun e w' => e = .returned (.bool (decide (RightL m))) ∧ Below w.heap.size w w' := by
  obtain ⟨w0, hw0⟩ : ∃ w0, w0 = w.alloc (lbox m) := ⟨_, rfl⟩
  have HX : Hid (LBox w0 w.heap.size m) := Lib.hid (by rw [hw0]; exact LBox.new w m)
  have HB0 : Hid (Below w.heap.size w w0) := Lib.hid (by rw [hw0]; exact (Below.refl _ _).alloc (Nat.le_refl _) _)
  have HW0 := Lib.hid hw0
  clear hw0
  go_enter Tryz.func66, Tryz.ntmps66
  go_wp2_with fail
  rw [← HW0.out]
  refine (times_any _ _).mono ?_
  rintro e w1 ⟨rfl, hB1⟩
  have HX1 := Lib.hid (HX.out.later hB1)
  have HB1 := Lib.hid (HB0.out.trans (hB1.mono HB0.out.size))
  clear hB1
  go_wp2
  go_loop [4, 6] (fun _ i => ∃ j : Nat, j ≤ 5 ∧ i = .int .i64 j ∧ Hid (∀ t ∈ (T5 m).take j, TimeL t)) (fun _ i => 5 - (intOf i).toNat)
  case atStart => exact ⟨0, Nat.zero_le _, rfl, Lib.hid (by simp)⟩
  case round =>
    obtain ⟨j, hj, rfl, HT⟩ := hrel
    by_cases hlt : j < 5
    · obtain ⟨t, htj, hcell, hidx⟩ := T5_at m j hlt
      have ct := hcell w1 w.heap.size HX1.out
      have hix := hidx w.heap.size
      have HTJ := Lib.hid htj
      clear htj hcell hidx
      by_cases h0 : t < 0
      · have hd : decide (t < 0) = true := decide_eq_true h0
        have HR : Hid (decide (RightL m) = false) := Lib.hid (decide_eq_false fun h => by have := (right_T5 h t (List.mem_of_getElem? HTJ.out)).1; omega)
        go_wp2
        go_ret
        rw [HR.out]
        exact ⟨rfl, HB1.out⟩
      · have hd : decide (t < 0) = false := decide_eq_false h0
        by_cases h1 : 1099511627776 < t
        · have hd1 : decide (1099511627776 < t) = true := decide_eq_true h1
          have HR : Hid (decide (RightL m) = false) := Lib.hid (decide_eq_false fun h => by have := (right_T5 h t (List.mem_of_getElem? HTJ.out)).2; omega)
          clear h0 h1
          go_wp2
          go_ret
          rw [HR.out]
          exact ⟨rfl, HB1.out⟩
        · have hd1 : decide (1099511627776 < t) = false := decide_eq_false h1
          have HN : Hid (∀ t ∈ (T5 m).take (j + 1), TimeL t) := Lib.hid (by
            intro t' ht'
            rw [take_snoc_of _ _ _ HTJ.out, List.mem_append, List.mem_singleton] at ht'
            rcases ht' with h | rfl
            · exact HT.out _ h
            · exact ⟨by omega, by omega⟩)
          clear h0 h1
          go_wp2
          go_round
          case rel => exact ⟨j + 1, by omega, by go_num, HN⟩
          case measure => simp [intOf]; omega
    · obtain rfl : j = 5 := by omega
      have HT5 : Hid (∀ t ∈ T5 m, TimeL t) := HT
      have hcs : (m.cb.size : Int) = (m.client.length : Int) := by rw [m.cb_size]
      by_cases hb : m.bind = 0 ∨ m.bind = 1 ∨ m.bind = 5
      · have HR := Lib.hid (right_bare HT5.out hb)
        obtain ⟨q, hq⟩ : ∃ q, q = bareL m.addr m.bind m.ver := ⟨_, rfl⟩
        have CB : Hid (∀ d os, _) := Lib.hid (fun d os => Calls.regrown_of (show Calls Tryz.prog 62 #[.int .u32 (m.addr : Int), .int .i64 m.bind, .int .i64 m.ver] (grow (redrawn w1 d) os) fun e w' => e = .returned q.v ∧ Below (grow (redrawn w1 d) os).heap.size (grow (redrawn w1 d) os) w' by rw [hq]; exact bare_any m.addr m.bind m.ver (grow (redrawn w1 d) os)))
        rw [← hq] at HR
        have HQ := Lib.hid ((eqL_of m q).trans HR.out)
        have c1 := HX1.out.c1
        obtain ⟨k0, k1, k2, k3, k4, k5, k6, k7⟩ := HX1.out.allR
        clear hq
        rcases hb with hb | hb | hb
        rotate_left
        · have t0 : (m.bind == 0) = false := by rw [hb]; rfl
          have t1 : (m.bind == 1) = true := by rw [hb]; rfl
          clear hb
          go_wp2_with fail
          refine wp_region_quiet_below (by kernel_rfl) (by kernel_rfl) ?_
          repeat (quiet_step ((go_at_call 62; exact CB.out _ _)))
          refine wpQuiet_nil ?_
          intro _ hw'
          obtain ⟨⟨dq, osq⟩, hw''⟩ := hw'
          subst hw''
          go_wp2
          go_ret
          rw [HQ.out]
          exact ⟨rfl, HB1.out.trans ((below_regrown w1 dq osq).mono HB1.out.size)⟩
        · have t0 : (m.bind == 0) = false := by rw [hb]; rfl
          have t1 : (m.bind == 1) = false := by rw [hb]; rfl
          have t5 : (m.bind == 5) = true := by rw [hb]; rfl
          clear hb
          go_wp2_with fail
          refine wp_region_quiet_below (by kernel_rfl) (by kernel_rfl) ?_
          repeat (quiet_step ((go_at_call 62; exact CB.out _ _)))
          refine wpQuiet_nil ?_
          intro _ hw'
          obtain ⟨⟨dq, osq⟩, hw''⟩ := hw'
          subst hw''
          go_wp2
          go_ret
          rw [HQ.out]
          exact ⟨rfl, HB1.out.trans ((below_regrown w1 dq osq).mono HB1.out.size)⟩
        · have t0 : (m.bind == 0) = true := by rw [hb]; rfl
          clear hb
          go_wp2_with fail
          refine wp_region_quiet_below (by kernel_rfl) (by kernel_rfl) ?_
          repeat (quiet_step ((go_at_call 62; exact CB.out _ _)))
          refine wpQuiet_nil ?_
          intro _ hw'
          obtain ⟨⟨dq, osq⟩, hw''⟩ := hw'
          subst hw''
          go_wp2
          go_ret
          rw [HQ.out]
          exact ⟨rfl, HB1.out.trans ((below_regrown w1 dq osq).mono HB1.out.size)⟩
      · have t0 : (m.bind == 0) = false := by simp; omega
        have t1 : (m.bind == 1) = false := by simp; omega
        have t5 : (m.bind == 5) = false := by simp; omega
        by_cases hb2 : m.bind = 2 ∨ m.bind = 3 ∨ m.bind = 4
        · have HR := Lib.hid (right_held HT5.out hb2)
          have c1 := HX1.out.c1
          have c2 := HX1.out.c2
          by_cases hl1 : 1 ≤ m.client.length
          · have hd : decide ((1 : Int) ≤ (m.cb.size : Int)) = true := by simp; omega
            have HF : Hid (decide (1 ≤ m.client.length ∧ m.client.length ≤ 32) = decide ((m.cb.size : Int) ≤ 32)) := Lib.hid (by rw [decide_eq_decide]; omega)
            rcases hb2 with hb2 | hb2 | hb2
            · have t2 : (m.bind == 2) = true := by rw [hb2]; rfl
              clear hb hb2 hl1 hcs
              go_wp2
              go_ret
              rw [HR.out, HF.out]
              exact ⟨rfl, HB1.out⟩
            · have t2 : (m.bind == 2) = false := by rw [hb2]; rfl
              have t3 : (m.bind == 3) = true := by rw [hb2]; rfl
              clear hb hb2 hl1 hcs
              go_wp2
              go_ret
              rw [HR.out, HF.out]
              exact ⟨rfl, HB1.out⟩
            · have t2 : (m.bind == 2) = false := by rw [hb2]; rfl
              have t3 : (m.bind == 3) = false := by rw [hb2]; rfl
              have t4 : (m.bind == 4) = true := by rw [hb2]; rfl
              clear hb hb2 hl1 hcs
              go_wp2
              go_ret
              rw [HR.out, HF.out]
              exact ⟨rfl, HB1.out⟩
          · have hd : decide ((1 : Int) ≤ (m.cb.size : Int)) = false := by simp; omega
            have HF : Hid (decide (1 ≤ m.client.length ∧ m.client.length ≤ 32) = false) := Lib.hid (decide_eq_false (fun h => hl1 h.1))
            rcases hb2 with hb2 | hb2 | hb2
            · have t2 : (m.bind == 2) = true := by rw [hb2]; rfl
              clear hb hb2 hl1 hcs
              go_wp2
              go_ret
              rw [HR.out, HF.out]
              exact ⟨rfl, HB1.out⟩
            · have t2 : (m.bind == 2) = false := by rw [hb2]; rfl
              have t3 : (m.bind == 3) = true := by rw [hb2]; rfl
              clear hb hb2 hl1 hcs
              go_wp2
              go_ret
              rw [HR.out, HF.out]
              exact ⟨rfl, HB1.out⟩
            · have t2 : (m.bind == 2) = false := by rw [hb2]; rfl
              have t3 : (m.bind == 3) = false := by rw [hb2]; rfl
              have t4 : (m.bind == 4) = true := by rw [hb2]; rfl
              clear hb hb2 hl1 hcs
              go_wp2
              go_ret
              rw [HR.out, HF.out]
              exact ⟨rfl, HB1.out⟩
        · have HR := Lib.hid (right_other (m := m) (by omega))
          have t2 : (m.bind == 2) = false := by simp; omega
          have t3 : (m.bind == 3) = false := by simp; omega
          have t4 : (m.bind == 4) = false := by simp; omega
          have c1 := HX1.out.c1
          clear hb hb2
          go_wp2
          go_ret
          rw [HR.out]
          exact ⟨rfl, HB1.out⟩
end Go.Proofs.YtmaohnbddlccdaaGreat
end
