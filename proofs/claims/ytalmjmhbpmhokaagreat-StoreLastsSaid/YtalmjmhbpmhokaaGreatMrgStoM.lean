/- Joined texts: StoM, StoA. -/
import Derived.Test.YtalmjmhbpmhokaaGreatMrgTabN
import Derived.Test.YtalmjmhbpmhokaaGreatMrgWalP
import Derived.Test.YtalmjmhbpmhokaaGreatMrgStoP
import Derived.Test.YtalmjmhbpmhokaaGreatMrgLeaP
import Derived.Test.YtalmjmhbpmhokaaGreatMrgLeaD

/- Stores in memory: a store of either kind with its disk, its log, its table; what a call leaves alone (Way); how the parts change. -/
section
namespace Go.Proofs.YtalmjmhbpmhokaaGreat
open Go.RowKit Go.Sort

abbrev StT : TypeId := 79
abbrev StR : TypeId := 91
abbrev TabT : Type := World → (Nat → Prop) → Nat → List LV → Prop

/-- What is asked of a table of either kind: it is a table, and lies in the blocks that it names. -/
structure TFr (T : TabT) : Prop where
  tab : ∀ {w P g L}, T w P g L → TabL L
  few : ∀ {w P g L}, T w P g L → L.length ≤ 256
  w32 : ∀ {w P g L}, T w P g L → ∀ x ∈ L, x.addr < 4294967296
  lt : ∀ {w P g L}, T w P g L → ∀ k, P k → k < w.heap.size
  keep : ∀ {w w' P g L}, T w P g L → KpT P w w' → T w' P g L
theorem TabK.fr {T : TabT} (K : TabK T) : TFr T := ⟨K.tab, K.few, K.w32, K.lt, K.keep⟩

/-! ## What a call leaves alone -/
/-- A call changes the blocks Q alone, or what it makes; they are Q' then. -/
structure Way (Q : Nat → Prop) (w : World) (Q' : Nat → Prop) (w' : World) : Prop where
  oth : OthT Q w w'
  new : ∀ b, Q' b → Q b ∨ w.heap.size ≤ b
section
variable {Q Q' Q'' : Nat → Prop} {w w' w'' : World}
theorem OthT.trans' (h : OthT Q w w') (hn : ∀ b, Q' b → Q b ∨ w.heap.size ≤ b) (k : OthT Q' w' w'') : OthT Q w w'' :=
  ⟨k.os.trans h.os, k.tape.trans h.tape, k.output.trans h.output, Nat.le_trans h.size k.size, fun b hb hq => (k.block b (Nat.lt_of_lt_of_le hb h.size) (fun hq' => by
    rcases hn b hq' with h1 | h1
    · exact hq h1
    · omega)).trans (h.block b hb hq)⟩
theorem Way.trans (h : Way Q w Q' w') (k : Way Q' w' Q'' w'') : Way Q w Q'' w'' :=
  ⟨h.oth.trans' h.new k.oth, fun b hb => by
    rcases k.new b hb with h1 | h1
    · exact h.new b h1
    · exact .inr (Nat.le_trans h.oth.size h1)⟩
theorem OthT.of_low (h : Below w.heap.size w w') : OthT Q w w' := ⟨h.os, h.tape, h.output, h.size, fun b hb _ => h.block b hb⟩
theorem Way.of_below (h : Below w.heap.size w w') : Way Q w Q w' := ⟨OthT.of_low h, fun _ hb => .inl hb⟩
theorem Way.refl (Q : Nat → Prop) (w : World) : Way Q w Q w := Way.of_below (Below.refl _ _)
theorem Way.size (h : Way Q w Q' w') : w.heap.size ≤ w'.heap.size := h.oth.size
/-- All below is as it was, if the blocks lie above. -/
theorem Way.below {B : Nat} (h : Way Q w Q' w') (hB : B ≤ w.heap.size) (hQ : ∀ b, Q b → B ≤ b) : Below B w w' :=
  ⟨h.oth.os, h.oth.tape, h.oth.output, h.oth.size, fun b hb => h.oth.block b (Nat.lt_of_lt_of_le hb hB) (fun hq => by have := hQ b hq; omega)⟩
theorem Way.low {B : Nat} (h : Way Q w Q' w') (hB : B ≤ w.heap.size) (hQ : ∀ b, Q b → B ≤ b) : ∀ b, Q' b → B ≤ b := fun b hb => by
  rcases h.new b hb with h1 | h1
  · exact hQ b h1
  · omega
/-- What lies apart is kept, and stays apart. -/
theorem Way.kp {P : Nat → Prop} (h : Way Q w Q' w') (hP : ∀ b, P b → b < w.heap.size) (ha : ∀ b, P b → ¬ Q b) : KpT P w w' :=
  ⟨h.oth.os, h.oth.tape, h.oth.output, h.oth.size, fun b hb => h.oth.block b (hP b hb) (ha b hb)⟩
theorem Way.apart {P : Nat → Prop} (h : Way Q w Q' w') (hP : ∀ b, P b → b < w.heap.size) (ha : ∀ b, P b → ¬ Q b) : ∀ b, P b → ¬ Q' b := fun b hb hq => by
  rcases h.new b hq with h1 | h1
  · exact ha b hb h1
  · have := hP b hb; omega
theorem Way.wide {Q0 Q1 : Nat → Prop} (h : Way Q w Q' w') (h0 : ∀ b, Q b → Q0 b) (h1 : ∀ b, Q1 b → Q0 b ∨ w.heap.size ≤ b) : Way Q0 w Q1 w' :=
  ⟨⟨h.oth.os, h.oth.tape, h.oth.output, h.oth.size, fun b hb hq => h.oth.block b hb (fun hq' => hq (h0 b hq'))⟩, h1⟩
end

/-! ## A store -/
/-- A disk's blocks. -/
def DF (D : Nat) (v : Value) (b : Nat) : Prop := b = D ∨ v.ownBlock = some b
/-- A store's blocks, its disk's among them. -/
def SF (S L D : Nat) (v : Value) (P : Nat → Prop) (b : Nat) : Prop := b = S ∨ b = L ∨ DF D v b ∨ P b
theorem SF.disk {S L D : Nat} {v : Value} {P : Nat → Prop} {b : Nat} (h : DF D v b) : SF S L D v P b := .inr (.inr (.inl h))

/-- Block S is a store (of one of the two kinds): its log in block L on the disk D, its table in block g. -/
structure SAt (T : TabT) (sty lty ty : TypeId) (w : World) (P : Nat → Prop) (S L g D : Nat) (v : Value) (s : DS) (k : Kn) : Prop where
  d : DAt ty (D + 1) w D s v
  ok : s.Ok
  l : LAt lty w L D
  t : T w P g k.L
  box : w.heap[S]? = some (.cells #[ptr L, ptr g, .int .i64 k.st, .int .i64 k.lf] sty (0, 0))
  pD : ∀ b, P b → ¬ DF D v b
  pS : ¬ P S
  pL : ¬ P L
  sD : ¬ DF D v S
  lD : ¬ DF D v L
  sL : S ≠ L
  st : 0 ≤ k.st ∧ k.st ≤ 8
  lf : 0 ≤ k.lf ∧ k.lf ≤ 536870912

section
variable {T : TabT} {sty lty ty : TypeId} {w w' w1 : World} {P P' : Nat → Prop} {S L g D : Nat} {v v' : Value} {s s' : DS} {k k' : Kn}
theorem SAt.slt (h : SAt T sty lty ty w P S L g D v s k) : S < w.heap.size := (Array.getElem?_eq_some_iff.1 h.box).1
theorem SAt.c0 (h : SAt T sty lty ty w P S L g D v s k) : w.cell? ⟨S, 0, none⟩ = some (ptr L) := cell_of_row w S 0 _ _ _ h.box
theorem SAt.c1 (h : SAt T sty lty ty w P S L g D v s k) : w.cell? ⟨S, 1, none⟩ = some (ptr g) := cell_of_row w S 1 _ _ _ h.box
theorem SAt.c2 (h : SAt T sty lty ty w P S L g D v s k) : w.cell? ⟨S, 2, none⟩ = some (.int .i64 k.st) := cell_of_row w S 2 _ _ _ h.box
theorem SAt.c3 (h : SAt T sty lty ty w P S L g D v s k) : w.cell? ⟨S, 3, none⟩ = some (.int .i64 k.lf) := cell_of_row w S 3 _ _ _ h.box
theorem SAt.free (h : SAt T sty lty ty w P S L g D v s k) (i : Nat) : w.frozen? ⟨S, i, none⟩ = false := by
  simp [World.frozen?, h.box]
theorem SAt.lt (F : TFr T) (h : SAt T sty lty ty w P S L g D v s k) : ∀ b, SF S L D v P b → b < w.heap.size := by
  rintro b (rfl | rfl | (rfl | hb) | hb)
  · exact h.slt
  · exact h.l.lt
  · exact h.d.dlt
  · exact (h.d.ob b hb).2
  · exact F.lt h.t b hb
theorem SAt.keep (F : TFr T) (h : SAt T sty lty ty w P S L g D v s k) (hk : KpT (SF S L D v P) w w') : SAt T sty lty ty w' P S L g D v s k :=
  ⟨h.d.kp (P := SF S L D v P) ⟨hk.os, hk.tape, hk.output, hk.size, hk.block⟩ (.inr (.inr (.inl (.inl rfl)))) (fun _ hb => .inr (.inr (.inl (.inr hb)))), h.ok, (hk.block L (.inr (.inl rfl))).trans h.l,
    F.keep h.t ⟨hk.os, hk.tape, hk.output, hk.size, fun b hb => hk.block b (.inr (.inr (.inr hb)))⟩, (hk.block S (.inl rfl)).trans h.box, h.pD, h.pS, h.pL, h.sD, h.lD, h.sL, h.st, h.lf⟩
theorem SAt.later (F : TFr T) (h : SAt T sty lty ty w P S L g D v s k) (hb : Below w.heap.size w w') : SAt T sty lty ty w' P S L g D v s k :=
  h.keep F (KpT.of_below hb (h.lt F))
theorem SAt.oth (_ : SAt T sty lty ty w P S L g D v s k) {b : Nat} (hb : b < w.heap.size) (h1 : ¬ DF D v b) : Oth w D v b := ⟨hb, fun e => h1 (.inl e), fun e => h1 (.inr e)⟩

/-- A call upon the disk alone. -/
theorem did_way (hd : Did ty (D + 1) w D v w' s') : ∃ v', DAt ty (D + 1) w' D s' v' ∧ Way (DF D v) w (DF D v') w' := by
  obtain ⟨v', h1, h2, h3⟩ := hd
  refine ⟨v', h1, ⟨⟨h2.os, h2.tape, h2.output, h2.size, fun b hb hq => h2.block b ⟨hb, fun e => hq (.inl e), fun e => hq (.inr e)⟩⟩, ?_⟩⟩
  rintro b (rfl | hb)
  · exact .inl (.inl rfl)
  · rcases h3 b hb with e | e
    · exact .inl (.inr e)
    · exact .inr e
/-- The disk is changed by a call upon it. -/
theorem SAt.did (F : TFr T) (h : SAt T sty lty ty w P S L g D v s k) (hd : Did ty (D + 1) w D v w' s') (hok : s'.Ok) :
    ∃ v', SAt T sty lty ty w' P S L g D v' s' k ∧ Way (SF S L D v P) w (SF S L D v' P) w' := by
  obtain ⟨v', h1, hw⟩ := did_way hd
  have hP : KpT P w w' := hw.kp (F.lt h.t) h.pD
  have hS := hw.oth.block S h.slt h.sD
  have hL := hw.oth.block L h.l.lt h.lD
  refine ⟨v', ⟨h1, hok, hL.trans h.l, F.keep h.t hP, hS.trans h.box, hw.apart (F.lt h.t) h.pD, h.pS, h.pL, ?_, ?_, h.sL, h.st, h.lf⟩, hw.wide (fun _ hb => .inr (.inr (.inl hb))) ?_⟩
  · exact hw.apart (P := (· = S)) (fun b e => e ▸ h.slt) (fun b e => e ▸ h.sD) S rfl
  · exact hw.apart (P := (· = L)) (fun b e => e ▸ h.l.lt) (fun b e => e ▸ h.lD) L rfl
  · rintro b (e | e | e | e)
    · exact .inl (.inl e)
    · exact .inl (.inr (.inl e))
    · rcases hw.new b e with h2 | h2
      · exact .inl (.inr (.inr (.inl h2)))
      · exact .inr h2
    · exact .inl (.inr (.inr (.inr e)))
/-- The table is changed by a call upon it. -/
theorem SAt.tset (h : SAt T sty lty ty w P S L g D v s k) {M : List LV} (ht : T w' P' g M) (ho : OthT P w w') (hn : ∀ b, P' b → P b ∨ w.heap.size ≤ b) :
    SAt T sty lty ty w' P' S L g D v s { k with L := M } ∧ Way (SF S L D v P) w (SF S L D v P') w' := by
  have hw : Way P w P' w' := ⟨ho, hn⟩
  have hd : DAt ty (D + 1) w' D s v := h.d.kp (P := DF D v) ⟨ho.os, ho.tape, ho.output, ho.size, fun b hb => ho.block b (by
    rcases hb with rfl | hb
    · exact h.d.dlt
    · exact (h.d.ob b hb).2) (fun hp => h.pD b hp hb)⟩ (.inl rfl) (fun b hb => .inr hb)
  refine ⟨⟨hd, h.ok, (ho.block L h.l.lt h.pL).trans h.l, ht, (ho.block S h.slt h.pS).trans h.box, ?_, ?_, ?_, h.sD, h.lD, h.sL, h.st, h.lf⟩, hw.wide (fun _ hb => .inr (.inr (.inr hb))) ?_⟩
  · intro b hb hD
    rcases hn b hb with h1 | h1
    · exact h.pD b h1 hD
    · have : b < w.heap.size := by
        rcases hD with rfl | hD
        · exact h.d.dlt
        · exact (h.d.ob b hD).2
      omega
  · exact hw.apart (P := (· = S)) (fun b e => e ▸ h.slt) (fun b e => e ▸ h.pS) S rfl
  · exact hw.apart (P := (· = L)) (fun b e => e ▸ h.l.lt) (fun b e => e ▸ h.pL) L rfl
  · rintro b (e | e | e | e)
    · exact .inl (.inl e)
    · exact .inl (.inr (.inl e))
    · exact .inl (.inr (.inr (.inl e)))
    · rcases hn b e with h2 | h2
      · exact .inl (.inr (.inr (.inr h2)))
      · exact .inr h2
theorem way_set (w : World) {Q : Nat → Prop} (b i : Nat) (u : Value) (hQ : Q b) : Way Q w Q (w.setCell ⟨b, i, none⟩ u) :=
  ⟨⟨rfl, rfl, rfl, by rw [World.size_setCell]; exact Nat.le_refl _, fun k _ hk => Below.heap_setCell w ⟨b, i, none⟩ u k (fun e => hk (e ▸ hQ))⟩, fun _ h => .inl h⟩
theorem SAt.kset (F : TFr T) (h : SAt T sty lty ty w P S L g D v s k) (i : Nat) (u : Value) (hb : (w.setCell ⟨S, i, none⟩ u).heap[S]? = some (.cells #[ptr L, ptr g, .int .i64 k'.st, .int .i64 k'.lf] sty (0, 0))) (hL : k'.L = k.L) (h1 : 0 ≤ k'.st ∧ k'.st ≤ 8) (h2 : 0 ≤ k'.lf ∧ k'.lf ≤ 536870912) :
    SAt T sty lty ty (w.setCell ⟨S, i, none⟩ u) P S L g D v s k' := by
  have hk : ∀ b, b ≠ S → (w.setCell ⟨S, i, none⟩ u).heap[b]? = w.heap[b]? := fun b hb => Below.heap_setCell w ⟨S, i, none⟩ u b hb
  have hz : w.heap.size ≤ (w.setCell ⟨S, i, none⟩ u).heap.size := by rw [World.size_setCell]; exact Nat.le_refl _
  refine ⟨h.d.kp (P := DF D v) ⟨rfl, rfl, rfl, hz, fun b hb => hk b (fun e => h.sD (e ▸ hb))⟩ (.inl rfl) (fun b hb => .inr hb), h.ok, (hk L (fun e => h.sL e.symm)).trans h.l, ?_, hb, h.pD, h.pS, h.pL, h.sD, h.lD, h.sL, h1, h2⟩
  rw [hL]
  exact F.keep h.t ⟨rfl, rfl, rfl, hz, fun b hb => hk b (fun e => h.pS (e ▸ hb))⟩
/-- The state, or the life, is stored. -/
theorem SAt.set2 (F : TFr T) (h : SAt T sty lty ty w P S L g D v s k) (n : Int) (hn : 0 ≤ n ∧ n ≤ 8) : SAt T sty lty ty (w.setCell ⟨S, 2, none⟩ (.int .i64 n)) P S L g D v s { k with st := n } :=
  h.kset F 2 _ (heap_setCell_same w S 2 _ _ _ h.box) rfl hn h.lf
theorem SAt.set3 (F : TFr T) (h : SAt T sty lty ty w P S L g D v s k) (n : Int) (hn : 0 ≤ n ∧ n ≤ 536870912) : SAt T sty lty ty (w.setCell ⟨S, 3, none⟩ (.int .i64 n)) P S L g D v s { k with lf := n } :=
  h.kset F 3 _ (heap_setCell_same w S 3 _ _ _ h.box) rfl h.st hn
end

/-! ## What calls answer -/
/-- The disk's part, if the store is left. -/
def Dk (ty : TypeId) (w : World) (Q : Nat → Prop) (D : Nat) (s : DS) : Prop := ∃ v, DAt ty (D + 1) w D s v ∧ s.Ok ∧ Q = DF D v
/-- A store with its disk, in the blocks Q. -/
def Sd (T : TabT) (sty lty ty : TypeId) (w : World) (Q : Nat → Prop) (S D : Nat) (s : DS) (k : Kn) : Prop :=
  ∃ P L g v, SAt T sty lty ty w P S L g D v s k ∧ Q = SF S L D v P
/-- Behind a call: the store, where only its own blocks were changed. -/
def Upd (T : TabT) (sty lty ty : TypeId) (w : World) (Q : Nat → Prop) (S D : Nat) (w' : World) (s : DS) (k : Kn) : Prop :=
  ∃ Q', Sd T sty lty ty w' Q' S D s k ∧ Way Q w Q' w'
def UpdD (ty : TypeId) (w : World) (Q : Nat → Prop) (D : Nat) (w' : World) (s : DS) : Prop := ∃ Q', Dk ty w' Q' D s ∧ Way Q w Q' w'
/-- A call that answers an error. -/
def AnsS (T : TabT) (sty lty ty : TypeId) (w : World) (Q : Nat → Prop) (S D : Nat) (r : Int × DS × Kn) (e : Ending) (w' : World) : Prop :=
  e = .returned (.int .i64 r.1) ∧ Upd T sty lty ty w Q S D w' r.2.1 r.2.2

section
variable {T : TabT} {sty lty ty : TypeId} {w w' w1 : World} {Q Q' : Nat → Prop} {S D : Nat} {s s' : DS} {k k' : Kn}
theorem Sd.lt (F : TFr T) (h : Sd T sty lty ty w Q S D s k) : ∀ b, Q b → b < w.heap.size := by
  obtain ⟨P, L, g, v, h, rfl⟩ := h
  exact h.lt F
theorem Sd.keep (F : TFr T) (h : Sd T sty lty ty w Q S D s k) (hk : KpT Q w w') : Sd T sty lty ty w' Q S D s k := by
  obtain ⟨P, L, g, v, h, rfl⟩ := h
  exact ⟨P, L, g, v, h.keep F hk, rfl⟩
theorem Sd.later (F : TFr T) (h : Sd T sty lty ty w Q S D s k) (hb : Below w.heap.size w w') : Sd T sty lty ty w' Q S D s k := h.keep F (KpT.of_below hb (h.lt F))
theorem Sd.ok (h : Sd T sty lty ty w Q S D s k) : s.Ok := by
  obtain ⟨P, L, g, v, h, rfl⟩ := h
  exact h.ok
theorem Sd.tab (F : TFr T) (h : Sd T sty lty ty w Q S D s k) : TabL k.L ∧ k.L.length ≤ 256 ∧ (∀ x ∈ k.L, x.addr < 4294967296) ∧ (0 ≤ k.st ∧ k.st ≤ 8) ∧ (0 ≤ k.lf ∧ k.lf ≤ 536870912) := by
  obtain ⟨P, L, g, v, h, rfl⟩ := h
  exact ⟨F.tab h.t, F.few h.t, F.w32 h.t, h.st, h.lf⟩
theorem Sd.at_ {P : Nat → Prop} {L g : Nat} {v : Value} (h : SAt T sty lty ty w P S L g D v s k) : Sd T sty lty ty w (SF S L D v P) S D s k := ⟨P, L, g, v, h, rfl⟩
theorem Upd.refl (h : Sd T sty lty ty w Q S D s k) : Upd T sty lty ty w Q S D w s k := ⟨Q, h, Way.refl _ _⟩
theorem Upd.low (F : TFr T) (h : Sd T sty lty ty w Q S D s k) (hb : Below w.heap.size w w') : Upd T sty lty ty w Q S D w' s k := ⟨Q, h.later F hb, Way.of_below hb⟩
theorem Upd.after (hw : Way Q w Q' w1) (h : Upd T sty lty ty w1 Q' S D w' s k) : Upd T sty lty ty w Q S D w' s k := by
  obtain ⟨Q2, h1, h2⟩ := h
  exact ⟨Q2, h1, hw.trans h2⟩
theorem Upd.then_ (h : Upd T sty lty ty w Q S D w1 s k) (F : TFr T) (hb : Below w1.heap.size w1 w') : Upd T sty lty ty w Q S D w' s k := by
  obtain ⟨Q2, h1, h2⟩ := h
  exact ⟨Q2, h1.later F hb, h2.trans (Way.of_below hb)⟩
theorem Sd.dk (h : Sd T sty lty ty w Q S D s k) : ∃ Q0, Dk ty w Q0 D s ∧ ∀ b, Q0 b → Q b := by
  obtain ⟨P, L, g, v, h, rfl⟩ := h
  exact ⟨DF D v, ⟨v, h.d, h.ok, rfl⟩, fun b hb => SF.disk hb⟩
theorem Dk.lt (h : Dk ty w Q D s) : ∀ b, Q b → b < w.heap.size := by
  obtain ⟨v, h, _, rfl⟩ := h
  rintro b (rfl | hb)
  · exact h.dlt
  · exact (h.ob b hb).2
theorem Dk.keep (h : Dk ty w Q D s) (hk : KpT Q w w') : Dk ty w' Q D s := by
  obtain ⟨v, h, ho, rfl⟩ := h
  exact ⟨v, h.kp (P := DF D v) ⟨hk.os, hk.tape, hk.output, hk.size, hk.block⟩ (.inl rfl) (fun b hb => .inr hb), ho, rfl⟩
theorem Dk.later (h : Dk ty w Q D s) (hb : Below w.heap.size w w') : Dk ty w' Q D s := h.keep (KpT.of_below hb h.lt)
end

/-! ## The document's table -/
/-- Block g is the document's table of the leases L. -/
def TR (w : World) (P : Nat → Prop) (g : Nat) (L : List LV) : Prop :=
  ∃ v, RTb { w with heap := #[] } w g v L ∧ TabL L ∧ L.length ≤ 256 ∧ (∀ x ∈ L, x.addr < 4294967296) ∧ P = fun k => k = g ∨ v.ownBlock = some k
theorem RTb.nul {w0 w : World} {g : Nat} {v : Value} {L : List LV} (h : RTb w0 w g v L) : RTb { w with heap := #[] } w g v L :=
  ⟨h.box, ⟨own_lower h.row.own (Nat.zero_le _), ⟨rfl, rfl, rfl, Nat.zero_le _, fun _ hk => absurd hk (Nat.not_lt_zero _)⟩⟩, Nat.zero_le _⟩
theorem tr_fr : TFr TR where
  tab := fun ⟨_, _, h, _⟩ => h
  few := fun ⟨_, _, _, h, _⟩ => h
  w32 := fun ⟨_, _, _, _, h, _⟩ => h
  lt := by
    rintro w P g L ⟨v, h, _, _, _, rfl⟩ k (rfl | hk)
    · exact h.lt
    · exact (h.row.lt k hk).2
  keep := by
    rintro w w' P g L ⟨v, h, h1, h2, h3, rfl⟩ hk
    refine ⟨v, ⟨(hk.block g (.inl rfl)).trans h.box, ⟨⟨h.row.own.1, ?_⟩, ⟨rfl, rfl, rfl, Nat.zero_le _, fun _ hk => absurd hk (Nat.not_lt_zero _)⟩⟩, Nat.zero_le _⟩, h1, h2, h3, rfl⟩
    rcases h.row.own.2 with h4 | ⟨g1, cap, cur, rfl, hb, hh, r⟩
    · exact .inl h4
    · exact .inr ⟨g1, cap, cur, rfl, hb, (hk.block g1 (.inr rfl)).trans hh, r⟩
end Go.Proofs.YtalmjmhbpmhokaaGreat
end

/- The store of the code: records; what a record's body makes known (applyLease, applyState, applyLife), apply, note. -/
section
namespace Go.Proofs.YtalmjmhbpmhokaaGreat
open Go.RowKit Go.Sort Go.Shelf

/-- Bytes that are laid now. -/
theorem rowN (w : World) (l : List UInt8) (hl : l.length ≤ 1048576) (cs : Array Value) (hcs : cs.toList = bcells l) : Row w (w.alloc (.cells cs 5)) (.slice (some ⟨w.heap.size, 0, none⟩) l.length l.length) l := by
  have h := World.ownsRow_lit (base := w.heap.size) (e := 5) (size := 1) w cs l.length (Nat.le_refl _) (by unfold maxLen; omega) (by rw [← Array.length_toList, hcs, bcells_length, Nat.mul_one])
  rw [hcs] at h
  exact ⟨h, (Below.refl _ _).alloc (Nat.le_refl _) _⟩
/-- Bytes are answered, in a row of their own, made since. -/
def GivesRw (w : World) (l : List UInt8) (e : Ending) (w' : World) : Prop := ∃ A c, e = .returned (.slice A l.length c) ∧ l.length ≤ c ∧ Row w w' (.slice A l.length c) l

theorem u8_wrap (n : Int) (h : 0 ≤ n) : IntKind.u8.wrap n = ((UInt8.ofNat n.toNat).toNat : Int) := by
  rw [← u8_of, Int.toNat_of_nonneg h]

set_option maxRecDepth 100000 in
theorem srec_any (n : Int) (hn : 0 ≤ n) (w : World) : Calls Tryz.prog 57 #[.int .i64 n] w (GivesRw w (recS n)) := by
  have hR := rowN w (recS n) (by simp [recS]) #[.int .u8 83, .int .u8 (IntKind.u8.wrap n)] (by rw [u8_wrap n hn]; rfl)
  have HR := Lib.hid hR
  clear hR
  go_enter Tryz.func57, Tryz.ntmps57
  go_wp2
  go_ret
  exact ⟨_, _, rfl, Nat.le_refl _, HR.out⟩
theorem be4 (n : Nat) : beL n 4 = [UInt8.ofNat (n / 16777216), UInt8.ofNat (n / 65536), UInt8.ofNat (n / 256), UInt8.ofNat n] := by
  have e : List.range 4 = [0, 1, 2, 3] := rfl
  unfold beL
  rw [e]
  simp
theorem byte_of (m k : Nat) : (((UInt8.ofNat (m / k)).toNat : Nat) : Int) = (m : Int) / (k : Int) % 256 := by
  rw [UInt8.toNat_ofNat']
  simp
theorem recF_cells (m : Nat) : (#[.int .u8 70, .int .u8 ((m : Int) / 16777216 % 256), .int .u8 ((m : Int) / 65536 % 256), .int .u8 ((m : Int) / 256 % 256), .int .u8 ((m : Int) % 256)] : Array Value).toList = bcells (recF m) := by
  have h1 := byte_of m 16777216
  have h2 := byte_of m 65536
  have h3 := byte_of m 256
  have h4 : (((UInt8.ofNat m).toNat : Nat) : Int) = (m : Int) % 256 := by rw [UInt8.toNat_ofNat']; simp
  unfold recF
  rw [Int.toNat_natCast, be4]
  simp only [bcells, List.map_cons, List.map_nil, bV, h1, h2, h3, h4]
  rfl
set_option maxRecDepth 100000 in
theorem frec_any (n : Int) (hn : 0 ≤ n) (w : World) : Calls Tryz.prog 58 #[.int .i64 n] w (GivesRw w (recF n)) := by
  obtain ⟨m, rfl⟩ := Int.eq_ofNat_of_zero_le hn
  have HR := Lib.hid (rowN w (recF (m : Int)) (by simp [recF, beL_length]) _ (recF_cells m))
  go_enter Tryz.func58, Tryz.ntmps58
  go_wp2
  go_ret
  have e : (recF (m : Int)).length = 5 := by simp [recF, beL_length]
  have h := HR.out
  rw [e] at h
  refine ⟨some ⟨w.heap.size, 0, none⟩, 5, ?_, by rw [e]; exact Nat.le_refl _, by rw [e]; exact h⟩
  rw [e]
  rfl

section
variable {T : TabT} {w : World} {P : Nat → Prop} {S L g D : Nat} {v : Value} {s : DS} {k : Kn}

set_option maxRecDepth 100000 in
set_option maxHeartbeats 1000000 in
theorem applyS_any (F : TFr T) (h : SAt T StT LT DT w P S L g D v s k) {A : Option Addr} {c : Nat} {t : List UInt8} (hA : By w w.heap.size A t) :
    Calls Tryz.prog 67 #[ptr S, .slice A t.length c] w fun e w' => e = .returned (.tuple #[]) ∧ Upd T StT LT DT w (SF S L D v P) S D w' s { k with st := bodS k.st t } := by
  have H := Lib.hid h
  have hf := h.free 2
  have hc2 := h.c2
  by_cases h1 : t.length = 1
  · match t, h1 with
    | [x], _ =>
    obtain ⟨b, o, rfl, hb, hc⟩ := hA.at_ 0 x rfl
    rw [Nat.add_zero] at hc
    have hn : numL [x] = x.toNat := num_one x
    simp only [List.length_singleton]
    by_cases hx : 8 < x.toNat
    · have d : decide ((8 : Int) < (x.toNat : Int)) = true := decide_eq_true (by omega)
      have HB : Hid (bodS k.st [x] = k.st) := Lib.hid (by unfold bodS; rw [if_neg]; rw [hn]; omega)
      clear h hA
      go_enter Tryz.func67, Tryz.ntmps67
      go_wp2
      refine bodyPost_ret (results_none rfl _ _ _) rfl ?_
      rw [HB.out]
      exact ⟨rfl, Upd.refl (Sd.at_ H.out)⟩
    · have d : decide ((8 : Int) < (x.toNat : Int)) = false := decide_eq_false (by omega)
      have HB : Hid (bodS k.st [x] = (x.toNat : Int)) := Lib.hid (by unfold bodS; rw [if_pos ⟨rfl, by rw [hn]; omega⟩, hn])
      have HX := Lib.hid hx
      clear h hA
      go_enter Tryz.func67, Tryz.ntmps67
      go_wp2
      go_end0
      rw [HB.out]
      refine ⟨rfl, _, Sd.at_ (H.out.set2 F (x.toNat : Int) (by have := HX.out; omega)), way_set w S 2 _ (.inl rfl)⟩
  · have d : decide ((t.length : Int) = 1) = false := decide_eq_false (by omega)
    have HB : Hid (bodS k.st t = k.st) := Lib.hid (by unfold bodS; rw [if_neg (fun hh => h1 hh.1)])
    have d1 : ((t.length : Int) != 1) = true := by simp; omega
    clear h hA
    go_enter Tryz.func67, Tryz.ntmps67
    go_wp2
    refine bodyPost_ret (results_none rfl _ _ _) rfl ?_
    rw [HB.out]
    exact ⟨rfl, Upd.refl (Sd.at_ H.out)⟩

set_option maxRecDepth 100000 in
set_option maxHeartbeats 1000000 in
theorem applyF_any (F : TFr T) (h : SAt T StT LT DT w P S L g D v s k) {A : Option Addr} {c : Nat} {t : List UInt8} (hA : By w w.heap.size A t) :
    Calls Tryz.prog 65 #[ptr S, .slice A t.length c] w fun e w' => e = .returned (.tuple #[]) ∧ Upd T StT LT DT w (SF S L D v P) S D w' s { k with lf := bodF k.lf t } := by
  have H := Lib.hid h
  have hf := h.free 3
  have hc3 := h.c3
  by_cases h1 : t.length = 4
  · have HBY := Lib.hid hA
    have HT := Lib.hid h1
    rw [h1]
    clear h hA h1
    go_enter Tryz.func65, Tryz.ntmps65
    go_wp2
    go_loop [4, 6, 12] (fun nv _ iv => ∃ j m : Nat, j ≤ 4 ∧ iv = .int .i64 j ∧ nv = .int .i64 (m : Int) ∧ m = numL (t.take j)) (fun _ _ i => 4 - (intOf i).toNat)
    case atStart => exact ⟨0, 0, Nat.zero_le _, rfl, rfl, rfl⟩
    case round =>
      obtain ⟨j, m, hj, rfl, rfl, hm⟩ := hrel
      have HM := Lib.hid hm
      have hml : m < 256 ^ j := by rw [hm]; have := numL_lt (t.take j); rwa [List.length_take, Nat.min_eq_left (by have := HT.out; omega)] at this
      clear hm
      by_cases hlt : j < 4
      · obtain ⟨y, hy⟩ : ∃ y, t[j]? = some y := ⟨_, List.getElem?_eq_getElem (by have := HT.out; omega)⟩
        obtain ⟨b, o, hA, hbb, hc⟩ := HBY.out.at_ j y hy
        subst hA
        have hml2 : m < 36028797018963968 := Nat.lt_of_lt_of_le hml (Nat.le_trans (Nat.pow_le_pow_right (by omega) (show j ≤ 5 by omega)) (by decide))
        have hyy := y.toNat_lt
        have HY := Lib.hid hy
        clear hy hml
        go_wp2
        rw [or_i64 m y.toNat hml2 hyy]
        go_round
        case rel => exact ⟨j + 1, m * 256 + y.toNat, by omega, by go_num, rfl, by rw [take_snoc_of t j y HY.out, numL_snoc, ← HM.out]⟩
        case measure => simp [intOf]; omega
      · obtain rfl : j = 4 := by omega
        have hm2 : m = numL t := by rw [HM.out, List.take_of_length_le (by have := HT.out; omega)]
        by_cases hx : m ≤ 536870912
        · have d : decide ((m : Int) ≤ 536870912) = true := decide_eq_true (by omega)
          have HB : Hid (bodF k.lf t = (m : Int)) := Lib.hid (by unfold bodF; rw [if_pos ⟨HT.out, by rw [← hm2]; exact hx⟩, hm2])
          have HX := Lib.hid hx
          clear hml hm2
          go_wp2
          go_end0
          rw [HB.out]
          exact ⟨rfl, _, Sd.at_ (H.out.set3 F (m : Int) (by have := HX.out; omega)), way_set w S 3 _ (.inl rfl)⟩
        · have d : decide ((m : Int) ≤ 536870912) = false := decide_eq_false (by omega)
          have HB : Hid (bodF k.lf t = k.lf) := Lib.hid (by unfold bodF; rw [if_neg]; rw [← hm2]; omega)
          clear hml
          go_wp2
          go_end0
          rw [HB.out]
          exact ⟨rfl, Upd.refl (Sd.at_ H.out)⟩
  · have HB : Hid (bodF k.lf t = k.lf) := Lib.hid (by unfold bodF; rw [if_neg (fun hh => h1 hh.1)])
    have d1 : ((t.length : Int) != 4) = true := by simp; omega
    clear h hA
    go_enter Tryz.func65, Tryz.ntmps65
    go_wp2
    refine bodyPost_ret (results_none rfl _ _ _) rfl ?_
    rw [HB.out]
    exact ⟨rfl, Upd.refl (Sd.at_ H.out)⟩

set_option maxRecDepth 100000 in
set_option maxHeartbeats 1000000 in
theorem applyL_any (K : TabK T) (h : SAt T StT LT DT w P S L g D v s k) {A : Option Addr} {c : Nat} {t : List UInt8} (hA : By w w.heap.size A t) (hc : t.length ≤ c) (hl : t.length ≤ 1000) :
    Calls Tryz.prog 64 #[ptr S, .slice A t.length c] w fun e w' => e = .returned (.tuple #[]) ∧ Upd T StT LT DT w (SF S L D v P) S D w' s { k with L := bodL k.L t } := by
  have H := Lib.hid h
  have HD := Lib.hid (decode_any A c t w hA hc (by omega))
  have HK := Lib.hid K
  clear h hA K
  obtain ⟨q, hq⟩ : ∃ q, q = decL t := ⟨_, rfl⟩
  rw [← hq] at HD
  have HQ := Lib.hid hq
  go_enter Tryz.func64, Tryz.ntmps64
  go_wp2_with fail
  refine HD.out.mono ?_
  rintro e w1 ⟨rfl, hB1⟩
  obtain ⟨w2, hw2⟩ : ∃ w2, w2 = w1.alloc (lbox q.1) := ⟨_, rfl⟩
  have hB2 : Below w1.heap.size w1 w2 := by rw [hw2]; exact (Below.refl _ _).alloc (Nat.le_refl _) _
  have HX : Hid (LBox w2 w1.heap.size q.1) := Lib.hid (by rw [hw2]; exact LBox.new w1 q.1)
  have HB2 := Lib.hid (hB1.trans (hB2.mono hB1.size))
  have HW2 := Lib.hid hw2
  clear hB1 hB2 hw2
  by_cases hok : decOk t
  · have e1 : q = (rawL t, 0) := by rw [hq]; unfold decL; rw [if_pos hok]
    have HB : Hid (bodL k.L t = (setL k.L (rawL t)).1) := Lib.hid (by unfold bodL; rw [if_pos hok])
    subst e1
    clear hq hok
    obtain ⟨r0, hr0⟩ : ∃ r0, r0 = rawL t := ⟨_, rfl⟩
    rw [← hr0] at HX HW2 HB ⊢
    have ha : r0.addr < 4294967296 := by rw [hr0]; exact dec_addr t
    have HS2 := Lib.hid (H.out.later HK.out.fr HB2.out)
    have c1 := HS2.out.c1
    obtain ⟨b0, b1, b2, b3, b4, b5, b6, b7⟩ := HX.out.all
    have HS3 := Lib.hid (HS2.out.later HK.out.fr (Below.refl _ _).drew)
    have HSET := Lib.hid (HK.out.set r0 HS3.out.t ha)
    clear hr0 b0 b1 b2 b3 b4 b5 b6 b7
    go_upto_region 2 with fail
    rw [← HW2.out]
    obtain ⟨b0, b1, b2, b3, b4, b5, b6, b7⟩ := HX.out.all
    go_region_with (go_at_call 96; refine HSET.out.mono ?_; rintro e w3 ⟨P', rfl, hT3, hO3, hN3⟩)
    all_goals
      go_end0
      rw [HB.out]
      obtain ⟨k1, k2⟩ := HS3.out.tset hT3 hO3 hN3
      exact ⟨rfl, _, Sd.at_ k1, (Way.of_below (HB2.out.trans ((Below.refl _ _).drew.mono HB2.out.size))).trans k2⟩
  · have e1 : q = (zeroL, 2) := by rw [hq]; unfold decL; rw [if_neg hok]
    have HB : Hid (bodL k.L t = k.L) := Lib.hid (by unfold bodL; rw [if_neg hok])
    subst e1
    clear hq hok
    go_wp2
    refine bodyPost_ret (results_none rfl _ _ _) rfl ?_
    rw [HB.out]
    rw [← HW2.out]
    exact ⟨rfl, Upd.low HK.out.fr (Sd.at_ H.out) HB2.out⟩

/-- A method value of a store's: what it makes of a record's body. -/
def Applies (T : TabT) (f : FuncId) (mk : Kn → List UInt8 → Kn) : Prop :=
  ∀ {w : World} {P : Nat → Prop} {S L g D : Nat} {v : Value} {s : DS} {k : Kn}, SAt T StT LT DT w P S L g D v s k → ∀ {A : Option Addr} {c : Nat} {t : List UInt8}, By w w.heap.size A t → t.length ≤ c → t.length ≤ 1000 →
    Calls Tryz.prog f #[ptr S, .slice A t.length c] w fun e w' => e = .returned (.tuple #[]) ∧ Upd T StT LT DT w (SF S L D v P) S D w' s (mk k t)
theorem applies_S (F : TFr T) : Applies T 67 fun k t => { k with st := bodS k.st t } := fun h _ _ _ hA _ _ => applyS_any F h hA
theorem applies_F (F : TFr T) : Applies T 65 fun k t => { k with lf := bodF k.lf t } := fun h _ _ _ hA _ _ => applyF_any F h hA
theorem applies_L (K : TabK T) : Applies T 64 fun k t => { k with L := bodL k.L t } := fun h _ _ _ hA hc hl => applyL_any K h hA hc hl

theorem tail_by {w : World} {B : Nat} {A : Option Addr} {c : Nat} {x : UInt8} {t : List UInt8} (h : By w B A (x :: t)) (hc : (x :: t).length ≤ c) : By w B (if c = 1 then A else A.map (·.add 1)) t :=
  h.cut (k := 1) (l := x :: t) (by simp) hc

set_option maxRecDepth 100000 in
set_option maxHeartbeats 1000000 in
theorem apply_any (K : TabK T) (h : SAt T StT LT DT w P S L g D v s k) {A : Option Addr} {c : Nat} {b : List UInt8} (hA : By w w.heap.size A b) (hc : b.length ≤ c) (hg : GoodF b) :
    Calls Tryz.prog 36 #[ptr S, .slice A b.length c] w fun e w' => e = .returned (.tuple #[]) ∧ Upd T StT LT DT w (SF S L D v P) S D w' s (doK k b) := by
  match b, hg with
  | [], hg => exact absurd hg.1 (by simp)
  | x :: t, hg =>
  have ht : t.length ≤ 1000 := by have := hg.2; simp at this; omega
  have htail := run_tailB A (x :: t).length c 1 (by omega) (by rw [List.length_cons]; omega)
  have hby2 := tail_by hA hc
  obtain ⟨A2, hA2⟩ : ∃ A2, A2 = (if c = 1 then A else A.map (·.add 1)) := ⟨_, rfl⟩
  rw [show (1 : Int).toNat = 1 from rfl, ← hA2, List.length_cons, Nat.add_sub_cancel] at htail
  rw [← hA2] at hby2
  obtain ⟨b, o, rfl, hb, hcell⟩ := hA.at_ 0 x rfl
  rw [Nat.add_zero] at hcell
  have hc2 : t.length ≤ c - 1 := by simp at hc; omega
  have HL := Lib.hid (applies_L K h hby2 hc2 ht)
  have HS := Lib.hid (applies_S K.fr h hby2 hc2 ht)
  have HF := Lib.hid (applies_F K.fr h hby2 hc2 ht)
  have H := Lib.hid h
  rw [List.length_cons]
  clear h hA hby2 hA2 hg K
  obtain ⟨q, hq⟩ : ∃ q, q = x.toNat := ⟨_, rfl⟩
  have hx : ∀ n : UInt8, x = n ↔ q = n.toNat := fun n => by rw [hq]; exact ⟨fun e => by rw [e], fun e => UInt8.toNat_inj.1 e⟩
  rw [show bV x = .int .u8 (q : Int) by rw [hq]] at hcell
  rcases (show q = 76 ∨ q = 83 ∨ q = 70 ∨ (q ≠ 76 ∧ q ≠ 83 ∧ q ≠ 70) by omega) with rfl | rfl | rfl | ⟨n1, n2, n3⟩
  · obtain rfl := (hx 76).2 rfl
    clear hq hx
    go_enter Tryz.func36, Tryz.ntmps36
    go_wp2_with fail
    refine HL.out.mono ?_
    rintro e w1 ⟨rfl, hu⟩
    go_wp2
    go_end0
    exact ⟨rfl, hu⟩
  · obtain rfl := (hx 83).2 rfl
    clear hq hx
    go_enter Tryz.func36, Tryz.ntmps36
    go_wp2_with fail
    refine HS.out.mono ?_
    rintro e w1 ⟨rfl, hu⟩
    go_wp2
    go_end0
    exact ⟨rfl, hu⟩
  · obtain rfl := (hx 70).2 rfl
    clear hq hx
    go_enter Tryz.func36, Tryz.ntmps36
    go_wp2_with fail
    refine HF.out.mono ?_
    rintro e w1 ⟨rfl, hu⟩
    go_wp2
    go_end0
    exact ⟨rfl, hu⟩
  · have HE : Hid (doK k (x :: t) = k) := Lib.hid (doK_no k t (fun e => n1 ((hx 76).1 e)) (fun e => n2 ((hx 83).1 e)) (fun e => n3 ((hx 70).1 e)))
    have d1 : ((q : Int) == 76) = false := by simp; omega
    have d2 : ((q : Int) == 83) = false := by simp; omega
    have d3 : ((q : Int) == 70) = false := by simp; omega
    clear hq hx n1 n2 n3
    go_enter Tryz.func36, Tryz.ntmps36
    go_wp2
    go_end0
    rw [HE.out]
    exact ⟨rfl, Upd.refl (Sd.at_ H.out)⟩

set_option maxRecDepth 100000 in
set_option maxHeartbeats 1000000 in
theorem note_any (h : SAt T StT LT DT w P S L g D v s k) {f : FuncId} {mk : Kn → List UInt8 → Kn} (hf : Applies T f mk) (F : TFr T) (hen : ∀ args W, (callFunc f args).run Tryz.prog W = .ok (.enter f args) W)
    {A : Option Addr} {c : Nat} {b : List UInt8} (hA : ByO w D v A b) (hc : b.length ≤ c) (x : UInt8) (t : List UInt8) (hb : b = x :: t) (ht : t.length ≤ 999) (hto : doK k b = mk k t) :
    Calls Tryz.prog 63 #[ptr S, .slice A b.length c, .func (.func f) #[ptr S] #[]] w (AnsS T StT LT DT w (SF S L D v P) S D (noteS s k b)) := by
  subst hb
  have HA := Lib.hid (lappend_any (c := c) h.d h.ok h.l hA.by_)
  have H := Lib.hid h
  have HBY := Lib.hid hA
  have c0 := h.c0
  clear h hA
  obtain ⟨r, hr⟩ : ∃ r, r = appW s (x :: t) := ⟨_, rfl⟩
  have HOK : Hid r.2.Ok := Lib.hid (by rw [hr]; exact appW_ok H.out.ok _)
  rw [← hr] at HA
  have HN : Hid (noteS s k (x :: t) = (r.1, r.2, if r.1 = 0 then mk k t else k)) := Lib.hid (by unfold noteS; rw [hr, hto])
  rw [HN.out]
  obtain ⟨q, s1⟩ := r
  obtain ⟨kk, hkk⟩ : ∃ kk, kk = if q = 0 then mk k t else k := ⟨_, rfl⟩
  rw [show (if (q, s1).1 = 0 then mk k t else k) = kk from hkk.symm]
  have HKK := Lib.hid hkk
  clear hkk
  have htail := run_tailB A (x :: t).length c 1 (by omega) (by rw [List.length_cons]; omega)
  obtain ⟨A2, hA2⟩ : ∃ A2, A2 = (if c = 1 then A else A.map (·.add 1)) := ⟨_, rfl⟩
  rw [show (1 : Int).toNat = 1 from rfl, ← hA2, List.length_cons, Nat.add_sub_cancel] at htail
  have HB2 : Hid (∀ W, ByO W D v A (x :: t) → By W W.heap.size A2 t) := Lib.hid (fun W hW => by rw [hA2]; exact tail_by hW.by_ hc)
  have hc2 : t.length ≤ c - 1 := by simp at hc; omega
  have HF := Lib.hid F
  have HAP : Hid (Applies T f mk) := Lib.hid hf
  have HHR := Lib.hid hr
  rw [List.length_cons] at HA ⊢
  clear hr hA2 hf hto HN F
  go_enter Tryz.func63, Tryz.ntmps63
  go_wp2_with fail
  refine HA.out.mono ?_
  rintro e w1 ⟨rfl, hd⟩
  have HBY1 := Lib.hid (HBY.out.kp (by obtain ⟨_, _, hk, _⟩ := hd; exact hk))
  obtain ⟨v1, h1, hw1⟩ := H.out.did HF.out hd HOK.out
  have H1 := Lib.hid h1
  have HW1 := Lib.hid hw1
  clear hd h1 hw1
  by_cases h0 : q = 0
  · subst h0
    have HAC := Lib.hid (HAP.out H1.out (HB2.out _ HBY1.out) hc2 (by omega))
    have e0 := HKK.out
    rw [if_pos rfl] at e0
    subst e0
    go_wp2_with fail
    refine HAC.out.mono ?_
    rintro e w2 ⟨rfl, hu⟩
    go_wp2
    go_ret
    exact ⟨rfl, Upd.after HW1.out hu⟩
  · have d0 : (q != 0) = true := by simpa using h0
    have e0 := HKK.out
    rw [if_neg h0] at e0
    subst e0
    go_wp2
    go_ret
    exact ⟨rfl, _, Sd.at_ H1.out, HW1.out⟩
end
end Go.Proofs.YtalmjmhbpmhokaaGreat
end
