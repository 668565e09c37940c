/- A store of the code without its disk: what it tells when the disk has gone on. -/
import Derived.Test.YtalmjmhbpmhokaaGreatMrgStoK
import Derived.Test.YtalmjmhbpmhokaaGreatMrgStoY
namespace Go.Proofs.YtalmjmhbpmhokaaGreat
open Go.RowKit Go.Sort

theorem Way.sup {Q0 Q0' Q : Nat → Prop} {w w' : World} (h : Way Q0 w Q0' w') (hs : ∀ b, Q0 b → Q b) : Way Q w Q0' w' :=
  h.wide hs fun b hb => (h.new b hb).imp (hs b) id

section
variable {w : World} {S L g : Nat} {st lf : Int}
abbrev SBox (w : World) (S L g : Nat) (st lf : Int) : Prop := w.heap[S]? = some (.cells #[ptr L, ptr g, .int .i64 st, .int .i64 lf] StT (0, 0))
set_option maxRecDepth 100000 in
theorem box_table (h : SBox w S L g st lf) : Calls Tryz.prog 21 #[ptr S] w fun e w' => e = .returned (ptr g) ∧ w = w' := by
  have c1 : w.cell? ⟨S, 1, none⟩ = some (ptr g) := cell_of_row w S 1 _ _ _ h
  clear h
  go_enter Tryz.func21, Tryz.ntmps21
  go_wp2
  go_ret
  exact ⟨rfl, rfl⟩
set_option maxRecDepth 100000 in
theorem box_state (h : SBox w S L g st lf) : Calls Tryz.prog 23 #[ptr S] w fun e w' => e = .returned (.int .i64 st) ∧ w = w' := by
  have c2 : w.cell? ⟨S, 2, none⟩ = some (.int .i64 st) := cell_of_row w S 2 _ _ _ h
  clear h
  go_enter Tryz.func23, Tryz.ntmps23
  go_wp2
  go_ret
  exact ⟨rfl, rfl⟩
set_option maxRecDepth 100000 in
theorem box_life (h : SBox w S L g st lf) : Calls Tryz.prog 24 #[ptr S] w fun e w' => e = .returned (.int .i64 lf) ∧ w = w' := by
  have c3 : w.cell? ⟨S, 3, none⟩ = some (.int .i64 lf) := cell_of_row w S 3 _ _ _ h
  clear h
  go_enter Tryz.func24, Tryz.ntmps24
  go_wp2
  go_ret
  exact ⟨rfl, rfl⟩
end

/-- What a store tells of itself, in the blocks C: it knows k. -/
def CoreAt (T : TabT) (w : World) (C : Nat → Prop) (S : Nat) (k : Kn) : Prop :=
  ∃ P L g, SBox w S L g k.st k.lf ∧ T w P g k.L ∧ C = fun b => b = S ∨ P b
section
variable {T : TabT} {w w' : World} {C Q : Nat → Prop} {S D : Nat} {s : DS} {k : Kn}
theorem CoreAt.lt (F : TFr T) (h : CoreAt T w C S k) : ∀ b, C b → b < w.heap.size := by
  obtain ⟨P, L, g, h1, h2, rfl⟩ := h
  rintro b (rfl | hb)
  · exact (Array.getElem?_eq_some_iff.1 h1).1
  · exact F.lt h2 b hb
theorem CoreAt.keep (F : TFr T) (h : CoreAt T w C S k) (hk : KpT C w w') : CoreAt T w' C S k := by
  obtain ⟨P, L, g, h1, h2, rfl⟩ := h
  exact ⟨P, L, g, (hk.block S (.inl rfl)).trans h1, F.keep h2 ⟨hk.os, hk.tape, hk.output, hk.size, fun b hb => hk.block b (.inr hb)⟩, rfl⟩
theorem CoreAt.later (F : TFr T) (h : CoreAt T w C S k) (hb : Below w.heap.size w w') : CoreAt T w' C S k := h.keep F (KpT.of_below hb (h.lt F))
/-- A store is its disk, and what lies apart from it. -/
theorem Sd.parts (h : Sd T StT LT DT w Q S D s k) : ∃ Q0 C, Dk DT w Q0 D s ∧ CoreAt T w C S k ∧ (∀ b, Q0 b → Q b) ∧ (∀ b, C b → Q b) ∧ ∀ b, C b → ¬ Q0 b := by
  obtain ⟨P, L, g, v, h, rfl⟩ := h
  refine ⟨DF D v, _, ⟨v, h.d, h.ok, rfl⟩, ⟨P, L, g, h.box, h.t, rfl⟩, fun b hb => SF.disk hb, ?_, ?_⟩
  · rintro b (rfl | hb)
    · exact .inl rfl
    · exact .inr (.inr (.inr hb))
  · rintro b (rfl | hb)
    · exact h.sD
    · exact h.pD b hb
end
end Go.Proofs.YtalmjmhbpmhokaaGreat
