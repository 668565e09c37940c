/- engine, pure: what a silent server says; cases in memory. -/
import Derived.Test.YtmaohnbddlccdaaGreatMrgEngJ
import Derived.Test.YtmaohnbddlccdaaGreatMrgPktE
namespace Go.Proofs.YtmaohnbddlccdaaGreat
open Go.RowKit Go.Sort

/-- What is sent is a reply to the packet. -/
def Fit (p : NO.PktA) (a : AnsV) : Prop := a.send = true → a.reply.op = 2 ∧ a.reply.xid = p.xid
theorem no_fit (p : NO.PktA) : Fit p noA := fun h => by cases h
theorem offer_fit (x : SiteV) (L : List LV) (s now entry : Int) (p : NO.PktA) : Fit p (offerE x L s now entry p) := by
  unfold offerE
  split
  · exact no_fit p
  · split
    · exact no_fit p
    · split
      · exact no_fit p
      · exact fun _ => ⟨rfl, rfl⟩
theorem request_fit (x : SiteV) (L : List LV) (s now entry : Int) (p : NO.PktA) : Fit p (requestE x L s now entry p) := by
  unfold requestE
  split
  · exact no_fit p
  · split
    · exact fun _ => ⟨rfl, rfl⟩
    · split
      · exact no_fit p
      · exact fun _ => ⟨rfl, rfl⟩
theorem answer_fit (x : SiteV) (ok fair : Bool) (Lo : Option (List LV)) (s now entry : Int) (p : NO.PktA) : Fit p (answerE x ok fair Lo s now entry p) := by
  unfold answerE
  split
  · exact no_fit p
  · split
    · unfold kindE
      split
      · exact offer_fit _ _ _ _ _ _
      · split
        · exact request_fit _ _ _ _ _ _
        · split
          · unfold declineE; split <;> exact fun h => by cases h
          · split
            · unfold releaseE; split <;> exact fun h => by cases h
            · split
              · exact fun _ => ⟨rfl, rfl⟩
              · exact no_fit p
    · exact no_fit p
theorem answer_none (x : SiteV) (ok fair : Bool) (Lo : Option (List LV)) (s now entry : Int) (p : NO.PktA) (h : ¬ (NC.ServesI s ∧ ok = true ∧ fair = true ∧ p.op = 1 ∧ 0 ≤ now)) : answerE x ok fair Lo s now entry p = noA := by
  unfold answerE
  split
  · rfl
  · refine if_neg ?_
    rintro ⟨h1, h2, h3, h4, h5⟩
    refine h ⟨h2, h1, h4, h5, ?_⟩
    unfold witB at h3
    rw [Bool.and_eq_true, decide_eq_true_eq] at h3
    exact h3.1

section
variable {w w' : World} {b : Nat} {c : CaseV}
/-- A case's box. -/
abbrev CBox (w : World) (b : Nat) (c : CaseV) : Prop := Bx w b 34 c.cells
theorem CBox.all (h : CBox w b c) : w.cell? ⟨b, 0, none⟩ = some (.int .i64 c.s) ∧ w.cell? ⟨b, 1, none⟩ = some (.int .i64 c.now) ∧ w.cell? ⟨b, 2, none⟩ = some (.int .i64 c.entry) ∧ w.cell? ⟨b, 3, none⟩ = some (.int .i64 c.p.op) ∧ w.cell? ⟨b, 4, none⟩ = some (.int .u32 (c.p.xid : Int)) ∧ w.cell? ⟨b, 5, none⟩ = some (.int .i64 c.p.secs) ∧ w.cell? ⟨b, 6, none⟩ = some (.int .i64 c.p.flags) ∧ w.cell? ⟨b, 7, none⟩ = some (.int .u32 (c.p.ci : Int)) ∧ w.cell? ⟨b, 8, none⟩ = some (.int .u32 (c.p.yi : Int)) ∧ w.cell? ⟨b, 9, none⟩ = some (.int .u32 (c.p.si : Int)) ∧ w.cell? ⟨b, 10, none⟩ = some (.int .u32 (c.p.gi : Int)) ∧ w.cell? ⟨b, 11, none⟩ = some (.slice c.p.hwA c.p.hw.length c.p.hwC) ∧ w.cell? ⟨b, 12, none⟩ = some (.slice c.p.opA c.p.L.length c.p.opC) :=
  ⟨h.at_ 0, h.at_ 1, h.at_ 2, h.at_ 3, h.at_ 4, h.at_ 5, h.at_ 6, h.at_ 7, h.at_ 8, h.at_ 9, h.at_ 10, h.at_ 11, h.at_ 12⟩
end
/-- What the law's own test lets by. -/
structure FewC (x : SiteV) (ls : List LV) (c : CaseV) : Prop where
  hf : NO.pfewB c.p = true
  hls : ls.length ≤ 100
  hpl : x.pl.length ≤ 20
  hcl : ∀ y ∈ ls, y.client.length ≤ 100
theorem FewC.pk {x : SiteV} {ls : List LV} {c : CaseV} (h : FewC x ls c) : c.p.L.length ≤ 100 ∧ (∀ y ∈ c.p.L, y.data.length ≤ 1000) ∧ c.p.hw.length ≤ 1000 := by
  have h1 := h.hf
  unfold NO.pfewB at h1
  rw [Bool.and_eq_true, decide_eq_true_eq, NO.few_iff] at h1
  exact ⟨h1.1.1, h1.1.2, by omega⟩
theorem few_of {x : SiteV} {ls : List LV} {c : CaseV} (h : elongB x ls c = false) : FewC x ls c := by
  unfold elongB at h
  simp only [Bool.or_eq_false_iff, decide_eq_false_iff_not, Bool.not_eq_false'] at h
  obtain ⟨⟨⟨h1, h2⟩, h3⟩, h4⟩ := h
  refine ⟨h2, by omega, by omega, fun y hy => ?_⟩
  have := List.any_eq_false.1 h1 y hy
  simp at this
  omega
end Go.Proofs.YtmaohnbddlccdaaGreat
