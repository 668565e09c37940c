/- The states of a server, pure: the next state, as numbers; what leads to what. (Names no function of the program.) -/
import Derived.RowKit
namespace Go.Proofs.Ytcgfldfjadmpdaa

/-- Is a state torn, calm? -/
def TornI (s : Int) : Prop := s = 4 ∨ s = 5
def CalmI (s : Int) : Prop := s = 0 ∨ s = 1 ∨ s = 2 ∨ s = 8
instance (s : Int) : Decidable (TornI s) := by unfold TornI; infer_instance
instance (s : Int) : Decidable (CalmI s) := by unfold CalmI; infer_instance
/-- Behind hearing the other one. -/
def heardI (s o : Int) : Int :=
  if s = 0 then (if o = 3 then 6 else if TornI o then 4 else if CalmI o then 1 else s)
  else if s = 1 then (if o = 3 ∨ TornI o then 4 else s)
  else if s = 2 then (if o = 3 ∨ TornI o then 4 else if CalmI o then 1 else s)
  else if s = 3 then (if o = 1 ∨ o = 2 ∨ o = 3 ∨ TornI o then 4 else s)
  else if s = 5 then 4
  else if s = 8 then (if o = 1 then 1 else if TornI o then 4 else s)
  else s
def syncedI (s o : Int) : Int :=
  if s = 3 then (if o = 8 then 1 else s)
  else if s = 4 then (if o = 1 ∨ o = 4 then 1 else s)
  else if s = 6 then 7 else s
/-- The numbers of the events: Heard, Lost, Order, Synced, Waited are letters here. -/
structure EvI where
  heard : Int
  lost : Int
  order : Int
  synced : Int
  waited : Int
def nextI (E : EvI) (s e o : Int) : Int :=
  if e = E.heard then heardI s o
  else if e = E.synced then syncedI s o
  else if e = E.lost then (if s = 1 then 2 else if s = 4 then 5 else s)
  else if e = E.order then (if s = 0 ∨ s = 2 ∨ s = 5 then 3 else s)
  else if e = E.waited then (if s = 7 then 8 else s)
  else s
def ServesI (s : Int) : Prop := s = 1 ∨ s = 2 ∨ s = 3
instance (s : Int) : Decidable (ServesI s) := by unfold ServesI; infer_instance
def restartI (s : Int) : Int := if s = 3 then 3 else 0

theorem heardI_in (s o : Int) (h : 0 ≤ s ∧ s ≤ 8) : 0 ≤ heardI s o ∧ heardI s o ≤ 8 ∧ (heardI s o = 3 → s = 3) := by
  unfold heardI
  (repeat' split) <;> omega
theorem syncedI_in (s o : Int) (h : 0 ≤ s ∧ s ≤ 8) : 0 ≤ syncedI s o ∧ syncedI s o ≤ 8 ∧ (syncedI s o = 3 → s = 3) := by
  unfold syncedI
  (repeat' split) <;> omega
/-- States lead to states; only an order leads to PartnerDown. -/
theorem nextI_in (E : EvI) (s e o : Int) (h : 0 ≤ s ∧ s ≤ 8) : 0 ≤ nextI E s e o ∧ nextI E s e o ≤ 8 ∧ (nextI E s e o = 3 → s = 3 ∨ e = E.order) := by
  unfold nextI
  split
  · obtain ⟨h1, h2, h3⟩ := heardI_in s o h
    exact ⟨h1, h2, fun e => .inl (h3 e)⟩
  split
  · obtain ⟨h1, h2, h3⟩ := syncedI_in s o h
    exact ⟨h1, h2, fun e => .inl (h3 e)⟩
  (repeat' split) <;> omega
/-- A server that began anew, and heard nothing, is where it began. -/
theorem nextI_quiet (E : EvI) (e o : Int) (h1 : e ≠ E.heard) (h2 : e ≠ E.order) : nextI E 0 e o = 0 := by
  unfold nextI syncedI
  rw [if_neg h1]
  (repeat' split) <;> omega
/-- Where it recovers: it does not serve but behind hearing that the other one is Normal, behind telling all, or in another state than Normal. -/
def RecI (s : Int) : Prop := s = 4 ∨ s = 5 ∨ s = 6 ∨ s = 7 ∨ s = 8
theorem nextI_rec (E : EvI) (s e o : Int) (h : RecI s) : (e = E.heard ∧ o = 1) ∨ nextI E s e o ≠ 1 ∨ e = E.synced := by
  by_cases h1 : e = E.heard
  · by_cases ho : o = 1
    · exact .inl ⟨h1, ho⟩
    · refine .inr (.inl ?_)
      unfold nextI heardI
      unfold RecI at h
      rw [if_pos h1]
      (repeat' split) <;> omega
  by_cases h2 : e = E.synced
  · exact .inr (.inr h2)
  · refine .inr (.inl ?_)
    unfold nextI
    unfold RecI at h
    rw [if_neg h1, if_neg h2]
    (repeat' split) <;> omega
theorem nextI_rec_on (E : EvI) (s e o : Int) (h : RecI s) (hs : ¬ ServesI (nextI E s e o)) : RecI (nextI E s e o) := by
  have hb : 0 ≤ nextI E s e o ∧ nextI E s e o ≤ 8 ∧ nextI E s e o ≠ 0 := by
    unfold RecI at h
    refine ⟨(nextI_in E s e o (by omega)).1, (nextI_in E s e o (by omega)).2.1, ?_⟩
    unfold nextI heardI syncedI
    (repeat' split) <;> omega
  unfold ServesI at hs
  unfold RecI
  omega
/-- Two of which nothing is torn: who heard the other one is Normal, and stays so. -/
def Calm3 (s : Int) : Prop := s = 0 ∨ s = 1 ∨ s = 2
theorem heardI_meets (a b : Int) (ha : Calm3 a) (hb : Calm3 b) : heardI a b = 1 := by
  unfold Calm3 at ha hb
  unfold heardI TornI CalmI
  (repeat' split) <;> omega
end Go.Proofs.Ytcgfldfjadmpdaa
