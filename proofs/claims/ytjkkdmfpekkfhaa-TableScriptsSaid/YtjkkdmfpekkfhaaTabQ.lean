/- Orders of leases as the program's closures tell them: by address, and by (Until, address); a list that was sorted by one is the one list that rises. -/
import Derived.Test.YtjkkdmfpekkfhaaTabC
import Derived.Test.YtjkkdmfpekkfhaaSorG
namespace Go.Proofs.Ytjkkdmfpekkfhaa
open Go.Sort Go.Shelf

theorem cmpA_lt (x y : LV) : ltOf cmpA x y = decide (x.addr < y.addr) := by
  unfold ltOf cmpA cmpN
  by_cases h1 : x.addr < y.addr
  · simp [h1]
  · by_cases h2 : y.addr < x.addr <;> simp [h1, h2]
theorem cmpD_lt (x y : LV) : ltOf cmpD x y = decide (x.unt < y.unt ∨ (x.unt = y.unt ∧ x.addr < y.addr)) := by
  unfold ltOf cmpD cmpI cmpN
  rcases Int.lt_trichotomy x.unt y.unt with h | h | h
  · simp [h]
  · by_cases h1 : x.addr < y.addr
    · simp [h, h1]
    · by_cases h2 : y.addr < x.addr <;> simp [h, h1, h2]
  · have h1 : ¬ x.unt < y.unt := by omega
    have h2 : x.unt ≠ y.unt := by omega
    simp [h, h1, h2]
theorem swoA : SWO (ltOf cmpA) where
  irrefl x := by rw [cmpA_lt]; simp
  trans x y z h1 h2 := by rw [cmpA_lt] at *; simp at *; omega
  ntrans x y z h1 h2 := by rw [cmpA_lt] at *; simp at *; omega
theorem swoD : SWO (ltOf cmpD) where
  irrefl x := by rw [cmpD_lt]; simp
  trans x y z h1 h2 := by rw [cmpD_lt] at *; simp at *; omega
  ntrans x y z h1 h2 := by rw [cmpD_lt] at *; simp at *; omega

/-- What the sort tells of its row, as a list. -/
theorem sorted_list {α : Type} [Inhabited α] (lt : α → α → Bool) (d : Array α) (n : Nat) (hd : d.size = n) (hS : ∀ i j, 0 ≤ i → i < j → j < n → lt d[j]! d[i]! = false) : d.toList.Pairwise fun x y => lt y x = false := by
  refine List.pairwise_iff_getElem.2 fun i j hi hj hij => ?_
  have := hS i j (Nat.zero_le _) hij (by simpa [hd] using hj)
  rwa [getElem!_pos _ j (by simpa using hj), getElem!_pos _ i (by simpa using hi)] at this

/-- Sorted by address: the table's own order. -/
theorem addr_only {L l : List LV} (h : L.Pairwise fun a b => a.addr < b.addr) (hp : l.Perm L) (hs : l.Pairwise fun x y => ltOf cmpA y x = false) : l = L := by
  have hn : l.Pairwise fun a b => a.addr ≠ b.addr := (hp.symm.pairwise_iff (fun {a b} (e : a.addr ≠ b.addr) => e.symm)).1 (h.imp fun e => Nat.ne_of_lt e)
  have hl : l.Pairwise fun a b => a.addr < b.addr := by
    refine (hs.and hn).imp fun {a b} e => ?_
    obtain ⟨e1, e2⟩ := e
    rw [cmpA_lt] at e1
    simp at e1
    omega
  exact rise_unique (fun _ _ e1 e2 => by omega) hp hl h
/-- Those that are due, sorted by (Until, address), are the document's. -/
theorem due_sorted {L l : List LV} {now : Int} (h : TabL L) (hp : l.Perm (L.filter (actL now))) (hs : l.Pairwise fun x y => ltOf cmpD y x = false) : l = dueL L now := by
  have hf : (L.filter (actL now)).Pairwise fun a b => a.addr ≠ b.addr := (h.up.filter _).imp fun e => Nat.ne_of_lt e
  have hn : l.Pairwise fun a b => a.addr ≠ b.addr := (hp.symm.pairwise_iff (fun {a b} (e : a.addr ≠ b.addr) => e.symm)).1 hf
  refine due_only h hp ?_
  refine (hs.and hn).imp fun {a b} e => ?_
  obtain ⟨e1, e2⟩ := e
  rw [cmpD_lt] at e1
  simp at e1
  unfold ltD
  omega
end Go.Proofs.Ytjkkdmfpekkfhaa
