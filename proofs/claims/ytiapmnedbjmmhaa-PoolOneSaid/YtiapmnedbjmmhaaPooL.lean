/- pool, pure: the addresses of leases that are bound so, rising; the greatest ones of them. (Names no function of the program.) -/
import Derived.Test.YtiapmnedbjmmhaaLeaP
namespace Go.Proofs.Ytiapmnedbjmmhaa

/-- x ahead of the first one that is not smaller. -/
def insA (x : Nat) : List Nat → List Nat
  | [] => [x]
  | y :: r => if y < x then y :: insA x r else x :: y :: r
def srtA (l : List Nat) : List Nat := l.foldl (fun acc x => insA x acc) []
/-- The addresses of those that are bound so. -/
def ownOf (b : Int) (L : List LV) : List Nat := (L.filter fun y => y.bind == b).map LV.addr
def ownA (b : Int) (L : List LV) : List Nat := srtA (ownOf b L)
/-- The n greatest ones. -/
def topA (n : Nat) (l : List Nat) : List Nat := l.drop (l.length - n)

theorem insA_split (x : Nat) : ∀ l : List Nat, insA x l = l.takeWhile (fun y => decide (y < x)) ++ x :: l.dropWhile (fun y => decide (y < x))
  | [] => rfl
  | y :: r => by
    unfold insA
    by_cases h : y < x
    · rw [if_pos h, insA_split x r, List.takeWhile_cons_of_pos (by simpa using h), List.dropWhile_cons_of_pos (by simpa using h)]; rfl
    · rw [if_neg h, List.takeWhile_cons_of_neg (by simpa using h), List.dropWhile_cons_of_neg (by simpa using h)]; rfl
theorem insA_perm (x : Nat) : ∀ l : List Nat, (insA x l).Perm (x :: l)
  | [] => List.Perm.refl _
  | y :: r => by
    unfold insA
    split
    · exact ((insA_perm x r).cons y).trans (List.Perm.swap x y r)
    · exact List.Perm.refl _
theorem insA_length (x : Nat) (l : List Nat) : (insA x l).length = l.length + 1 := by
  rw [(insA_perm x l).length_eq]; rfl
theorem insA_up (x : Nat) : ∀ l : List Nat, l.Pairwise (· ≤ ·) → (insA x l).Pairwise (· ≤ ·)
  | [], _ => List.pairwise_singleton _ _
  | y :: r, h => by
    obtain ⟨h1, h2⟩ := List.pairwise_cons.1 h
    unfold insA
    split
    · rename_i hlt
      refine List.pairwise_cons.2 ⟨fun z hz => ?_, insA_up x r h2⟩
      rcases List.mem_cons.1 ((insA_perm x r).mem_iff.1 hz) with rfl | hz
      · omega
      · exact h1 z hz
    · rename_i hge
      refine List.pairwise_cons.2 ⟨fun z hz => ?_, h⟩
      rcases List.mem_cons.1 hz with rfl | hz
      · omega
      · have := h1 z hz; omega
theorem srt_fold_perm (l : List Nat) : ∀ acc : List Nat, (l.foldl (fun acc x => insA x acc) acc).Perm (l ++ acc) := by
  induction l with
  | nil => intro acc; exact List.Perm.refl _
  | cons x r ih =>
    intro acc
    refine (ih (insA x acc)).trans ?_
    exact ((insA_perm x acc).append_left r).trans List.perm_middle
theorem srt_fold_up (l : List Nat) : ∀ acc : List Nat, acc.Pairwise (· ≤ ·) → (l.foldl (fun acc x => insA x acc) acc).Pairwise (· ≤ ·) := by
  induction l with
  | nil => intro acc h; exact h
  | cons x r ih => intro acc h; exact ih _ (insA_up x acc h)
theorem srtA_perm (l : List Nat) : (srtA l).Perm l := by
  have h := srt_fold_perm l []
  rwa [List.append_nil] at h
theorem srtA_up (l : List Nat) : (srtA l).Pairwise (· ≤ ·) := srt_fold_up l [] List.Pairwise.nil
theorem srtA_snoc (l : List Nat) (x : Nat) : srtA (l ++ [x]) = insA x (srtA l) := by simp [srtA]
/-- Whatever rises and has just these is it. -/
theorem srtA_only {l m : List Nat} (hp : m.Perm l) (hu : m.Pairwise (· ≤ ·)) : m = srtA l :=
  List.Perm.eq_of_pairwise (fun _ _ _ _ h1 h2 => Nat.le_antisymm h1 h2) hu (srtA_up l) (hp.trans (srtA_perm l).symm)
theorem ownA_length (b : Int) (L : List LV) : (ownA b L).length = L.countP fun y => y.bind == b := by
  unfold ownA
  rw [(srtA_perm _).length_eq, ownOf, List.length_map, List.countP_eq_length_filter]
theorem topA_length {n : Nat} {l : List Nat} (h : n ≤ l.length) : (topA n l).length = n := by
  unfold topA; rw [List.length_drop]; omega
theorem topA_nil (l : List Nat) : topA 0 l = [] := by unfold topA; simp
theorem mem_own {b : Int} {L : List LV} {a : Nat} : a ∈ ownA b L ↔ ∃ x ∈ L, x.bind = b ∧ x.addr = a := by
  unfold ownA
  rw [(srtA_perm _).mem_iff, ownOf, List.mem_map]
  constructor
  · rintro ⟨x, hx, e⟩
    obtain ⟨h1, h2⟩ := List.mem_filter.1 hx
    exact ⟨x, h1, by simpa using h2, e⟩
  · rintro ⟨x, hx, hb, e⟩
    exact ⟨x, List.mem_filter.2 ⟨hx, by simpa using hb⟩, e⟩
theorem mem_top {n : Nat} {l : List Nat} {a : Nat} (h : a ∈ topA n l) : a ∈ l := List.mem_of_mem_drop h

/-- Each address once. -/
def OnceL (L : List LV) : Prop := (L.map LV.addr).Nodup
theorem own_once {b : Int} {L : List LV} (h : OnceL L) : (ownA b L).Nodup := by
  unfold ownA
  rw [(srtA_perm _).nodup_iff]
  exact List.Sublist.nodup (List.Sublist.map _ List.filter_sublist) h
theorem own_rise {b : Int} {L : List LV} (h : OnceL L) : (ownA b L).Pairwise (· < ·) := by
  have h1 := srtA_up (ownOf b L)
  have h2 := own_once (b := b) h
  exact (h1.and h2).imp fun ⟨a, b⟩ => by omega
theorem top_rise {n : Nat} {l : List Nat} (h : l.Pairwise (· < ·)) : (topA n l).Pairwise (· < ·) := h.sublist (List.drop_sublist _ _)
/-- Just the given ones are counted, each once. -/
theorem top_count {b : Int} {L : List LV} (h : OnceL L) (n : Nat) : (L.filter fun y => (y.bind == b) && decide (y.addr ∈ topA n (ownA b L))).length = (topA n (ownA b L)).length := by
  have e1 : (L.filter fun y => (y.bind == b) && decide (y.addr ∈ topA n (ownA b L))) = (L.filter fun y => y.bind == b).filter fun y => decide (y.addr ∈ topA n (ownA b L)) := by
    rw [List.filter_filter]
    exact List.filter_congr fun y _ => Bool.and_comm _ _
  rw [e1]
  have e2 : ((L.filter fun y => y.bind == b).filter fun y => decide (y.addr ∈ topA n (ownA b L))).length = ((ownOf b L).filter fun a => decide (a ∈ topA n (ownA b L))).length := by
    unfold ownOf
    rw [List.filter_map, List.length_map]
    rfl
  rw [e2, ← ((srtA_perm (ownOf b L)).filter _).length_eq]
  show ((ownA b L).filter _).length = _
  have hn := own_once (b := b) h
  generalize ownA b L = o at *
  unfold topA
  generalize o.length - n = k
  have hs : o = o.take k ++ o.drop k := (List.take_append_drop k o).symm
  rw [hs, List.nodup_append] at hn
  obtain ⟨h1, h2, h3⟩ := hn
  conv => lhs; rw [hs]
  rw [List.filter_append, List.filter_eq_nil_iff.2 ?_, List.nil_append, List.filter_eq_self.2 ?_]
  · intro a ha
    rw [List.take_append_drop]
    simpa using ha
  · intro a ha
    rw [List.take_append_drop]
    simp only [decide_eq_true_eq]
    intro hd
    exact h3 a ha a hd rfl
/-- What is one's own and is not given is smaller than all that is given. -/
theorem top_above {n : Nat} {l : List Nat} (h : l.Pairwise (· < ·)) {a g : Nat} {r : List Nat} (ha : a ∈ l) (hn : a ∉ topA n l) (hg : topA n l = g :: r) : a < g := by
  unfold topA at hn hg
  generalize l.length - n = k at *
  rw [← List.take_append_drop k l, List.mem_append] at ha
  rw [← List.take_append_drop k l, List.pairwise_append] at h
  rcases ha with ha | ha
  · exact h.2.2 a ha g (by rw [hg]; exact List.mem_cons_self)
  · exact absurd ha hn
end Go.Proofs.Ytiapmnedbjmmhaa
