/- Logs, pure: what a disk holds behind the deeds of a log upon it. -/
import Derived.Test.YtdeahiccgjldbaaFrmQ
import Derived.Test.YtdeahiccgjldbaaDskM
namespace Go.Proofs.Ytdeahiccgjldbaa

instance (r : List UInt8) : Decidable (GoodF r) := by unfold GoodF; infer_instance
/-- The deeds of a log: opening, appending, putting others in their place. -/
def openW (s : DS) : Int × DS := if tot (scanL s.bs) = s.bs.length then (0, s) else swapD s (s.bs.take (tot (scanL s.bs)))
def appW (s : DS) (b : List UInt8) : Int × DS := if GoodF b then appD s (fr b) else (1, s)
def compW (s : DS) (l : List (List UInt8)) : Int × DS := if ∀ r ∈ l, GoodF r then swapD s (frs l) else (1, s)
def againW (s : DS) (n : Int) : Int × DS := openW (crashD s n)

theorem open_ok {s : DS} (h : s.Ok) : (openW s).2.Ok := by
  unfold openW
  split
  · exact h
  · exact swap_ok h _
theorem appW_ok {s : DS} (h : s.Ok) (b : List UInt8) : (appW s b).2.Ok := by
  unfold appW
  split
  · exact app_ok h _
  · exact h
theorem comp_ok {s : DS} (h : s.Ok) (l : List (List UInt8)) : (compW s l).2.Ok := by
  unfold compW
  split
  · exact swap_ok h _
  · exact h
theorem again_ok {s : DS} (h : s.Ok) (n : Int) : (againW s n).2.Ok := open_ok (crash_ok h n)

/-- A disk that holds whole frames alone. -/
def Whl (s : DS) : Prop := s.bs = frs (scanL s.bs)
theorem Whl.of {s : DS} {rs : List (List UInt8)} (h : s.bs = frs rs) (hg : ∀ r ∈ rs, GoodF r) : Whl s ∧ scanL s.bs = rs := by
  have e : scanL s.bs = rs := by rw [h, scan_self hg]
  exact ⟨by unfold Whl; rw [e]; exact h, e⟩
theorem Whl.good {s : DS} (_ : Whl s) : ∀ r ∈ scanL s.bs, GoodF r := (scan_back s.bs).1
theorem Whl.len {s : DS} (h : Whl s) : tot (scanL s.bs) = s.bs.length := by
  have h2 := congrArg List.length h
  rw [frs_length] at h2
  exact h2.symm
theorem Whl.open_ {s : DS} (h : Whl s) : openW s = (0, s) := by unfold openW; rw [if_pos h.len]
theorem Whl.new (room : Nat) (last : Nat) (left : Int) : Whl ⟨room, [], last, left⟩ := rfl
theorem Whl.same {s t : DS} (h : Whl s) (e : t.bs = s.bs) : Whl t := by unfold Whl; rw [e]; exact h

theorem count_bs (s : DS) : s.count.bs = s.bs := rfl
theorem app_same {s : DS} {b : List UInt8} (h : (appD s b).1 ≠ 0) : (appD s b).2.bs = s.bs := by
  unfold appD at h ⊢
  split
  · rfl
  · split
    · rfl
    · rename_i h1 h2
      rw [if_neg h1, if_neg h2] at h
      exact absurd rfl h
theorem app_more {s : DS} {b : List UInt8} (h : (appD s b).1 = 0) : (appD s b).2.bs = s.bs ++ b ∧ (appD s b).2.last = s.last := by
  unfold appD at h ⊢
  split
  · rename_i h1; rw [if_pos h1] at h; simp at h
  · split
    · rename_i h1 h2; rw [if_neg h1, if_pos h2] at h; simp at h
    · exact ⟨rfl, rfl⟩
theorem swap_same {s : DS} {b : List UInt8} (h : (swapD s b).1 ≠ 0) : (swapD s b).2.bs = s.bs := by
  unfold swapD at h ⊢
  split
  · rfl
  · split
    · rfl
    · rename_i h1 h2
      rw [if_neg h1, if_neg h2] at h
      exact absurd rfl h
theorem swap_more {s : DS} {b : List UInt8} (h : (swapD s b).1 = 0) : (swapD s b).2.bs = b ∧ (swapD s b).2.last = b.length := by
  unfold swapD at h ⊢
  split
  · rename_i h1; rw [if_pos h1] at h; simp at h
  · split
    · rename_i h1 h2; rw [if_neg h1, if_pos h2] at h; simp at h
    · exact ⟨rfl, rfl⟩
theorem sync_bs (s : DS) : (syncD s).2.bs = s.bs := by unfold syncD; split <;> rfl

/-- What was refused changes nothing; what was appended is the last record. -/
theorem appW_more {s : DS} {b : List UInt8} (h : Whl s) (h0 : (appW s b).1 = 0) : scanL (appW s b).2.bs = scanL s.bs ++ [b] ∧ Whl (appW s b).2 ∧ GoodF b ∧ (appW s b).2.last = s.last := by
  unfold appW at h0 ⊢
  split
  · rename_i hg
    rw [if_pos hg] at h0
    obtain ⟨h1, h2⟩ := app_more h0
    have e : (appD s (fr b)).2.bs = frs (scanL s.bs ++ [b]) := by rw [h1, frs_snoc, ← h]
    have hgl : ∀ r ∈ scanL s.bs ++ [b], GoodF r := fun r hr => by
      rcases List.mem_append.1 hr with hr | hr
      · exact h.good r hr
      · simp at hr; subst hr; exact hg
    obtain ⟨k1, k2⟩ := Whl.of e hgl
    exact ⟨k2, k1, hg, h2⟩
  · rename_i hg
    rw [if_neg hg] at h0
    simp at h0
theorem appW_same {s : DS} {b : List UInt8} (h0 : (appW s b).1 ≠ 0) : (appW s b).2.bs = s.bs := by
  unfold appW at h0 ⊢
  split
  · rename_i hg
    rw [if_pos hg] at h0
    exact app_same h0
  · rfl
theorem compW_more {s : DS} {l : List (List UInt8)} (h0 : (compW s l).1 = 0) : scanL (compW s l).2.bs = l ∧ Whl (compW s l).2 ∧ (compW s l).2.last = (compW s l).2.bs.length := by
  unfold compW at h0 ⊢
  split
  · rename_i hg
    rw [if_pos hg] at h0
    obtain ⟨h1, h2⟩ := swap_more h0
    obtain ⟨k1, k2⟩ := Whl.of h1 hg
    exact ⟨k2, k1, by rw [h1, h2]⟩
  · rename_i hg
    rw [if_neg hg] at h0
    simp at h0
theorem compW_same {s : DS} {l : List (List UInt8)} (h0 : (compW s l).1 ≠ 0) : (compW s l).2.bs = s.bs := by
  unfold compW at h0 ⊢
  split
  · rename_i hg
    rw [if_pos hg] at h0
    exact swap_same h0
  · rfl

/-- Behind a crash opening succeeds, and finds the whole frames of what was kept. -/
theorem again_opens {s : DS} (h : s.Ok) (n : Int) : (againW s n).1 = 0 ∧ (againW s n).2.bs = frs (scanL (crashD s n).bs) ∧ Whl (againW s n).2 ∧ scanL (againW s n).2.bs = scanL (crashD s n).bs ∧ (againW s n).2.left = -1 ∧ (againW s n).2.last = (againW s n).2.bs.length := by
  have hc := crash_ok h n
  have hl := crash_len h n
  have hg := (scan_back (crashD s n).bs).1
  have key : (againW s n).1 = 0 ∧ (againW s n).2.bs = frs (scanL (crashD s n).bs) ∧ (againW s n).2.left = -1 ∧ (againW s n).2.last = (againW s n).2.bs.length := by
    unfold againW openW
    split
    · rename_i ht
      refine ⟨rfl, scan_all ht, rfl, ?_⟩
      show (crashD s n).last = (crashD s n).bs.length
      rw [hl]
      rfl
    · have h1 : ¬ (crashD s n).left = 0 := by show ¬ (-1 : Int) = 0; omega
      have h2 : ¬ (crashD s n).room < ((crashD s n).bs.take (tot (scanL (crashD s n).bs))).length := by
        have := hc.len
        rw [List.length_take]
        omega
      unfold swapD
      rw [if_neg h1, if_neg h2]
      refine ⟨rfl, scan_take _, ?_, rfl⟩
      show (if (-1 : Int) = -1 then (-1 : Int) else -1 - 1) = -1
      rw [if_pos rfl]
  obtain ⟨k1, k2, k3, k4⟩ := key
  obtain ⟨m1, m2⟩ := Whl.of k2 hg
  exact ⟨k1, k2, m1, m2, k3, k4⟩

/-- A disk that lasts, with its records, and how many of these were synced. -/
structure Lst (s : DS) (all : List (List UInt8)) (sure : Nat) : Prop where
  left : s.left = -1
  bs : s.bs = frs all
  good : ∀ r ∈ all, GoodF r
  last : s.last = tot (all.take sure)
  sure : sure ≤ all.length
section
variable {s : DS} {all : List (List UInt8)} {sure : Nat}
theorem Lst.whl (h : Lst s all sure) : Whl s ∧ scanL s.bs = all := Whl.of h.bs h.good
theorem Lst.new (room : Nat) : Lst ⟨room, [], 0, -1⟩ [] 0 := ⟨rfl, rfl, fun r h => by simp at h, rfl, Nat.le_refl _⟩
theorem Lst.app (h : Lst s all sure) (b : List UInt8) (h0 : (appW s b).1 = 0) : Lst (appW s b).2 (all ++ [b]) sure := by
  obtain ⟨k1, k2, k3, k4⟩ := appW_more h.whl.1 h0
  rw [h.whl.2] at k1
  refine ⟨?_, ?_, fun r hr => ?_, ?_, by rw [List.length_append]; have := h.sure; omega⟩
  · unfold appW appD
    rw [if_pos k3]
    have hl := h.left
    split
    · omega
    · split <;> (show (if s.left = -1 then _ else _) = _; rw [if_pos hl]; exact hl)
  · unfold Whl at k2
    rw [k1] at k2
    exact k2
  · rcases List.mem_append.1 hr with hr | hr
    · exact h.good r hr
    · simp at hr; subst hr; exact k3
  · rw [k4, h.last, List.take_append_of_le_length h.sure]
theorem Lst.refused (h : Lst s all sure) (b : List UInt8) (h0 : (appW s b).1 ≠ 0) : Lst (appW s b).2 all sure := by
  have hl := h.left
  have key : (appW s b).2.left = -1 ∧ (appW s b).2.last = s.last := by
    unfold appW appD at h0 ⊢
    split
    · split
      · exact ⟨hl, rfl⟩
      · split
        · exact ⟨by show (if s.left = -1 then _ else _) = _; rw [if_pos hl]; exact hl, rfl⟩
        · exact ⟨by show (if s.left = -1 then _ else _) = _; rw [if_pos hl]; exact hl, rfl⟩
    · exact ⟨hl, rfl⟩
  exact ⟨key.1, (appW_same h0).trans h.bs, h.good, key.2.trans h.last, h.sure⟩
theorem Lst.sync (h : Lst s all sure) : (syncD s).1 = 0 ∧ Lst (syncD s).2 all all.length := by
  have hl := h.left
  unfold syncD
  rw [if_neg (by omega)]
  refine ⟨rfl, ⟨?_, h.bs, h.good, ?_, Nat.le_refl _⟩⟩
  · show (if s.left = -1 then _ else _) = _; rw [if_pos hl]; exact hl
  · show s.bs.length = _
    rw [h.bs, frs_length, List.take_length]
/-- Behind any crash: a beginning of what was appended, with all that was synced. -/
theorem Lst.again (h : Lst s all sure) (hok : s.Ok) (n : Int) : ∃ wh, sure ≤ wh ∧ wh ≤ all.length ∧ scanL (againW s n).2.bs = all.take wh := by
  obtain ⟨_, _, _, k4, _, _⟩ := again_opens hok n
  obtain ⟨wh, h1, h2, h3, h4⟩ := cut_some all h.good (s.last + kept s n)
  refine ⟨wh, h4 sure h.sure (by rw [h.last]; omega), h1, ?_⟩
  rw [k4]
  show scanL (s.bs.take (s.last + kept s n)) = _
  rw [h.bs]
  exact h3
end
/-- Behind a crash that keeps nothing more a disk that lasts as a whole is as it was. -/
theorem again_last {s : DS} (hw : Whl s) (hl : s.last = s.bs.length) (n : Int) : (crashD s n).bs = s.bs ∧ (againW s n).1 = 0 ∧ (againW s n).2.bs = s.bs := by
  have e : (crashD s n).bs = s.bs := by
    show s.bs.take (s.last + kept s n) = s.bs
    rw [List.take_of_length_le (by omega)]
  have hw2 : Whl (crashD s n) := hw.same e
  refine ⟨e, ?_, ?_⟩
  · unfold againW; rw [hw2.open_]
  · unfold againW; rw [hw2.open_]; exact e
end Go.Proofs.Ytdeahiccgjldbaa
