/- Joined texts: WalP, WalM, WalC, WalR, WalN. -/
import Derived.Test.YtalmjmhbpmhokaaGreatMrgFrmP
import Derived.Test.YtalmjmhbpmhokaaGreatMrgDskM
import Derived.Test.YtalmjmhbpmhokaaGreatMrgDskR
import Derived.Test.YtalmjmhbpmhokaaGreatMrgFrmR

/- Logs, pure: what a disk holds behind the deeds of a log upon it. -/
section
namespace Go.Proofs.YtalmjmhbpmhokaaGreat

instance (r : List UInt8) : Decidable (GoodF r) := by unfold GoodF; infer_instance
/-- The deeds of a log: opening, appending, putting others in their place. -/
def openW (s : DS) : Int × DS := if tot (scanL s.bs) = s.bs.length then (0, s) else swapD s (s.bs.take (tot (scanL s.bs)))
def appW (s : DS) (b : List UInt8) : Int × DS := if GoodF b then appD s (fr b) else (1, s)
def compW (s : DS) (l : List (List UInt8)) : Int × DS := if ∀ r ∈ l, GoodF r then swapD s (frs l) else (1, s)
def againW (s : DS) (n : Int) : Int × DS := openW (crashD s n)

theorem open_ok {s : DS} (h : s.Ok) : (openW s).2.Ok := by
  unfold openW
  split
  · exact h
  · exact swap_ok h _
theorem appW_ok {s : DS} (h : s.Ok) (b : List UInt8) : (appW s b).2.Ok := by
  unfold appW
  split
  · exact app_ok h _
  · exact h
theorem comp_ok {s : DS} (h : s.Ok) (l : List (List UInt8)) : (compW s l).2.Ok := by
  unfold compW
  split
  · exact swap_ok h _
  · exact h
theorem again_ok {s : DS} (h : s.Ok) (n : Int) : (againW s n).2.Ok := open_ok (crash_ok h n)

/-- A disk that holds whole frames alone. -/
def Whl (s : DS) : Prop := s.bs = frs (scanL s.bs)
theorem Whl.of {s : DS} {rs : List (List UInt8)} (h : s.bs = frs rs) (hg : ∀ r ∈ rs, GoodF r) : Whl s ∧ scanL s.bs = rs := by
  have e : scanL s.bs = rs := by rw [h, scan_self hg]
  exact ⟨by unfold Whl; rw [e]; exact h, e⟩
theorem Whl.good {s : DS} (_ : Whl s) : ∀ r ∈ scanL s.bs, GoodF r := (scan_back s.bs).1
theorem Whl.len {s : DS} (h : Whl s) : tot (scanL s.bs) = s.bs.length := by
  have h2 := congrArg List.length h
  rw [frs_length] at h2
  exact h2.symm
theorem Whl.open_ {s : DS} (h : Whl s) : openW s = (0, s) := by unfold openW; rw [if_pos h.len]
theorem Whl.new (room : Nat) (last : Nat) (left : Int) : Whl ⟨room, [], last, left⟩ := rfl
theorem Whl.same {s t : DS} (h : Whl s) (e : t.bs = s.bs) : Whl t := by unfold Whl; rw [e]; exact h

theorem count_bs (s : DS) : s.count.bs = s.bs := rfl
theorem app_same {s : DS} {b : List UInt8} (h : (appD s b).1 ≠ 0) : (appD s b).2.bs = s.bs := by
  unfold appD at h ⊢
  split
  · rfl
  · split
    · rfl
    · rename_i h1 h2
      rw [if_neg h1, if_neg h2] at h
      exact absurd rfl h
theorem app_more {s : DS} {b : List UInt8} (h : (appD s b).1 = 0) : (appD s b).2.bs = s.bs ++ b ∧ (appD s b).2.last = s.last := by
  unfold appD at h ⊢
  split
  · rename_i h1; rw [if_pos h1] at h; simp at h
  · split
    · rename_i h1 h2; rw [if_neg h1, if_pos h2] at h; simp at h
    · exact ⟨rfl, rfl⟩
theorem swap_same {s : DS} {b : List UInt8} (h : (swapD s b).1 ≠ 0) : (swapD s b).2.bs = s.bs := by
  unfold swapD at h ⊢
  split
  · rfl
  · split
    · rfl
    · rename_i h1 h2
      rw [if_neg h1, if_neg h2] at h
      exact absurd rfl h
theorem swap_more {s : DS} {b : List UInt8} (h : (swapD s b).1 = 0) : (swapD s b).2.bs = b ∧ (swapD s b).2.last = b.length := by
  unfold swapD at h ⊢
  split
  · rename_i h1; rw [if_pos h1] at h; simp at h
  · split
    · rename_i h1 h2; rw [if_neg h1, if_pos h2] at h; simp at h
    · exact ⟨rfl, rfl⟩
theorem sync_bs (s : DS) : (syncD s).2.bs = s.bs := by unfold syncD; split <;> rfl

/-- What was refused changes nothing; what was appended is the last record. -/
theorem appW_more {s : DS} {b : List UInt8} (h : Whl s) (h0 : (appW s b).1 = 0) : scanL (appW s b).2.bs = scanL s.bs ++ [b] ∧ Whl (appW s b).2 ∧ GoodF b ∧ (appW s b).2.last = s.last := by
  unfold appW at h0 ⊢
  split
  · rename_i hg
    rw [if_pos hg] at h0
    obtain ⟨h1, h2⟩ := app_more h0
    have e : (appD s (fr b)).2.bs = frs (scanL s.bs ++ [b]) := by rw [h1, frs_snoc, ← h]
    have hgl : ∀ r ∈ scanL s.bs ++ [b], GoodF r := fun r hr => by
      rcases List.mem_append.1 hr with hr | hr
      · exact h.good r hr
      · simp at hr; subst hr; exact hg
    obtain ⟨k1, k2⟩ := Whl.of e hgl
    exact ⟨k2, k1, hg, h2⟩
  · rename_i hg
    rw [if_neg hg] at h0
    simp at h0
theorem appW_same {s : DS} {b : List UInt8} (h0 : (appW s b).1 ≠ 0) : (appW s b).2.bs = s.bs := by
  unfold appW at h0 ⊢
  split
  · rename_i hg
    rw [if_pos hg] at h0
    exact app_same h0
  · rfl
theorem compW_more {s : DS} {l : List (List UInt8)} (h0 : (compW s l).1 = 0) : scanL (compW s l).2.bs = l ∧ Whl (compW s l).2 ∧ (compW s l).2.last = (compW s l).2.bs.length := by
  unfold compW at h0 ⊢
  split
  · rename_i hg
    rw [if_pos hg] at h0
    obtain ⟨h1, h2⟩ := swap_more h0
    obtain ⟨k1, k2⟩ := Whl.of h1 hg
    exact ⟨k2, k1, by rw [h1, h2]⟩
  · rename_i hg
    rw [if_neg hg] at h0
    simp at h0
theorem compW_same {s : DS} {l : List (List UInt8)} (h0 : (compW s l).1 ≠ 0) : (compW s l).2.bs = s.bs := by
  unfold compW at h0 ⊢
  split
  · rename_i hg
    rw [if_pos hg] at h0
    exact swap_same h0
  · rfl

/-- Behind a crash opening succeeds, and finds the whole frames of what was kept. -/
theorem again_opens {s : DS} (h : s.Ok) (n : Int) : (againW s n).1 = 0 ∧ (againW s n).2.bs = frs (scanL (crashD s n).bs) ∧ Whl (againW s n).2 ∧ scanL (againW s n).2.bs = scanL (crashD s n).bs ∧ (againW s n).2.left = -1 ∧ (againW s n).2.last = (againW s n).2.bs.length := by
  have hc := crash_ok h n
  have hl := crash_len h n
  have hg := (scan_back (crashD s n).bs).1
  have key : (againW s n).1 = 0 ∧ (againW s n).2.bs = frs (scanL (crashD s n).bs) ∧ (againW s n).2.left = -1 ∧ (againW s n).2.last = (againW s n).2.bs.length := by
    unfold againW openW
    split
    · rename_i ht
      refine ⟨rfl, scan_all ht, rfl, ?_⟩
      show (crashD s n).last = (crashD s n).bs.length
      rw [hl]
      rfl
    · have h1 : ¬ (crashD s n).left = 0 := by show ¬ (-1 : Int) = 0; omega
      have h2 : ¬ (crashD s n).room < ((crashD s n).bs.take (tot (scanL (crashD s n).bs))).length := by
        have := hc.len
        rw [List.length_take]
        omega
      unfold swapD
      rw [if_neg h1, if_neg h2]
      refine ⟨rfl, scan_take _, ?_, rfl⟩
      show (if (-1 : Int) = -1 then (-1 : Int) else -1 - 1) = -1
      rw [if_pos rfl]
  obtain ⟨k1, k2, k3, k4⟩ := key
  obtain ⟨m1, m2⟩ := Whl.of k2 hg
  exact ⟨k1, k2, m1, m2, k3, k4⟩

/-- A disk that lasts, with its records, and how many of these were synced. -/
structure Lst (s : DS) (all : List (List UInt8)) (sure : Nat) : Prop where
  left : s.left = -1
  bs : s.bs = frs all
  good : ∀ r ∈ all, GoodF r
  last : s.last = tot (all.take sure)
  sure : sure ≤ all.length
section
variable {s : DS} {all : List (List UInt8)} {sure : Nat}
theorem Lst.whl (h : Lst s all sure) : Whl s ∧ scanL s.bs = all := Whl.of h.bs h.good
theorem Lst.new (room : Nat) : Lst ⟨room, [], 0, -1⟩ [] 0 := ⟨rfl, rfl, fun r h => by simp at h, rfl, Nat.le_refl _⟩
theorem Lst.app (h : Lst s all sure) (b : List UInt8) (h0 : (appW s b).1 = 0) : Lst (appW s b).2 (all ++ [b]) sure := by
  obtain ⟨k1, k2, k3, k4⟩ := appW_more h.whl.1 h0
  rw [h.whl.2] at k1
  refine ⟨?_, ?_, fun r hr => ?_, ?_, by rw [List.length_append]; have := h.sure; omega⟩
  · unfold appW appD
    rw [if_pos k3]
    have hl := h.left
    split
    · omega
    · split <;> (show (if s.left = -1 then _ else _) = _; rw [if_pos hl]; exact hl)
  · unfold Whl at k2
    rw [k1] at k2
    exact k2
  · rcases List.mem_append.1 hr with hr | hr
    · exact h.good r hr
    · simp at hr; subst hr; exact k3
  · rw [k4, h.last, List.take_append_of_le_length h.sure]
theorem Lst.refused (h : Lst s all sure) (b : List UInt8) (h0 : (appW s b).1 ≠ 0) : Lst (appW s b).2 all sure := by
  have hl := h.left
  have key : (appW s b).2.left = -1 ∧ (appW s b).2.last = s.last := by
    unfold appW appD at h0 ⊢
    split
    · split
      · exact ⟨hl, rfl⟩
      · split
        · exact ⟨by show (if s.left = -1 then _ else _) = _; rw [if_pos hl]; exact hl, rfl⟩
        · exact ⟨by show (if s.left = -1 then _ else _) = _; rw [if_pos hl]; exact hl, rfl⟩
    · exact ⟨hl, rfl⟩
  exact ⟨key.1, (appW_same h0).trans h.bs, h.good, key.2.trans h.last, h.sure⟩
theorem Lst.sync (h : Lst s all sure) : (syncD s).1 = 0 ∧ Lst (syncD s).2 all all.length := by
  have hl := h.left
  unfold syncD
  rw [if_neg (by omega)]
  refine ⟨rfl, ⟨?_, h.bs, h.good, ?_, Nat.le_refl _⟩⟩
  · show (if s.left = -1 then _ else _) = _; rw [if_pos hl]; exact hl
  · show s.bs.length = _
    rw [h.bs, frs_length, List.take_length]
/-- Behind any crash: a beginning of what was appended, with all that was synced. -/
theorem Lst.again (h : Lst s all sure) (hok : s.Ok) (n : Int) : ∃ wh, sure ≤ wh ∧ wh ≤ all.length ∧ scanL (againW s n).2.bs = all.take wh := by
  obtain ⟨_, _, _, k4, _, _⟩ := again_opens hok n
  obtain ⟨wh, h1, h2, h3, h4⟩ := cut_some all h.good (s.last + kept s n)
  refine ⟨wh, h4 sure h.sure (by rw [h.last]; omega), h1, ?_⟩
  rw [k4]
  show scanL (s.bs.take (s.last + kept s n)) = _
  rw [h.bs]
  exact h3
end
/-- Behind a crash that keeps nothing more a disk that lasts as a whole is as it was. -/
theorem again_last {s : DS} (hw : Whl s) (hl : s.last = s.bs.length) (n : Int) : (crashD s n).bs = s.bs ∧ (againW s n).1 = 0 ∧ (againW s n).2.bs = s.bs := by
  have e : (crashD s n).bs = s.bs := by
    show s.bs.take (s.last + kept s n) = s.bs
    rw [List.take_of_length_le (by omega)]
  have hw2 : Whl (crashD s n) := hw.same e
  refine ⟨e, ?_, ?_⟩
  · unfold againW; rw [hw2.open_]
  · unfold againW; rw [hw2.open_]; exact e
end Go.Proofs.YtalmjmhbpmhokaaGreat
end

/- Logs in memory: what a log is, what its calls answer; Records, Len, Append, Compact, Open of the code. -/
section
namespace Go.Proofs.YtalmjmhbpmhokaaGreat
open Go.RowKit Go.Shelf

abbrev LT : TypeId := 113
abbrev MT : TypeId := 122

/-- Block L is a log (of one of the two kinds) on the disk at D. -/
def LAt (lty : TypeId) (w : World) (L D : Nat) : Prop := w.heap[L]? = some (.cells #[ptr D] lty (0, 0))
section
variable {lty ty : TypeId} {base : Nat} {w w' : World} {L D D' : Nat} {s s' : DS} {v : Value} {P : Nat → Prop}
theorem LAt.cell (h : LAt lty w L D) : w.cell? ⟨L, 0, none⟩ = some (ptr D) := cell_of_row w L 0 _ _ _ h
theorem LAt.lt (h : LAt lty w L D) : L < w.heap.size := (Array.getElem?_eq_some_iff.1 h).1
theorem LAt.kp (h : LAt lty w L D) (hk : Kp P w w') (hP : P L) : LAt lty w' L D := (hk.block L hP).trans h
theorem LAt.below (h : LAt lty w L D) (hb : Below w.heap.size w w') : LAt lty w' L D := (hb.block L h.lt).trans h
/-- A log's block is none of a disk's. -/
theorem LAt.oth (h : LAt lty w L D) (hd : DAt ty base w D' s v) (h1 : lty ≠ ty) (h2 : lty ≠ 5) : Oth w D' v L := by
  refine ⟨h.lt, fun e => ?_, fun e => ?_⟩
  · subst e
    have hb := hd.box
    unfold LAt at h
    rw [h] at hb
    injection hb with hb
    injection hb with _ hb
    exact h1 hb
  · rcases hd.own.2 with ⟨e2, _⟩ | ⟨g, cap, cur, e2, _, hg, _⟩
    · rw [e2] at e; cases e
    · rw [e2] at e
      simp [Value.ownBlock] at e
      subst e
      unfold LAt at h
      rw [h] at hg
      injection hg with hg
      injection hg with _ hg
      exact h2 hg
theorem LAt.did (h : LAt lty w L D) (hd : DAt ty base w D' s v) (h1 : lty ≠ ty) (h2 : lty ≠ 5) (hdid : Did ty base w D' v w' s') : LAt lty w' L D := by
  have ho := h.oth hd h1 h2
  obtain ⟨_, _, hk, _⟩ := hdid
  exact h.kp hk ho
theorem LAt.new (w : World) (lty : TypeId) (D : Nat) : LAt lty (w.alloc (.cells #[ptr D] lty)) w.heap.size D := heap_alloc_new w _
end

/-- Bytes of their own, made since, lie in none of the disk's blocks. -/
theorem ByO.of_row {ty : TypeId} {base : Nat} {w w' : World} {D : Nat} {s : DS} {v : Value} (hd : DAt ty base w D s v) {A : Option Addr} {n c : Nat} {l : List UInt8} (h : Row w w' (.slice A n c) l) : ByO w' D v A l := by
  obtain ⟨A', c', e, hc, hby⟩ := h.form
  injection e with e1 e2 e3
  subst e1 e2 e3
  intro i x hx
  obtain ⟨b, o, rfl, h1, h2⟩ := hby.at_ i x hx
  have h3 := (h.own.lt b rfl).1
  exact ⟨b, o, rfl, ⟨h1, fun e => by have := hd.dlt; omega, fun e => by have := (hd.ob b e).2; omega⟩, h2⟩
theorem ByO.take {w : World} {D : Nat} {v : Value} {A : Option Addr} {l : List UInt8} (h : ByO w D v A l) (k : Nat) : ByO w D v A (l.take k) :=
  fun i x hx => h i x (by rw [List.getElem?_take] at hx; split at hx; exact hx; cases hx)
theorem GiveB.row {w : World} {l : List UInt8} {e : Ending} {w' : World} (h : GiveB w l e w') : ∃ A c, e = .returned (.slice A l.length c) ∧ l.length ≤ c ∧ Row w w' (.slice A l.length c) l := by
  obtain ⟨v, rfl, ho, hb⟩ := h
  obtain ⟨A, c, rfl, hc⟩ := own_form ho
  exact ⟨A, c, rfl, hc, ho, hb⟩

/-- Records are answered; nothing that lay has turned. -/
def GivesL (w : World) (ls : List (List UInt8)) (e : Ending) (w' : World) : Prop :=
  ∃ A c K, e = .returned (.slice A K.length c) ∧ datas K = ls ∧ RowS w w' (.slice A K.length c) K
/-- Records that were told outlast a change of the disk. -/
theorem RowS.ls {w w' : World} {A : Option Addr} {n c : Nat} {K : List SlV} (h : RowS w w' (.slice A n c) K) : Ls w' w'.heap.size A K ∧ K.length ≤ c := by
  obtain ⟨A', c', e', hc, hls⟩ := h.form
  injection e' with e1 _ e3
  subst e1 e3
  exact ⟨hls, hc⟩
theorem RowS.outlasts {ty : TypeId} {base : Nat} {w w1 w2 : World} {D : Nat} {s : DS} {v : Value} {A : Option Addr} {c : Nat} {K : List SlV} (h : RowS w w1 (.slice A K.length c) K) (hd : DAt ty base w D s v) (hk : Kp (Oth w1 D v) w1 w2) : Ls w2 w2.heap.size A K := by
  have key : ∀ {u : Value} {n : Nat} {e : TypeId} {xs : List Value}, w1.ownsRow w.heap.size e 1 u n xs → ∀ k, u.ownBlock = some k → Oth w1 D v k := fun ho k hk => by
    have h1 := ho.lt k hk
    exact ⟨h1.2, fun e => by have := hd.dlt; omega, fun e => by have := (hd.ob k e).2; omega⟩
  have h2 : OwnAll w2 w.heap.size K := fun x hx => own_kp (h.all x hx) hk (key (h.all x hx))
  exact h2.ls (own_kp h.own hk (key h.own))

/-- What opening answers: a log, or an error; what the disk came to hold. -/
def Opens (ty lty : TypeId) (base : Nat) (w : World) (D : Nat) (v : Value) (r : Int × DS) (e : Ending) (w' : World) : Prop :=
  Did ty base w D v w' r.2 ∧ ((r.1 = 0 ∧ ∃ L, e = .returned (.tuple #[ptr L, .int .i64 0]) ∧ LAt lty w' L D) ∨ (r.1 ≠ 0 ∧ e = .returned (.tuple #[.pointer none, .int .i64 r.1])))

theorem scan_len (b : List UInt8) : (scanL b).length ≤ b.length := by
  have h1 := len_tot (scanL b)
  have h2 := scan_tot b
  omega

set_option maxRecDepth 100000 in
set_option maxHeartbeats 1000000 in
theorem records_any {base : Nat} {w : World} {D L : Nat} {s : DS} {v : Value} (h : DAt DT base w D s v) (ho : s.Ok) (hl : LAt LT w L D) :
    Calls Tryz.prog 35 #[ptr L] w (GivesL w (scanL s.bs)) := by
  have HR := Lib.hid (read_any h ho)
  have c0 := hl.cell
  have hb : s.bs.length ≤ 1048576 := by have := ho.len; have := ho.r1; omega
  have HB := Lib.hid hb
  clear h ho hl hb
  go_enter Tryz.func35, Tryz.ntmps35
  go_wp2_with fail
  refine HR.out.mono ?_
  intro e w1 hg
  obtain ⟨A, c, rfl, hc, hrow⟩ := hg.row
  have hlow := Lib.hid hrow.low
  obtain ⟨A', c', e', _, hby⟩ := hrow.form
  injection e' with e1 _ e3
  subst e1 e3
  have HS := Lib.hid (scan_own A c s.bs HB.out hc w1 hby)
  clear hg hrow hby hc
  go_wp2_with fail
  refine HS.out.mono ?_
  rintro e w2 ⟨A2, c2, K, rfl, hK, hrow⟩
  have HK := Lib.hid hK
  have HR2 := Lib.hid (hrow.early hlow.out)
  clear hK hrow
  go_wp2
  go_ret
  exact ⟨A2, c2, K, rfl, HK.out, HR2.out⟩

set_option maxRecDepth 100000 in
set_option maxHeartbeats 1000000 in
theorem len_any {base : Nat} {w : World} {D L : Nat} {s : DS} {v : Value} (h : DAt DT base w D s v) (ho : s.Ok) (hl : LAt LT w L D) :
    Calls Tryz.prog 62 #[ptr L] w fun e w' => e = .returned (.int .i64 ((scanL s.bs).length : Int)) ∧ Below w.heap.size w w' := by
  have HR := Lib.hid (records_any h ho hl)
  clear h ho hl
  go_enter Tryz.func62, Tryz.ntmps62
  go_wp2_with fail
  refine HR.out.mono ?_
  rintro e w1 ⟨A, c, K, rfl, hK, hrow⟩
  have hB := hrow.low
  have hk : (scanL s.bs).length = K.length := by rw [← hK, datas_length]
  have HB := Lib.hid hB
  have HK := Lib.hid hk
  clear hK hB hk hrow
  go_wp2
  go_ret
  rw [HK.out]
  exact ⟨rfl, HB.out⟩

set_option maxRecDepth 100000 in
set_option maxHeartbeats 1000000 in
theorem lappend_any {base : Nat} {w : World} {D L : Nat} {s : DS} {v : Value} (h : DAt DT base w D s v) (ho : s.Ok) (hl : LAt LT w L D) {A : Option Addr} {c : Nat} {b : List UInt8} (hA : By w w.heap.size A b) :
    Calls Tryz.prog 94 #[ptr L, .slice A b.length c] w (Ans DT base w D v (appW s b)) := by
  have HP := Lib.hid (put_own A c b w hA)
  have H := Lib.hid h
  have HO := Lib.hid ho
  have HL := Lib.hid hl
  clear h ho hl hA
  by_cases hg : GoodF b
  · rw [putR_ok hg] at HP
    have e1 : appW s b = appD s (fr b) := by unfold appW; rw [if_pos hg]
    rw [e1]
    clear e1 hg
    go_enter Tryz.func94, Tryz.ntmps94
    go_wp2_with fail
    refine HP.out.mono ?_
    rintro e w1 ⟨A1, c1, rfl, hrow⟩
    have hd1 := H.out.below hrow.low
    have c0 := (HL.out.below hrow.low).cell
    have HK : Hid (Kp (Oth w D v) w w1) := Lib.hid (Kp.of_below hrow.low fun _ hk => hk.1)
    have HA := Lib.hid (append_any (c := c1) hd1 HO.out (ByO.of_row H.out hrow))
    clear hrow hd1
    go_wp2_with fail
    refine HA.out.mono ?_
    rintro e w2 ⟨rfl, hd⟩
    go_wp2
    go_ret
    exact ⟨rfl, Did.after HK.out hd⟩
  · rw [putR_no hg] at HP
    have e1 : appW s b = (1, s) := by unfold appW; rw [if_neg hg]
    rw [e1]
    clear e1 hg
    go_enter Tryz.func94, Tryz.ntmps94
    go_wp2_with fail
    refine HP.out.mono ?_
    rintro e w1 ⟨A1, c1, rfl, hrow⟩
    have HK : Hid (Kp (Oth w D v) w w1) := Lib.hid (Kp.of_below hrow.low fun _ hk => hk.1)
    have HD := Lib.hid (H.out.below hrow.low)
    clear hrow
    go_wp2
    go_ret
    exact ⟨rfl, Did.after HK.out (Did.refl HD.out)⟩

end Go.Proofs.YtalmjmhbpmhokaaGreat
end

/- The log of the code: Compact, Open. -/
section
namespace Go.Proofs.YtalmjmhbpmhokaaGreat
open Go.RowKit Go.Shelf

theorem compW_bad {s : DS} {l : List (List UInt8)} {k : Nat} {r : List UInt8} (hr : l[k]? = some r) (h : ¬ GoodF r) : compW s l = (1, s) := by
  unfold compW
  rw [if_neg fun hh => h (hh r (List.mem_of_getElem? hr))]
theorem compW_good {s : DS} {l : List (List UInt8)} (h : ∀ r ∈ l, GoodF r) : compW s l = swapD s (frs l) := if_pos h
theorem good_snoc {l : List (List UInt8)} {k : Nat} {r : List UInt8} (h : ∀ x ∈ l.take k, GoodF x) (hr : l[k]? = some r) (hg : GoodF r) : ∀ x ∈ l.take (k + 1), GoodF x := by
  intro x hx
  rw [take_snoc_of _ _ _ hr] at hx
  rcases List.mem_append.1 hx with hx | hx
  · exact h x hx
  · obtain rfl := List.mem_singleton.1 hx
    exact hg
theorem frs_le {l : List (List UInt8)} {n : Nat} (h : ∀ x ∈ l, GoodF x) (hn : l.length ≤ n) : (frs l).length ≤ n * 1003 := by
  rw [frs_length]
  exact Nat.le_trans (tot_good h) (Nat.mul_le_mul_right _ hn)

set_option maxRecDepth 100000 in
set_option maxHeartbeats 2000000 in
theorem compact_any {base : Nat} {w : World} {D L : Nat} {s : DS} {v : Value} (h : DAt DT base w D s v) (ho : s.Ok) (hl : LAt LT w L D) {A : Option Addr} {c : Nat} {K : List SlV} (hA : Ls w w.heap.size A K) (hn : K.length ≤ 1048576) :
    Calls Tryz.prog 61 #[ptr L, .slice A K.length c] w (Ans DT base w D v (compW s (datas K))) := by
  have H := Lib.hid h
  have HO := Lib.hid ho
  have HL := Lib.hid hl
  have HA := Lib.hid hA
  clear h ho hl hA
  go_enter Tryz.func61, Tryz.ntmps61
  go_wp2
  go_loopw [5, 12] (fun u i wr => ∃ k : Nat, k ≤ K.length ∧ i = .int .i64 k ∧ Row w wr u (frs ((datas K).take k)) ∧ Hid (∀ x ∈ (datas K).take k, GoodF x)) (fun _ i _ => K.length - (intOf i).toNat)
  case atStart => exact ⟨0, Nat.zero_le _, rfl, row_none w, fun x hx => by simp at hx⟩
  case round =>
    obtain ⟨k, hk, rfl, hrow, hall⟩ := hrel
    have HR := Lib.hid hrow
    obtain ⟨A0, c0, rfl, hc0, hby0⟩ := hrow.form
    clear hrow hby0 hc0
    by_cases hlt : k < K.length
    · obtain ⟨x, hx⟩ : ∃ x, K[k]? = some x := ⟨_, List.getElem?_eq_getElem hlt⟩
      have hls := HA.out.below HR.out.low
      obtain ⟨b, o, rfl, _, hc1⟩ := hls.at_ k x hx
      have hbx := (hls.data x (List.mem_of_getElem? hx)).more HR.out.low.size
      have HX := Lib.hid (datas_at hx)
      have HP := Lib.hid (put_own x.ad x.cap x.data wr hbx)
      have Hlt := Lib.hid hlt
      clear hls hbx hx
      by_cases hg : GoodF x.data
      · rw [putR_ok hg] at HP
        have HG := Lib.hid hg
        clear hg
        go_wp2_with fail
        refine HP.out.mono ?_
        rintro e w1 ⟨A1, c1, rfl, hrow1⟩
        have HR1 := Lib.hid (HR.out.later hrow1.low)
        obtain ⟨A1', c1', e', _, hby1⟩ := hrow1.form
        injection e' with e1 _ e3
        subst e1 e3
        have HB1 := Lib.hid hby1
        clear hrow1 hby1
        have hsz : (frs ((datas K).take k)).length + (fr x.data).length ≤ 140737488355328 := by
          have h1 := frs_le (n := 1048576) hall (by rw [List.length_take, datas_length]; omega)
          have h2 := HG.out.2
          rw [fr_length]
          omega
        go_wp2_with (at_builtin; refine wpList_row rfl (.tmp 23) (.tmp 24) rfl rfl HR1.out (fr x.data) rfl rfl HB1.out hsz ?_; intro v3 w3 hr3 hg3; have hr3 := Lib.hid hr3; clear hg3)
        go_roundw
        case rel =>
          refine ⟨k + 1, Hlt.out, by go_num, ?_, good_snoc hall.out HX.out HG.out⟩
          rw [frs_take_snoc HX.out]
          exact hr3.out
        case measure => have := Hlt.out; simp [intOf]; omega
      · rw [putR_no hg] at HP
        have HE := Lib.hid (compW_bad (s := s) HX.out hg)
        clear hg
        go_wp2_with fail
        refine HP.out.mono ?_
        rintro e w1 ⟨A1, c1, rfl, hrow1⟩
        have hB := HR.out.low.trans (hrow1.low.mono HR.out.low.size)
        have HD := Lib.hid (H.out.below hB)
        have HK : Hid (Kp (Oth w D v) w w1) := Lib.hid (Kp.of_below hB fun _ hk => hk.1)
        clear hrow1 hB
        go_wp2
        go_ret
        rw [HE.out]
        exact ⟨rfl, Did.after HK.out (Did.refl HD.out)⟩
    · obtain rfl : k = K.length := by omega
      have hfull : (datas K).take K.length = datas K := List.take_of_length_le (by rw [datas_length]; omega)
      rw [hfull] at hall HR ⊢
      have HE := Lib.hid (compW_good (s := s) hall.out)
      have c0' := (HL.out.below HR.out.low).cell
      have HK : Hid (Kp (Oth w D v) w wr) := Lib.hid (Kp.of_below HR.out.low fun _ hk => hk.1)
      have HS := Lib.hid (swap_any (c := c0) (H.out.below HR.out.low) HO.out (ByO.of_row H.out HR.out))
      clear hfull
      go_wp2_with fail
      refine HS.out.mono ?_
      rintro e w2 ⟨rfl, hd⟩
      go_wp2
      go_ret
      rw [HE.out]
      exact ⟨rfl, Did.after HK.out hd⟩

set_option maxRecDepth 100000 in
set_option maxHeartbeats 2000000 in
theorem open_any {base : Nat} {w : World} {D : Nat} {s : DS} {v : Value} (h : DAt DT base w D s v) (ho : s.Ok) :
    Calls Tryz.prog 34 #[ptr D] w (Opens DT LT base w D v (openW s)) := by
  have HR := Lib.hid (read_any h ho)
  have hb : s.bs.length ≤ 1048576 := by have := ho.len; have := ho.r1; omega
  have hto := scan_tot s.bs
  have HB := Lib.hid hb
  have H := Lib.hid h
  have HO := Lib.hid ho
  obtain ⟨n, hn⟩ : ∃ n, n = s.bs.length := ⟨_, rfl⟩
  obtain ⟨m, hm⟩ : ∃ m, m = tot (scanL s.bs) := ⟨_, rfl⟩
  rw [← hm, ← hn] at hto
  have HN := Lib.hid hn
  have HM := Lib.hid hm
  clear h ho hb hn hm
  go_enter Tryz.func34, Tryz.ntmps34
  go_wp2_with fail
  refine HR.out.mono ?_
  intro e w1 hg
  obtain ⟨A, c, rfl, hc, hrow⟩ := hg.row
  have hro := ByO.of_row H.out hrow
  have HRo := Lib.hid hro
  have HLow := Lib.hid hrow.low
  have HC := Lib.hid hc
  have HS := Lib.hid (scan_any A c s.bs HB.out hc w1 hro.by_)
  rw [← HN.out, ← HM.out] at HS
  clear hg hrow hro hc
  rw [← HN.out]
  go_wp2_with fail
  refine HS.out.mono ?_
  rintro e w2 ⟨A2, c2, K, rfl, _, _, _, hB2⟩
  have HB2 := Lib.hid (HLow.out.trans (hB2.mono HLow.out.size))
  have HRo2 : Hid (ByO w2 D v A s.bs) := Lib.hid (HRo.out.kp (Kp.of_below hB2 fun _ hk => hk.1))
  have HD2 := Lib.hid (H.out.below HB2.out)
  have HK2 : Hid (Kp (Oth w D v) w w2) := Lib.hid (Kp.of_below HB2.out fun _ hk => hk.1)
  clear hB2
  by_cases hlt : m < n
  · have hcut := fun W => run_headB A n c (m : Int) (by omega) (by have := HC.out; have := HN.out; omega) W
    rw [Int.toNat_natCast] at hcut
    have hlen : (s.bs.take m).length = m := by rw [List.length_take]; have := HN.out; omega
    have HSw := swap_any (c := c) HD2.out HO.out (HRo2.out.take m)
    rw [hlen] at HSw
    have HSw := Lib.hid HSw
    have e0 : openW s = swapD s (s.bs.take m) := by
      unfold openW
      rw [if_neg (by rw [← HM.out, ← HN.out]; omega), HM.out]
    have HE := Lib.hid e0
    have HLen := Lib.hid hlen
    clear hlen hto e0
    obtain ⟨q, hq⟩ : ∃ q, q = (swapD s (s.bs.take m)).1 := ⟨_, rfl⟩
    go_wp2_with fail
    refine HSw.out.mono ?_
    rintro e w3 ⟨rfl, hd⟩
    have HD3 := Lib.hid (Did.after HK2.out hd)
    rw [← hq]
    clear hd
    by_cases h0 : q = 0
    · subst h0
      have HQ := Lib.hid hq.symm
      clear hq
      go_wp2
      go_ret2
      rw [HE.out]
      obtain ⟨v', k1, k2, k3⟩ := HD3.out
      exact ⟨⟨v', k1.alloc _, Oth.alloc k2 _, k3⟩, .inl ⟨HQ.out, _, rfl, LAt.new _ _ _⟩⟩
    · have HQ := Lib.hid hq
      have d1 : (q == 0) = false := by simpa using h0
      have H0 := Lib.hid h0
      clear hq
      go_wp2
      go_ret2
      rw [HE.out]
      exact ⟨HD3.out, .inr ⟨by rw [← HQ.out]; exact H0.out, by rw [← HQ.out]; rfl⟩⟩
  · obtain rfl : m = n := by omega
    have e0 : openW s = (0, s) := by
      unfold openW
      rw [if_pos (by rw [← HM.out, ← HN.out])]
    have HE := Lib.hid e0
    clear e0 hto
    go_wp2
    go_ret2
    rw [HE.out]
    exact ⟨⟨v, HD2.out.alloc _, Oth.alloc HK2.out _, fun k hk => .inl hk⟩, .inl ⟨rfl, _, rfl, LAt.new _ _ _⟩⟩

set_option maxRecDepth 100000 in
theorem open_nil (w : World) : Calls Tryz.prog 34 #[.pointer none] w fun e w' => e = .returned (.tuple #[.pointer none, .int .i64 1]) ∧ w' = w := by
  go_enter Tryz.func34, Tryz.ntmps34
  go_wp2
  go_ret2
  exact ⟨rfl, rfl⟩

end Go.Proofs.YtalmjmhbpmhokaaGreat
end

/- The document's log: Records, Append, Compact, Open. -/
section
namespace Go.Proofs.YtalmjmhbpmhokaaGreat
open Go.RowKit Go.Shelf

set_option maxRecDepth 100000 in
set_option maxHeartbeats 1000000 in
theorem rrecords_any {base : Nat} {w : World} {D L : Nat} {s : DS} {v : Value} (h : DAt RT base w D s v) (ho : s.Ok) (hl : LAt MT w L D) :
    Calls Tryz.prog 39 #[ptr L] w (GivesL w (scanL s.bs)) := by
  obtain ⟨A, c, rfl, hc, hby⟩ := h.form
  have hb : s.bs.length ≤ 1048576 := by have := ho.len; have := ho.r1; omega
  have HS := Lib.hid (rscan_own A c s.bs hb hc w hby)
  have c0 := hl.cell
  have c1 := h.c1
  clear h ho hl hb hby hc
  go_enter Tryz.func39, Tryz.ntmps39
  go_wp2_with fail
  refine HS.out.mono ?_
  rintro e w2 ⟨A2, c2, K, rfl, hK, hrow⟩
  have HK := Lib.hid hK
  have HR2 := Lib.hid hrow
  clear hK hrow
  go_wp2
  go_ret
  exact ⟨A2, c2, K, rfl, HK.out, HR2.out⟩

set_option maxRecDepth 100000 in
set_option maxHeartbeats 1000000 in
theorem rlappend_any {base : Nat} {w : World} {D L : Nat} {s : DS} {v : Value} (h : DAt RT base w D s v) (ho : s.Ok) (hl : LAt MT w L D) {A : Option Addr} {c : Nat} {b : List UInt8} (hA : By w w.heap.size A b) :
    Calls Tryz.prog 110 #[ptr L, .slice A b.length c] w (Ans RT base w D v (appW s b)) := by
  have HP := Lib.hid (rput_own A c b w hA)
  have H := Lib.hid h
  have HO := Lib.hid ho
  have HL := Lib.hid hl
  clear h ho hl hA
  by_cases hg : GoodF b
  · rw [putR_ok hg] at HP
    have e1 : appW s b = appD s (fr b) := by unfold appW; rw [if_pos hg]
    rw [e1]
    clear e1
    have HG := Lib.hid hg
    clear hg
    go_enter Tryz.func110, Tryz.ntmps110
    go_wp2_with fail
    refine HP.out.mono ?_
    rintro e w1 ⟨A1, c1, rfl, hrow⟩
    have hd1 := H.out.below hrow.low
    have c0 := (HL.out.below hrow.low).cell
    have HK : Hid (Kp (Oth w D v) w w1) := Lib.hid (Kp.of_below hrow.low fun _ hk => hk.1)
    have HA := Lib.hid (rappend_any (c := c1) hd1 HO.out (ByO.of_row H.out hrow) (by rw [fr_length]; have := HG.out.2; omega))
    clear hrow hd1
    go_wp2_with fail
    refine HA.out.mono ?_
    rintro e w2 ⟨rfl, hd⟩
    go_wp2
    go_ret
    exact ⟨rfl, Did.after HK.out hd⟩
  · rw [putR_no hg] at HP
    have e1 : appW s b = (1, s) := by unfold appW; rw [if_neg hg]
    rw [e1]
    clear e1 hg
    go_enter Tryz.func110, Tryz.ntmps110
    go_wp2_with fail
    refine HP.out.mono ?_
    rintro e w1 ⟨A1, c1, rfl, hrow⟩
    have HK : Hid (Kp (Oth w D v) w w1) := Lib.hid (Kp.of_below hrow.low fun _ hk => hk.1)
    have HD := Lib.hid (H.out.below hrow.low)
    clear hrow
    go_wp2
    go_ret
    exact ⟨rfl, Did.after HK.out (Did.refl HD.out)⟩

set_option maxRecDepth 100000 in
set_option maxHeartbeats 2000000 in
theorem rcompact_any {base : Nat} {w : World} {D L : Nat} {s : DS} {v : Value} (h : DAt RT base w D s v) (ho : s.Ok) (hl : LAt MT w L D) {A : Option Addr} {c : Nat} {K : List SlV} (hA : Ls w w.heap.size A K) (hn : K.length ≤ 1000) :
    Calls Tryz.prog 87 #[ptr L, .slice A K.length c] w (Ans RT base w D v (compW s (datas K))) := by
  have H := Lib.hid h
  have HO := Lib.hid ho
  have HL := Lib.hid hl
  have HA := Lib.hid hA
  clear h ho hl hA
  go_enter Tryz.func87, Tryz.ntmps87
  go_wp2
  go_loopw [5, 6] (fun u i wr => ∃ k : Nat, k ≤ K.length ∧ i = .int .i64 k ∧ Row w wr u (frs ((datas K).take k)) ∧ Hid (∀ x ∈ (datas K).take k, GoodF x)) (fun _ i _ => K.length - (intOf i).toNat)
  case atStart => exact ⟨0, Nat.zero_le _, rfl, row_none w, fun x hx => by simp at hx⟩
  case round =>
    obtain ⟨k, hk, rfl, hrow, hall⟩ := hrel
    have HR := Lib.hid hrow
    obtain ⟨A0, c0, rfl, hc0, hby0⟩ := hrow.form
    clear hrow hby0 hc0
    by_cases hlt : k < K.length
    · obtain ⟨x, hx⟩ : ∃ x, K[k]? = some x := ⟨_, List.getElem?_eq_getElem hlt⟩
      have hls := HA.out.below HR.out.low
      obtain ⟨b, o, rfl, _, hc1⟩ := hls.at_ k x hx
      have hbx := (hls.data x (List.mem_of_getElem? hx)).more HR.out.low.size
      have HX := Lib.hid (datas_at hx)
      have HP := Lib.hid (rput_own x.ad x.cap x.data wr hbx)
      have Hlt := Lib.hid hlt
      clear hls hbx hx
      by_cases hg : GoodF x.data
      · rw [putR_ok hg] at HP
        have HG := Lib.hid hg
        clear hg
        go_wp2_with fail
        refine HP.out.mono ?_
        rintro e w1 ⟨A1, c1, rfl, hrow1⟩
        have HR1 := Lib.hid (HR.out.later hrow1.low)
        obtain ⟨A1', c1', e', _, hby1⟩ := hrow1.form
        injection e' with e1 _ e3
        subst e1 e3
        have HB1 := Lib.hid hby1
        clear hrow1 hby1
        have hsz : (frs ((datas K).take k)).length + (fr x.data).length ≤ 140737488355328 := by
          have h1 := frs_le (n := 1000) hall (by rw [List.length_take, datas_length]; omega)
          have h2 := HG.out.2
          rw [fr_length]
          omega
        go_wp2_with (at_builtin; refine wpList_row rfl (.tmp 25) (.tmp 26) rfl rfl HR1.out (fr x.data) rfl rfl HB1.out hsz ?_; intro v3 w3 hr3 hg3; have hr3 := Lib.hid hr3; clear hg3)
        go_roundw
        case rel =>
          refine ⟨k + 1, Hlt.out, by go_num, ?_, good_snoc hall.out HX.out HG.out⟩
          rw [frs_take_snoc HX.out]
          exact hr3.out
        case measure => have := Hlt.out; simp [intOf]; omega
      · rw [putR_no hg] at HP
        have HE := Lib.hid (compW_bad (s := s) HX.out hg)
        clear hg
        go_wp2_with fail
        refine HP.out.mono ?_
        rintro e w1 ⟨A1, c1, rfl, hrow1⟩
        have hB := HR.out.low.trans (hrow1.low.mono HR.out.low.size)
        have HD := Lib.hid (H.out.below hB)
        have HK : Hid (Kp (Oth w D v) w w1) := Lib.hid (Kp.of_below hB fun _ hk => hk.1)
        clear hrow1 hB
        go_wp2
        go_ret
        rw [HE.out]
        exact ⟨rfl, Did.after HK.out (Did.refl HD.out)⟩
    · obtain rfl : k = K.length := by omega
      have hfull : (datas K).take K.length = datas K := List.take_of_length_le (by rw [datas_length]; omega)
      rw [hfull] at hall HR ⊢
      have HE := Lib.hid (compW_good (s := s) hall.out)
      have c0' := (HL.out.below HR.out.low).cell
      have HK : Hid (Kp (Oth w D v) w wr) := Lib.hid (Kp.of_below HR.out.low fun _ hk => hk.1)
      have HS := Lib.hid (rswap_any (c := c0) (H.out.below HR.out.low) HO.out (ByO.of_row H.out HR.out) (by have := frs_le (n := 1000) hall.out (by rw [datas_length]; exact hn); omega))
      clear hfull
      go_wp2_with fail
      refine HS.out.mono ?_
      rintro e w2 ⟨rfl, hd⟩
      go_wp2
      go_ret
      rw [HE.out]
      exact ⟨rfl, Did.after HK.out hd⟩

set_option maxRecDepth 100000 in
set_option maxHeartbeats 2000000 in
theorem ropen_any {base : Nat} {w : World} {D : Nat} {s : DS} {v : Value} (h : DAt RT base w D s v) (ho : s.Ok) :
    Calls Tryz.prog 38 #[ptr D] w (Opens RT MT base w D v (openW s)) := by
  obtain ⟨A, c, rfl, hc, hby⟩ := h.form
  have hb : s.bs.length ≤ 1048576 := by have := ho.len; have := ho.r1; omega
  have hto := scan_tot s.bs
  have HS := Lib.hid (rscan_any A c s.bs hb hc w hby)
  have c1 := h.c1
  have HB := Lib.hid hb
  have H := Lib.hid h
  have HO := Lib.hid ho
  obtain ⟨n, hn⟩ : ∃ n, n = s.bs.length := ⟨_, rfl⟩
  obtain ⟨m, hm⟩ : ∃ m, m = tot (scanL s.bs) := ⟨_, rfl⟩
  rw [← hm, ← hn] at hto HS
  rw [← hn] at c1 hc H
  have HN := Lib.hid hn
  have HM := Lib.hid hm
  have HC := Lib.hid hc
  clear h ho hb hn hm hby hc
  go_enter Tryz.func38, Tryz.ntmps38
  go_wp2_with fail
  refine HS.out.mono ?_
  rintro e w2 ⟨A2, c2, K, rfl, _, _, _, hB2⟩
  have HD2 := Lib.hid (H.out.below hB2)
  have HK2 : Hid (Kp (Oth w D (.slice A n c)) w w2) := Lib.hid (Kp.of_below hB2 fun _ hk => hk.1)
  have d1 : w2.cell? ⟨D, 1, none⟩ = some (.slice A n c) := HD2.out.c1
  clear hB2 c1
  by_cases hlt : m < n
  · have hcut := fun W => run_headB A n c (m : Int) (by omega) (by have := HC.out; omega) W
    rw [Int.toNat_natCast] at hcut
    have hlen : (s.bs.take m).length = m := by rw [List.length_take]; have := HN.out; omega
    have HSw := rswap_of (b := s.bs.take m) (A := A) (c := c) HD2.out HO.out (fun w1 k1 _ => by
      obtain ⟨A', c', e', _, hb'⟩ := k1.form
      injection e' with e1
      subst e1
      exact hb'.take m) (by rw [hlen]; have := HN.out; have := HB.out; omega)
    rw [hlen] at HSw
    have HSw := Lib.hid HSw
    have e0 : openW s = swapD s (s.bs.take m) := by
      unfold openW
      rw [if_neg (by rw [← HM.out, ← HN.out]; omega), HM.out]
    have HE := Lib.hid e0
    have HLen := Lib.hid hlen
    have d0 : ((m : Int) != (n : Int)) = true := by simp; omega
    clear hlen hto e0
    obtain ⟨q, hq⟩ : ∃ q, q = (swapD s (s.bs.take m)).1 := ⟨_, rfl⟩
    go_wp2_with fail
    refine HSw.out.mono ?_
    rintro e w3 ⟨rfl, hd⟩
    have HD3 := Lib.hid (Did.after HK2.out hd)
    rw [← hq]
    clear hd
    by_cases h0 : q = 0
    · subst h0
      have HQ := Lib.hid hq.symm
      clear hq
      go_wp2
      go_ret2
      rw [HE.out, ← HN.out]
      obtain ⟨v', k1, k2, k3⟩ := HD3.out
      exact ⟨⟨v', k1.alloc _, Oth.alloc k2 _, k3⟩, .inl ⟨HQ.out, _, rfl, LAt.new _ _ _⟩⟩
    · have HQ := Lib.hid hq
      have d1 : (q == 0) = false := by simpa using h0
      have H0 := Lib.hid h0
      clear hq
      go_wp2
      go_ret2
      rw [HE.out, ← HN.out]
      exact ⟨HD3.out, .inr ⟨by rw [← HQ.out]; exact H0.out, by rw [← HQ.out]; rfl⟩⟩
  · obtain rfl : m = n := by omega
    have e0 : openW s = (0, s) := by
      unfold openW
      rw [if_pos (by rw [← HM.out, ← HN.out])]
    have HE := Lib.hid e0
    have d0 : ((m : Int) != (m : Int)) = false := by simp
    clear e0 hto
    go_wp2
    go_ret2
    rw [HE.out, ← HN.out]
    exact ⟨⟨_, HD2.out.alloc _, Oth.alloc HK2.out _, fun k hk => .inl hk⟩, .inl ⟨rfl, _, rfl, LAt.new _ _ _⟩⟩

end Go.Proofs.YtalmjmhbpmhokaaGreat
end

/- Both disks, and both logs, beside each other; what both disks hold behind steps of a log. -/
section
namespace Go.Proofs.YtalmjmhbpmhokaaGreat
open Go.RowKit

section
variable {ty : TypeId} {base B : Nat} {W W' : World} {D : Nat} {s s' : DS} {v : Value}
theorem Oth.low (h : DAt ty base W D s v) (hB : B ≤ D) : ∀ k, k < B → Oth W D v k := fun k hk =>
  ⟨by have := h.dlt; omega, by omega, fun e => by have := (h.ob k e).1; have := h.lt; omega⟩
theorem Did.low (h : DAt ty base W D s v) (hB : B ≤ D) (hd : Did ty base W D v W' s') : Below B W W' := by
  obtain ⟨_, _, hk, _⟩ := hd
  exact hk.below (Oth.low h hB)
/-- Bytes that are laid now. -/
theorem ByO.lit (h : DAt ty base W D s v) (l : List UInt8) (t : TypeId) : ByO (W.alloc (.cells (bcells l).toArray t)) D v (some ⟨W.heap.size, 0, none⟩) l := fun i x hx => by
  refine ⟨W.heap.size, 0, rfl, ⟨by show _ < (W.heap.push _).size; rw [Array.size_push]; exact Nat.lt_succ_self _, fun e => by have := h.dlt; omega, fun e => by have := (h.ob _ e).2; omega⟩, ?_⟩
  have : (W.alloc (.cells (bcells l).toArray t)).heap[W.heap.size]? = some (.cells (bcells l).toArray t (0, 0)) := heap_alloc_new W _
  rw [cell_of_row _ _ _ _ _ _ this]
  simp [bcells, hx]
end

/-- Reading: the value, and what its conversion is. -/
theorem give_str {w : World} {l : List UInt8} {e : Ending} {w' : World} (h : GiveB w l e w') : ∃ A c, e = .returned (.slice A l.length c) ∧ By w' w'.heap.size A l ∧ Below w.heap.size w w' ∧ ∀ W, Below w'.heap.size w' W → (convert 49 9 (.slice A l.length c)).run Tryz.prog W = .ok (.string ⟨l.toArray⟩) W := by
  obtain ⟨v, rfl, ho, hb⟩ := h
  obtain ⟨A, c, rfl, _⟩ := own_form ho
  have hby := By.of_own ho
  exact ⟨A, c, rfl, hby, hb, fun W hW => str_run c (hby.later hW)⟩

theorem below_drewN (w : World) (n : Nat) : Below w.heap.size w (w.drewN n) := ⟨rfl, rfl, rfl, Nat.le_refl _, fun _ _ => rfl⟩
def Apart (v u : Value) : Prop := ∀ k, v.ownBlock = some k → u.ownBlock ≠ some k
theorem Apart.symm {v u : Value} (h : Apart v u) : Apart u v := fun k hk e => h k e hk

/-- A call upon one disk leaves the other one alone. -/
theorem other {ty ty' : TypeId} {base : Nat} {w w' : World} {D R : Nat} {s s' s2 : DS} {v u : Value} (h : DAt ty base w D s v) (hr : DAt ty' base w R s2 u) (ne : D ≠ R) (ha : Apart v u) (hd : Did ty base w D v w' s') :
    ∃ v', DAt ty base w' D s' v' ∧ DAt ty' base w' R s2 u ∧ Apart v' u := by
  obtain ⟨v', h1, hk, hob⟩ := hd
  refine ⟨v', h1, hr.kp hk ⟨hr.dlt, fun e => ne e.symm, fun e => ?_⟩ fun k hk' => ⟨(hr.ob k hk').2, ?_, fun e => ha k e hk'⟩, fun k hk1 hk2 => ?_⟩
  · have := (h.ob R e).1
    have := hr.lt
    omega
  · have := (hr.ob k hk').1
    have := h.lt
    omega
  · rcases hob k hk1 with e | e
    · exact ha k e hk2
    · have := (hr.ob k hk2).2
      omega

/-- Both disks hold s. -/
def Two (base D R : Nat) (s : DS) (w : World) : Prop :=
  ∃ v u, DAt DT base w D s v ∧ DAt RT base w R s u ∧ D ≠ R ∧ Apart v u

theorem two_new {w2 w3 : World} {D R : Nat} {s : DS} (hs : s.bs = []) (hd : DAt DT (D + 1) w2 D s (.slice none 0 0)) (hr : DAt RT (R + 1) w3 R s (.slice none 0 0)) (hR : R = w2.heap.size) (hb : Below w2.heap.size w2 w3) : Two (R + 1) D R s w3 := by
  have hD := hd.below hb
  have hlt := hd.dlt
  refine ⟨.slice none 0 0, .slice none 0 0, ⟨hD.box, ?_, by omega, hr.size⟩, hr, by omega, fun k hk => by cases hk⟩
  rw [hs]
  exact World.ownsRow_nil _ _ _ _

/-- What was read lies in memory of its own: in none of the disk's blocks. -/
theorem give_apart {ty : TypeId} {base : Nat} {w : World} {D : Nat} {s : DS} {v : Value} (hd : DAt ty base w D s v) {l : List UInt8} {e : Ending} {w' : World} (h : GiveB w l e w') :
    ∃ A c, e = .returned (.slice A l.length c) ∧ l.length ≤ c ∧ ByO w' D v A l ∧ Below w.heap.size w w' := by
  obtain ⟨u, rfl, ho, hb⟩ := h
  obtain ⟨A, c, rfl, hc⟩ := own_form ho
  have hby := By.of_own ho
  refine ⟨A, c, rfl, hc, fun i x hx => ?_, hb⟩
  obtain ⟨b, o, rfl, h1, h2⟩ := hby.at_ i x hx
  have h3 := (ho.lt b rfl).1
  exact ⟨b, o, rfl, ⟨h1, fun e => by have := hd.dlt; omega, fun e => by have := (hd.ob b e).2; omega⟩, h2⟩

theorem Two.below {base D R : Nat} {s : DS} {w w' : World} (h : Two base D R s w) (hb : Below w.heap.size w w') : Two base D R s w' := by
  obtain ⟨v, u, h1, h2, h3, h4⟩ := h
  exact ⟨v, u, h1.below hb, h2.below hb, h3, h4⟩

theorem ok_new {room : Nat} (h0 : 1 ≤ room) (h1 : room ≤ 1048576) : (⟨room, [], 0, -1⟩ : DS).Ok := ⟨h0, h1, Nat.zero_le _, Nat.zero_le _, by show -1 ≤ -1; omega, by show -1 ≤ _; omega⟩

/-- A step as it lies. -/
structure StV where
  do_ : Int
  n : Int
  ad : Option Addr
  cap : Nat
  data : List UInt8
  lad : Option Addr
  lcap : Nat
  rows : List SlV
abbrev StV.v (x : StV) : Value := .agg #[.int .i64 x.do_, .int .i64 x.n, .slice x.ad x.data.length x.cap, .slice x.lad x.rows.length x.lcap]

/-- A step of a log, and what the disk holds behind it. -/
def stepW (s : DS) (x : StV) : DS :=
  if x.do_ = 0 then (appW s x.data).2 else if x.do_ = 1 then (syncD s).2 else if x.do_ = 2 then (compW s (datas x.rows)).2 else if x.do_ = 3 then failD s x.n else (againW s x.n).2
theorem stepW_ok {s : DS} (h : s.Ok) (x : StV) (hn : x.n ≤ 9223372036854775807) : (stepW s x).Ok := by
  unfold stepW
  split
  · exact appW_ok h _
  · split
    · exact sync_ok h
    · split
      · exact comp_ok h _
      · split
        · exact fail_ok h _ hn
        · exact again_ok h _
theorem appW_whl {s : DS} (h : Whl s) (b : List UInt8) : Whl (appW s b).2 := by
  by_cases h0 : (appW s b).1 = 0
  · exact (appW_more h h0).2.1
  · exact h.same (appW_same h0)
theorem compW_whl {s : DS} (h : Whl s) (l : List (List UInt8)) : Whl (compW s l).2 := by
  by_cases h0 : (compW s l).1 = 0
  · exact (compW_more h0).2.1
  · exact h.same (compW_same h0)
theorem stepW_whl {s : DS} (h : Whl s) (ho : s.Ok) (x : StV) : Whl (stepW s x) := by
  unfold stepW
  split
  · exact appW_whl h _
  · split
    · exact h.same (sync_bs s)
    · split
      · exact compW_whl h _
      · split
        · exact h.same rfl
        · exact (again_opens ho x.n).2.2.1
def runW (room : Nat) (l : List StV) : DS := l.foldl stepW ⟨room, [], 0, -1⟩
theorem runW_snoc (room : Nat) (l : List StV) (x : StV) : runW room (l ++ [x]) = stepW (runW room l) x := by simp [runW]
theorem runW_ok {room : Nat} (h0 : 1 ≤ room) (h1 : room ≤ 1048576) (l : List StV) (hn : ∀ x ∈ l, x.n ≤ 9223372036854775807) : (runW room l).Ok ∧ Whl (runW room l) := by
  rw [← l.reverse_reverse] at hn ⊢
  generalize l.reverse = r at *
  induction r with
  | nil => exact ⟨ok_new h0 h1, Whl.new _ _ _⟩
  | cons x r ih =>
    rw [List.reverse_cons] at hn ⊢
    rw [runW_snoc]
    have h := ih fun y hy => hn y (List.mem_append_left _ hy)
    exact ⟨stepW_ok h.1 x (hn x (by simp)), stepW_whl h.2 h.1 x⟩

/-- Both disks hold s; a log on each. -/
def TwoL (base D R L M : Nat) (s : DS) (w : World) : Prop := Two base D R s w ∧ LAt LT w L D ∧ LAt MT w M R
theorem TwoL.below {base D R L M : Nat} {s : DS} {w w' : World} (h : TwoL base D R L M s w) (hb : Below w.heap.size w w') : TwoL base D R L M s w' :=
  ⟨h.1.below hb, h.2.1.below hb, h.2.2.below hb⟩

/-- A call upon the one disk, then one upon the other. -/
theorem TwoL.both {base D R L M : Nat} {s s' : DS} {w w1 : World} {v u : Value} (hd : DAt DT base w D s v) (hr : DAt RT base w R s u) (ne : D ≠ R) (ha : Apart v u) (hl : LAt LT w L D) (hm : LAt MT w M R)
    (h1 : Did DT base w D v w1 s') : ∃ v1, DAt DT base w1 D s' v1 ∧ DAt RT base w1 R s u ∧ Apart v1 u ∧ LAt LT w1 L D ∧ LAt MT w1 M R ∧
      ∀ w2, Did RT base w1 R u w2 s' → TwoL base D R L M s' w2 := by
  obtain ⟨v1, k1, k2, k3⟩ := other hd hr ne ha h1
  have hl1 := hl.did hd (by decide) (by decide) h1
  have hm1 := hm.did hd (by decide) (by decide) h1
  refine ⟨v1, k1, k2, k3, hl1, hm1, fun w2 h2 => ?_⟩
  obtain ⟨u2, j1, j2, j3⟩ := other k2 k1 (fun e => ne e.symm) k3.symm h2
  exact ⟨⟨v1, u2, j2, j1, ne, j3.symm⟩, hl1.did k2 (by decide) (by decide) h2, hm1.did k2 (by decide) (by decide) h2⟩

end Go.Proofs.YtalmjmhbpmhokaaGreat
end
