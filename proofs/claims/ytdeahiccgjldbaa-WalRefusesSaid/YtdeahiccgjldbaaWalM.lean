/- Logs in memory: what a log is, what its calls answer; Records, Len, Append, Compact, Open of the code. -/
import Derived.Test.YtdeahiccgjldbaaWalP
import Derived.Test.YtdeahiccgjldbaaDskT
import Derived.Test.YtdeahiccgjldbaaFrmT
import Derived.Test.YtdeahiccgjldbaaFrmV
namespace Go.Proofs.Ytdeahiccgjldbaa
open Go.RowKit Go.Shelf

abbrev LT : TypeId := 56
abbrev MT : TypeId := 68

/-- Block L is a log (of one of the two kinds) on the disk at D. -/
def LAt (lty : TypeId) (w : World) (L D : Nat) : Prop := w.heap[L]? = some (.cells #[ptr D] lty (0, 0))
section
variable {lty ty : TypeId} {base : Nat} {w w' : World} {L D D' : Nat} {s s' : DS} {v : Value} {P : Nat → Prop}
theorem LAt.cell (h : LAt lty w L D) : w.cell? ⟨L, 0, none⟩ = some (ptr D) := cell_of_row w L 0 _ _ _ h
theorem LAt.lt (h : LAt lty w L D) : L < w.heap.size := (Array.getElem?_eq_some_iff.1 h).1
theorem LAt.kp (h : LAt lty w L D) (hk : Kp P w w') (hP : P L) : LAt lty w' L D := (hk.block L hP).trans h
theorem LAt.below (h : LAt lty w L D) (hb : Below w.heap.size w w') : LAt lty w' L D := (hb.block L h.lt).trans h
/-- A log's block is none of a disk's. -/
theorem LAt.oth (h : LAt lty w L D) (hd : DAt ty base w D' s v) (h1 : lty ≠ ty) (h2 : lty ≠ 5) : Oth w D' v L := by
  refine ⟨h.lt, fun e => ?_, fun e => ?_⟩
  · subst e
    have hb := hd.box
    unfold LAt at h
    rw [h] at hb
    injection hb with hb
    injection hb with _ hb
    exact h1 hb
  · rcases hd.own.2 with ⟨e2, _⟩ | ⟨g, cap, cur, e2, _, hg, _⟩
    · rw [e2] at e; cases e
    · rw [e2] at e
      simp [Value.ownBlock] at e
      subst e
      unfold LAt at h
      rw [h] at hg
      injection hg with hg
      injection hg with _ hg
      exact h2 hg
theorem LAt.did (h : LAt lty w L D) (hd : DAt ty base w D' s v) (h1 : lty ≠ ty) (h2 : lty ≠ 5) (hdid : Did ty base w D' v w' s') : LAt lty w' L D := by
  have ho := h.oth hd h1 h2
  obtain ⟨_, _, hk, _⟩ := hdid
  exact h.kp hk ho
theorem LAt.new (w : World) (lty : TypeId) (D : Nat) : LAt lty (w.alloc (.cells #[ptr D] lty)) w.heap.size D := heap_alloc_new w _
end

/-- Bytes of their own, made since, lie in none of the disk's blocks. -/
theorem ByO.of_row {ty : TypeId} {base : Nat} {w w' : World} {D : Nat} {s : DS} {v : Value} (hd : DAt ty base w D s v) {A : Option Addr} {n c : Nat} {l : List UInt8} (h : Row w w' (.slice A n c) l) : ByO w' D v A l := by
  obtain ⟨A', c', e, hc, hby⟩ := h.form
  injection e with e1 e2 e3
  subst e1 e2 e3
  intro i x hx
  obtain ⟨b, o, rfl, h1, h2⟩ := hby.at_ i x hx
  have h3 := (h.own.lt b rfl).1
  exact ⟨b, o, rfl, ⟨h1, fun e => by have := hd.dlt; omega, fun e => by have := (hd.ob b e).2; omega⟩, h2⟩
theorem ByO.take {w : World} {D : Nat} {v : Value} {A : Option Addr} {l : List UInt8} (h : ByO w D v A l) (k : Nat) : ByO w D v A (l.take k) :=
  fun i x hx => h i x (by rw [List.getElem?_take] at hx; split at hx; exact hx; cases hx)
theorem GiveB.row {w : World} {l : List UInt8} {e : Ending} {w' : World} (h : GiveB w l e w') : ∃ A c, e = .returned (.slice A l.length c) ∧ l.length ≤ c ∧ Row w w' (.slice A l.length c) l := by
  obtain ⟨v, rfl, ho, hb⟩ := h
  obtain ⟨A, c, rfl, hc⟩ := own_form ho
  exact ⟨A, c, rfl, hc, ho, hb⟩

/-- Records are answered; nothing that lay has turned. -/
def GivesL (w : World) (ls : List (List UInt8)) (e : Ending) (w' : World) : Prop :=
  ∃ A c K, e = .returned (.slice A K.length c) ∧ datas K = ls ∧ RowS w w' (.slice A K.length c) K
/-- Records that were told outlast a change of the disk. -/
theorem RowS.ls {w w' : World} {A : Option Addr} {n c : Nat} {K : List SlV} (h : RowS w w' (.slice A n c) K) : Ls w' w'.heap.size A K ∧ K.length ≤ c := by
  obtain ⟨A', c', e', hc, hls⟩ := h.form
  injection e' with e1 _ e3
  subst e1 e3
  exact ⟨hls, hc⟩
theorem RowS.outlasts {ty : TypeId} {base : Nat} {w w1 w2 : World} {D : Nat} {s : DS} {v : Value} {A : Option Addr} {c : Nat} {K : List SlV} (h : RowS w w1 (.slice A K.length c) K) (hd : DAt ty base w D s v) (hk : Kp (Oth w1 D v) w1 w2) : Ls w2 w2.heap.size A K := by
  have key : ∀ {u : Value} {n : Nat} {e : TypeId} {xs : List Value}, w1.ownsRow w.heap.size e 1 u n xs → ∀ k, u.ownBlock = some k → Oth w1 D v k := fun ho k hk => by
    have h1 := ho.lt k hk
    exact ⟨h1.2, fun e => by have := hd.dlt; omega, fun e => by have := (hd.ob k e).2; omega⟩
  have h2 : OwnAll w2 w.heap.size K := fun x hx => own_kp (h.all x hx) hk (key (h.all x hx))
  exact h2.ls (own_kp h.own hk (key h.own))

/-- What opening answers: a log, or an error; what the disk came to hold. -/
def Opens (ty lty : TypeId) (base : Nat) (w : World) (D : Nat) (v : Value) (r : Int × DS) (e : Ending) (w' : World) : Prop :=
  Did ty base w D v w' r.2 ∧ ((r.1 = 0 ∧ ∃ L, e = .returned (.tuple #[ptr L, .int .i64 0]) ∧ LAt lty w' L D) ∨ (r.1 ≠ 0 ∧ e = .returned (.tuple #[.pointer none, .int .i64 r.1])))

theorem scan_len (b : List UInt8) : (scanL b).length ≤ b.length := by
  have h1 := len_tot (scanL b)
  have h2 := scan_tot b
  omega

set_option maxRecDepth 100000 in
set_option maxHeartbeats 1000000 in
theorem records_any {base : Nat} {w : World} {D L : Nat} {s : DS} {v : Value} (h : DAt DT base w D s v) (ho : s.Ok) (hl : LAt LT w L D) :
    Calls Try.prog 17 #[ptr L] w (GivesL w (scanL s.bs)) := by
  have HR := Lib.hid (read_any h ho)
  have c0 := hl.cell
  have hb : s.bs.length ≤ 1048576 := by have := ho.len; have := ho.r1; omega
  have HB := Lib.hid hb
  clear h ho hl hb
  go_enter Try.func17, Try.ntmps17
  go_wp2_with fail
  refine HR.out.mono ?_
  intro e w1 hg
  obtain ⟨A, c, rfl, hc, hrow⟩ := hg.row
  have hlow := Lib.hid hrow.low
  obtain ⟨A', c', e', _, hby⟩ := hrow.form
  injection e' with e1 _ e3
  subst e1 e3
  have HS := Lib.hid (scan_own A c s.bs HB.out hc w1 hby)
  clear hg hrow hby hc
  go_wp2_with fail
  refine HS.out.mono ?_
  rintro e w2 ⟨A2, c2, K, rfl, hK, hrow⟩
  have HK := Lib.hid hK
  have HR2 := Lib.hid (hrow.early hlow.out)
  clear hK hrow
  go_wp2
  go_ret
  exact ⟨A2, c2, K, rfl, HK.out, HR2.out⟩

set_option maxRecDepth 100000 in
set_option maxHeartbeats 1000000 in
theorem len_any {base : Nat} {w : World} {D L : Nat} {s : DS} {v : Value} (h : DAt DT base w D s v) (ho : s.Ok) (hl : LAt LT w L D) :
    Calls Try.prog 19 #[ptr L] w fun e w' => e = .returned (.int .i64 ((scanL s.bs).length : Int)) ∧ Below w.heap.size w w' := by
  have HR := Lib.hid (records_any h ho hl)
  clear h ho hl
  go_enter Try.func19, Try.ntmps19
  go_wp2_with fail
  refine HR.out.mono ?_
  rintro e w1 ⟨A, c, K, rfl, hK, hrow⟩
  have hB := hrow.low
  have hk : (scanL s.bs).length = K.length := by rw [← hK, datas_length]
  have HB := Lib.hid hB
  have HK := Lib.hid hk
  clear hK hB hk hrow
  go_wp2
  go_ret
  rw [HK.out]
  exact ⟨rfl, HB.out⟩

set_option maxRecDepth 100000 in
set_option maxHeartbeats 1000000 in
theorem lappend_any {base : Nat} {w : World} {D L : Nat} {s : DS} {v : Value} (h : DAt DT base w D s v) (ho : s.Ok) (hl : LAt LT w L D) {A : Option Addr} {c : Nat} {b : List UInt8} (hA : By w w.heap.size A b) :
    Calls Try.prog 21 #[ptr L, .slice A b.length c] w (Ans DT base w D v (appW s b)) := by
  have HP := Lib.hid (put_own A c b w hA)
  have H := Lib.hid h
  have HO := Lib.hid ho
  have HL := Lib.hid hl
  clear h ho hl hA
  by_cases hg : GoodF b
  · rw [putR_ok hg] at HP
    have e1 : appW s b = appD s (fr b) := by unfold appW; rw [if_pos hg]
    rw [e1]
    clear e1 hg
    go_enter Try.func21, Try.ntmps21
    go_wp2_with fail
    refine HP.out.mono ?_
    rintro e w1 ⟨A1, c1, rfl, hrow⟩
    have hd1 := H.out.below hrow.low
    have c0 := (HL.out.below hrow.low).cell
    have HK : Hid (Kp (Oth w D v) w w1) := Lib.hid (Kp.of_below hrow.low fun _ hk => hk.1)
    have HA := Lib.hid (append_any (c := c1) hd1 HO.out (ByO.of_row H.out hrow))
    clear hrow hd1
    go_wp2_with fail
    refine HA.out.mono ?_
    rintro e w2 ⟨rfl, hd⟩
    go_wp2
    go_ret
    exact ⟨rfl, Did.after HK.out hd⟩
  · rw [putR_no hg] at HP
    have e1 : appW s b = (1, s) := by unfold appW; rw [if_neg hg]
    rw [e1]
    clear e1 hg
    go_enter Try.func21, Try.ntmps21
    go_wp2_with fail
    refine HP.out.mono ?_
    rintro e w1 ⟨A1, c1, rfl, hrow⟩
    have HK : Hid (Kp (Oth w D v) w w1) := Lib.hid (Kp.of_below hrow.low fun _ hk => hk.1)
    have HD := Lib.hid (H.out.below hrow.low)
    clear hrow
    go_wp2
    go_ret
    exact ⟨rfl, Did.after HK.out (Did.refl HD.out)⟩

end Go.Proofs.Ytdeahiccgjldbaa
