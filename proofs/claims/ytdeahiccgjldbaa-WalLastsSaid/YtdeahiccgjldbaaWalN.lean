/- Both disks, and both logs, beside each other; what both disks hold behind steps of a log. -/
import Derived.Test.YtdeahiccgjldbaaWalR
namespace Go.Proofs.Ytdeahiccgjldbaa
open Go.RowKit

section
variable {ty : TypeId} {base B : Nat} {W W' : World} {D : Nat} {s s' : DS} {v : Value}
theorem Oth.low (h : DAt ty base W D s v) (hB : B ≤ D) : ∀ k, k < B → Oth W D v k := fun k hk =>
  ⟨by have := h.dlt; omega, by omega, fun e => by have := (h.ob k e).1; have := h.lt; omega⟩
theorem Did.low (h : DAt ty base W D s v) (hB : B ≤ D) (hd : Did ty base W D v W' s') : Below B W W' := by
  obtain ⟨_, _, hk, _⟩ := hd
  exact hk.below (Oth.low h hB)
/-- Bytes that are laid now. -/
theorem ByO.lit (h : DAt ty base W D s v) (l : List UInt8) (t : TypeId) : ByO (W.alloc (.cells (bcells l).toArray t)) D v (some ⟨W.heap.size, 0, none⟩) l := fun i x hx => by
  refine ⟨W.heap.size, 0, rfl, ⟨by show _ < (W.heap.push _).size; rw [Array.size_push]; exact Nat.lt_succ_self _, fun e => by have := h.dlt; omega, fun e => by have := (h.ob _ e).2; omega⟩, ?_⟩
  have : (W.alloc (.cells (bcells l).toArray t)).heap[W.heap.size]? = some (.cells (bcells l).toArray t (0, 0)) := heap_alloc_new W _
  rw [cell_of_row _ _ _ _ _ _ this]
  simp [bcells, hx]
end

/-- Reading: the value, and what its conversion is. -/
theorem give_str {w : World} {l : List UInt8} {e : Ending} {w' : World} (h : GiveB w l e w') : ∃ A c, e = .returned (.slice A l.length c) ∧ By w' w'.heap.size A l ∧ Below w.heap.size w w' ∧ ∀ W, Below w'.heap.size w' W → (convert 40 9 (.slice A l.length c)).run Try.prog W = .ok (.string ⟨l.toArray⟩) W := by
  obtain ⟨v, rfl, ho, hb⟩ := h
  obtain ⟨A, c, rfl, _⟩ := own_form ho
  have hby := By.of_own ho
  exact ⟨A, c, rfl, hby, hb, fun W hW => str_run c (hby.later hW)⟩

theorem below_drewN (w : World) (n : Nat) : Below w.heap.size w (w.drewN n) := ⟨rfl, rfl, rfl, Nat.le_refl _, fun _ _ => rfl⟩
def Apart (v u : Value) : Prop := ∀ k, v.ownBlock = some k → u.ownBlock ≠ some k
theorem Apart.symm {v u : Value} (h : Apart v u) : Apart u v := fun k hk e => h k e hk

/-- A call upon one disk leaves the other one alone. -/
theorem other {ty ty' : TypeId} {base : Nat} {w w' : World} {D R : Nat} {s s' s2 : DS} {v u : Value} (h : DAt ty base w D s v) (hr : DAt ty' base w R s2 u) (ne : D ≠ R) (ha : Apart v u) (hd : Did ty base w D v w' s') :
    ∃ v', DAt ty base w' D s' v' ∧ DAt ty' base w' R s2 u ∧ Apart v' u := by
  obtain ⟨v', h1, hk, hob⟩ := hd
  refine ⟨v', h1, hr.kp hk ⟨hr.dlt, fun e => ne e.symm, fun e => ?_⟩ fun k hk' => ⟨(hr.ob k hk').2, ?_, fun e => ha k e hk'⟩, fun k hk1 hk2 => ?_⟩
  · have := (h.ob R e).1
    have := hr.lt
    omega
  · have := (hr.ob k hk').1
    have := h.lt
    omega
  · rcases hob k hk1 with e | e
    · exact ha k e hk2
    · have := (hr.ob k hk2).2
      omega

/-- Both disks hold s. -/
def Two (base D R : Nat) (s : DS) (w : World) : Prop :=
  ∃ v u, DAt DT base w D s v ∧ DAt RT base w R s u ∧ D ≠ R ∧ Apart v u

theorem two_new {w2 w3 : World} {D R : Nat} {s : DS} (hs : s.bs = []) (hd : DAt DT (D + 1) w2 D s (.slice none 0 0)) (hr : DAt RT (R + 1) w3 R s (.slice none 0 0)) (hR : R = w2.heap.size) (hb : Below w2.heap.size w2 w3) : Two (R + 1) D R s w3 := by
  have hD := hd.below hb
  have hlt := hd.dlt
  refine ⟨.slice none 0 0, .slice none 0 0, ⟨hD.box, ?_, by omega, hr.size⟩, hr, by omega, fun k hk => by cases hk⟩
  rw [hs]
  exact World.ownsRow_nil _ _ _ _

/-- What was read lies in memory of its own: in none of the disk's blocks. -/
theorem give_apart {ty : TypeId} {base : Nat} {w : World} {D : Nat} {s : DS} {v : Value} (hd : DAt ty base w D s v) {l : List UInt8} {e : Ending} {w' : World} (h : GiveB w l e w') :
    ∃ A c, e = .returned (.slice A l.length c) ∧ l.length ≤ c ∧ ByO w' D v A l ∧ Below w.heap.size w w' := by
  obtain ⟨u, rfl, ho, hb⟩ := h
  obtain ⟨A, c, rfl, hc⟩ := own_form ho
  have hby := By.of_own ho
  refine ⟨A, c, rfl, hc, fun i x hx => ?_, hb⟩
  obtain ⟨b, o, rfl, h1, h2⟩ := hby.at_ i x hx
  have h3 := (ho.lt b rfl).1
  exact ⟨b, o, rfl, ⟨h1, fun e => by have := hd.dlt; omega, fun e => by have := (hd.ob b e).2; omega⟩, h2⟩

theorem Two.below {base D R : Nat} {s : DS} {w w' : World} (h : Two base D R s w) (hb : Below w.heap.size w w') : Two base D R s w' := by
  obtain ⟨v, u, h1, h2, h3, h4⟩ := h
  exact ⟨v, u, h1.below hb, h2.below hb, h3, h4⟩

theorem ok_new {room : Nat} (h0 : 1 ≤ room) (h1 : room ≤ 1048576) : (⟨room, [], 0, -1⟩ : DS).Ok := ⟨h0, h1, Nat.zero_le _, Nat.zero_le _, by show -1 ≤ -1; omega, by show -1 ≤ _; omega⟩

/-- A step as it lies. -/
structure StV where
  do_ : Int
  n : Int
  ad : Option Addr
  cap : Nat
  data : List UInt8
  lad : Option Addr
  lcap : Nat
  rows : List SlV
abbrev StV.v (x : StV) : Value := .agg #[.int .i64 x.do_, .int .i64 x.n, .slice x.ad x.data.length x.cap, .slice x.lad x.rows.length x.lcap]

/-- A step of a log, and what the disk holds behind it. -/
def stepW (s : DS) (x : StV) : DS :=
  if x.do_ = 0 then (appW s x.data).2 else if x.do_ = 1 then (syncD s).2 else if x.do_ = 2 then (compW s (datas x.rows)).2 else if x.do_ = 3 then failD s x.n else (againW s x.n).2
theorem stepW_ok {s : DS} (h : s.Ok) (x : StV) (hn : x.n ≤ 9223372036854775807) : (stepW s x).Ok := by
  unfold stepW
  split
  · exact appW_ok h _
  · split
    · exact sync_ok h
    · split
      · exact comp_ok h _
      · split
        · exact fail_ok h _ hn
        · exact again_ok h _
theorem appW_whl {s : DS} (h : Whl s) (b : List UInt8) : Whl (appW s b).2 := by
  by_cases h0 : (appW s b).1 = 0
  · exact (appW_more h h0).2.1
  · exact h.same (appW_same h0)
theorem compW_whl {s : DS} (h : Whl s) (l : List (List UInt8)) : Whl (compW s l).2 := by
  by_cases h0 : (compW s l).1 = 0
  · exact (compW_more h0).2.1
  · exact h.same (compW_same h0)
theorem stepW_whl {s : DS} (h : Whl s) (ho : s.Ok) (x : StV) : Whl (stepW s x) := by
  unfold stepW
  split
  · exact appW_whl h _
  · split
    · exact h.same (sync_bs s)
    · split
      · exact compW_whl h _
      · split
        · exact h.same rfl
        · exact (again_opens ho x.n).2.2.1
def runW (room : Nat) (l : List StV) : DS := l.foldl stepW ⟨room, [], 0, -1⟩
theorem runW_snoc (room : Nat) (l : List StV) (x : StV) : runW room (l ++ [x]) = stepW (runW room l) x := by simp [runW]
theorem runW_ok {room : Nat} (h0 : 1 ≤ room) (h1 : room ≤ 1048576) (l : List StV) (hn : ∀ x ∈ l, x.n ≤ 9223372036854775807) : (runW room l).Ok ∧ Whl (runW room l) := by
  rw [← l.reverse_reverse] at hn ⊢
  generalize l.reverse = r at *
  induction r with
  | nil => exact ⟨ok_new h0 h1, Whl.new _ _ _⟩
  | cons x r ih =>
    rw [List.reverse_cons] at hn ⊢
    rw [runW_snoc]
    have h := ih fun y hy => hn y (List.mem_append_left _ hy)
    exact ⟨stepW_ok h.1 x (hn x (by simp)), stepW_whl h.2 h.1 x⟩

/-- Both disks hold s; a log on each. -/
def TwoL (base D R L M : Nat) (s : DS) (w : World) : Prop := Two base D R s w ∧ LAt LT w L D ∧ LAt MT w M R
theorem TwoL.below {base D R L M : Nat} {s : DS} {w w' : World} (h : TwoL base D R L M s w) (hb : Below w.heap.size w w') : TwoL base D R L M s w' :=
  ⟨h.1.below hb, h.2.1.below hb, h.2.2.below hb⟩

/-- A call upon the one disk, then one upon the other. -/
theorem TwoL.both {base D R L M : Nat} {s s' : DS} {w w1 : World} {v u : Value} (hd : DAt DT base w D s v) (hr : DAt RT base w R s u) (ne : D ≠ R) (ha : Apart v u) (hl : LAt LT w L D) (hm : LAt MT w M R)
    (h1 : Did DT base w D v w1 s') : ∃ v1, DAt DT base w1 D s' v1 ∧ DAt RT base w1 R s u ∧ Apart v1 u ∧ LAt LT w1 L D ∧ LAt MT w1 M R ∧
      ∀ w2, Did RT base w1 R u w2 s' → TwoL base D R L M s' w2 := by
  obtain ⟨v1, k1, k2, k3⟩ := other hd hr ne ha h1
  have hl1 := hl.did hd (by decide) (by decide) h1
  have hm1 := hm.did hd (by decide) (by decide) h1
  refine ⟨v1, k1, k2, k3, hl1, hm1, fun w2 h2 => ?_⟩
  obtain ⟨u2, j1, j2, j3⟩ := other k2 k1 (fun e => ne e.symm) k3.symm h2
  exact ⟨⟨v1, u2, j2, j1, ne, j3.symm⟩, hl1.did k2 (by decide) (by decide) h2, hm1.did k2 (by decide) (by decide) h2⟩

end Go.Proofs.Ytdeahiccgjldbaa
