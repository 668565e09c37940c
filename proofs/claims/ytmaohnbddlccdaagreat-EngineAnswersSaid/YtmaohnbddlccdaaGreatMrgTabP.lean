/- Joined texts: TabP, TabM, TabS, TabO, TabD. -/
import Derived.Test.YtmaohnbddlccdaaGreatMrgLeaP
import Derived.Test.YtmaohnbddlccdaaGreatMrgBasM

/- Tables, pure: leases by rising addresses; what is set, told, counted, due. (Names no function of the program.) -/
section
namespace Go.Proofs.YtmaohnbddlccdaaGreat

/-- A table: its addresses rise, and each lease may be. -/
structure TabL (L : List LV) : Prop where
  up : L.Pairwise fun a b => a.addr < b.addr
  right : ∀ x ∈ L, RightL x
def idxT (L : List LV) (a : Nat) : Option Nat := L.findIdx? fun y => y.addr == a
def setL (L : List LV) (x : LV) : List LV × Int := if RightL x then (match idxT L x.addr with | none => (L, 4) | some k => (L.set k x, 0)) else (L, 1)
def getL (L : List LV) (a : Nat) : LV × Int := match L.find? fun y => y.addr == a with | none => (zeroL, 4) | some x => (x, 0)
def ofL (L : List LV) (c : List UInt8) : List LV := L.filter fun y => decide (HeldL y.bind) && y.client == c
def cntL (L : List LV) (b : Int) : Nat := L.countP fun y => y.bind == b
def fstL (L : List LV) (b : Int) : Option Nat := (L.find? fun y => y.bind == b).map LV.addr
def actL (now : Int) (y : LV) : Bool := y.bind == 2 && decide (y.unt ≤ now)
/-- As the document has it: each one behind all that are over no later. -/
def insD (out : List LV) (x : LV) : List LV := out.takeWhile (fun y => decide (y.unt ≤ x.unt)) ++ x :: out.dropWhile (fun y => decide (y.unt ≤ x.unt))
def dueL (L : List LV) (now : Int) : List LV := (L.filter (actL now)).foldl insD []
def newL (ks : List Nat) : List LV := ks.map fun a => bareL a 0 0

/-! ## New, Set, Get -/
theorem new_tab {ks : List Nat} (h : ks.Pairwise (· < ·)) : TabL (newL ks) := by
  refine ⟨?_, fun x hx => ?_⟩
  · unfold newL
    rw [List.pairwise_map]
    exact h
  · obtain ⟨a, _, rfl⟩ := List.mem_map.1 hx
    exact (bare_right a 0 0).2 ⟨.inl rfl, by unfold TimeL; omega⟩
theorem new_addrs (ks : List Nat) : (newL ks).map LV.addr = ks := by
  unfold newL
  rw [List.map_map]
  exact List.map_id ks
theorem idx_some {L : List LV} {a k : Nat} (h : idxT L a = some k) : ∃ x, L[k]? = some x ∧ x.addr = a := by
  unfold idxT at h
  obtain ⟨hk, h1, _⟩ := List.findIdx?_eq_some_iff_getElem.1 h
  exact ⟨L[k], List.getElem?_eq_getElem hk, by simpa using h1⟩
theorem idx_none {L : List LV} {a : Nat} (h : idxT L a = none) : ∀ x ∈ L, x.addr ≠ a := by
  unfold idxT at h
  intro x hx
  have := (List.findIdx?_eq_none_iff.1 h) x hx
  simpa using this
theorem addr_inj {L : List LV} (h : L.Pairwise fun a b => a.addr < b.addr) {i j : Nat} {x y : LV} (hi : L[i]? = some x) (hj : L[j]? = some y) (e : x.addr = y.addr) : i = j := by
  obtain ⟨h1, rfl⟩ := List.getElem?_eq_some_iff.1 hi
  obtain ⟨h2, rfl⟩ := List.getElem?_eq_some_iff.1 hj
  rcases Nat.lt_trichotomy i j with hlt | heq | hgt
  · have := List.pairwise_iff_getElem.1 h i j h1 h2 hlt; omega
  · exact heq
  · have := List.pairwise_iff_getElem.1 h j i h2 h1 hgt; omega
theorem idx_of {L : List LV} (h : L.Pairwise fun a b => a.addr < b.addr) {k : Nat} {x : LV} (hk : L[k]? = some x) : idxT L x.addr = some k := by
  cases hi : idxT L x.addr with
  | none => exact absurd rfl (idx_none hi x (List.mem_of_getElem? hk))
  | some j =>
    obtain ⟨y, hy, e⟩ := idx_some hi
    rw [addr_inj h hy hk e]
theorem set_addrs {L : List LV} {k : Nat} {x y : LV} (hk : L[k]? = some y) (e : y.addr = x.addr) : (L.set k x).map LV.addr = L.map LV.addr := by
  rw [List.map_set]
  apply List.ext_getElem?
  intro i
  rw [List.getElem?_set]
  split
  · rename_i hi
    subst hi
    split
    · rw [List.getElem?_map, hk, Option.map_some, e]
    · rename_i hl
      rw [List.length_map] at hl
      exact absurd (List.getElem?_eq_some_iff.1 hk).1 hl
  · rfl
theorem up_addrs {L : List LV} : L.Pairwise (fun a b => a.addr < b.addr) ↔ (L.map LV.addr).Pairwise (· < ·) := by rw [List.pairwise_map]
theorem setL_addrs (L : List LV) (x : LV) : (setL L x).1.map LV.addr = L.map LV.addr := by
  unfold setL
  split
  · split
    · rfl
    · rename_i k hk
      obtain ⟨y, hy, e⟩ := idx_some hk
      exact set_addrs hy e
  · rfl
theorem setL_length (L : List LV) (x : LV) : (setL L x).1.length = L.length := by
  have := congrArg List.length (setL_addrs L x)
  simpa using this
theorem setL_tab {L : List LV} (h : TabL L) (x : LV) : TabL (setL L x).1 := by
  refine ⟨by rw [up_addrs, setL_addrs, ← up_addrs]; exact h.up, ?_⟩
  unfold setL
  split
  · rename_i hr
    split
    · exact h.right
    · intro z hz
      rcases List.mem_or_eq_of_mem_set hz with h1 | rfl
      · exact h.right z h1
      · exact hr
  · exact h.right
/-- What was set last of an address is known of it, and nothing else is changed. -/
theorem setL_at {L : List LV} (h : TabL L) (x : LV) {i : Nat} {y : LV} (hi : L[i]? = some y) : (setL L x).1[i]? = some (if (setL L x).2 = 0 ∧ y.addr = x.addr then x else y) := by
  unfold setL
  split
  · split
    · rename_i hk
      rw [if_neg (fun h => by have := h.1; simp at this)]
      exact hi
    · rename_i k hk
      obtain ⟨z, hz, e⟩ := idx_some hk
      by_cases hki : k = i
      · subst hki
        rw [hi] at hz
        injection hz with hz
        subst hz
        rw [if_pos ⟨rfl, e⟩]
        simp [(List.getElem?_eq_some_iff.1 hi).1]
      · rw [if_neg (fun hc => hki (addr_inj h.up hz hi (by rw [e, hc.2])))]
        show (L.set k x)[i]? = _
        rw [List.getElem?_set_ne hki]
        exact hi
  · rw [if_neg (fun h => by have := h.1; simp at this)]
    exact hi
theorem setL_ok (L : List LV) (x : LV) : (setL L x).2 = 0 ↔ (x.addr ∈ L.map LV.addr ∧ RightL x) := by
  unfold setL
  split
  · rename_i hr
    split
    · rename_i hk
      constructor
      · intro h; simp at h
      · rintro ⟨h, _⟩
        obtain ⟨y, hy, e⟩ := List.mem_map.1 h
        exact absurd e (idx_none hk y hy)
    · rename_i k hk
      obtain ⟨y, hy, e⟩ := idx_some hk
      exact ⟨fun _ => ⟨List.mem_map.2 ⟨y, List.mem_of_getElem? hy, e⟩, hr⟩, fun _ => rfl⟩
  · rename_i hr
    exact ⟨fun h => by simp at h, fun h => absurd h.2 hr⟩
/-- A table as a function of its addresses: what a map of them keeps. -/
def updF (f : Nat → LV) (x : LV) : Nat → LV := fun a => if a = x.addr then x else f a
theorem map_upd {ks : List Nat} {f : Nat → LV} (hf : ∀ a, (f a).addr = a) (hu : ks.Pairwise (· < ·)) (x : LV) (hr : RightL x) (hx : x.addr ∈ ks) : setL (ks.map f) x = (ks.map (updF f x), 0) := by
  have hup : (ks.map f).Pairwise fun a b => a.addr < b.addr := by
    rw [List.pairwise_map]
    exact hu.imp fun h => by rw [hf, hf]; exact h
  obtain ⟨k, hk⟩ := List.mem_iff_getElem?.1 hx
  have hk2 : (ks.map f)[k]? = some (f x.addr) := by rw [List.getElem?_map, hk]; rfl
  have hi : idxT (ks.map f) x.addr = some k := by
    have := idx_of hup hk2
    rwa [hf] at this
  unfold setL
  rw [if_pos hr, hi]
  show ((ks.map f).set k x, (0 : Int)) = _
  congr 1
  apply List.ext_getElem?
  intro i
  rw [List.getElem?_set, List.getElem?_map]
  split
  · rename_i hki
    subst hki
    rw [if_pos (by rw [List.length_map]; exact (List.getElem?_eq_some_iff.1 hk).1), List.getElem?_map, hk]
    simp [updF]
  · rename_i hki
    rw [List.getElem?_map]
    cases ha : ks[i]? with
    | none => rfl
    | some a =>
      simp only [Option.map_some, updF]
      rw [if_neg]
      intro e
      subst e
      have h1 : (ks.map f)[i]? = some (f x.addr) := by rw [List.getElem?_map, ha]; rfl
      exact hki (addr_inj hup hk2 h1 rfl)
theorem map_get {ks : List Nat} {f : Nat → LV} (hf : ∀ a, (f a).addr = a) (a : Nat) : getL (ks.map f) a = if a ∈ ks then (f a, 0) else (zeroL, 4) := by
  unfold getL
  cases h : (ks.map f).find? (fun y => y.addr == a) with
  | none =>
    rw [if_neg]
    intro ha
    have := List.find?_eq_none.1 h (f a) (List.mem_map.2 ⟨a, ha, rfl⟩)
    simp [hf] at this
  | some x =>
    have h1 := List.find?_some h
    obtain ⟨b, hb, rfl⟩ := List.mem_map.1 (List.mem_of_find?_eq_some h)
    simp [hf] at h1
    subst h1
    rw [if_pos hb]

/-! ## Count, First -/
theorem cnt_sum {L : List LV} (h : TabL L) : cntL L 0 + cntL L 1 + cntL L 2 + cntL L 3 + cntL L 4 + cntL L 5 = L.length := by
  have hr := h.right
  clear h
  unfold cntL
  induction L with
  | nil => rfl
  | cons x r ih =>
    have := ih (fun y hy => hr y (List.mem_cons_of_mem _ hy))
    have h0 := (hr x (List.mem_cons_self ..)).b0
    have h1 := (hr x (List.mem_cons_self ..)).b1
    simp only [List.countP_cons, List.length_cons, beq_iff_eq]
    have hb : x.bind = 0 ∨ x.bind = 1 ∨ x.bind = 2 ∨ x.bind = 3 ∨ x.bind = 4 ∨ x.bind = 5 := by omega
    rcases hb with hb | hb | hb | hb | hb | hb <;> simp [hb] <;> omega
theorem cnt_new (ks : List Nat) : cntL (newL ks) 0 = ks.length := by
  unfold cntL newL
  rw [List.countP_map]
  exact List.countP_eq_length.2 fun a _ => by simp [bareL]
theorem fst_cnt (L : List LV) (b : Int) : (fstL L b).isSome = decide (0 < cntL L b) := by
  unfold fstL cntL
  rw [Option.isSome_map, Bool.eq_iff_iff, List.find?_isSome, decide_eq_true_eq, List.countP_pos_iff]
theorem fst_least {L : List LV} (h : TabL L) {b : Int} {a : Nat} (hf : fstL L b = some a) : ∀ y ∈ L, y.bind = b → a ≤ y.addr := by
  unfold fstL at hf
  obtain ⟨x, hx, rfl⟩ := Option.map_eq_some_iff.1 hf
  intro y hy hb
  obtain ⟨_, i, hi, e, hno⟩ := List.find?_eq_some_iff_getElem.1 hx
  obtain ⟨j, hj, rfl⟩ := List.mem_iff_getElem.1 hy
  rcases Nat.lt_or_ge j i with hlt | hge
  · have := hno j hlt
    simp [hb] at this
  · rw [← e]
    rcases Nat.eq_or_lt_of_le hge with rfl | hlt
    · exact Nat.le_refl _
    · exact Nat.le_of_lt (List.pairwise_iff_getElem.1 h.up i j hi hj hlt)

/-! ## Due -/
def ltD (a b : LV) : Prop := a.unt < b.unt ∨ (a.unt = b.unt ∧ a.addr < b.addr)
theorem ltD_trans {a b c : LV} (h : ltD a b) (k : ltD b c) : ltD a c := by unfold ltD at *; omega
theorem ltD_asymm {a b : LV} (h : ltD a b) (k : ltD b a) : False := by unfold ltD at *; omega
/-- Lists with the same elements that both rise are the same. -/
theorem rise_unique {α : Type} {lt : α → α → Prop} (hasym : ∀ a b, lt a b → lt b a → False) : ∀ {l m : List α}, l.Perm m → l.Pairwise lt → m.Pairwise lt → l = m
  | [], m, hp, _, _ => (List.nil_perm.1 hp).symm
  | x :: l, [], hp, _, _ => absurd (List.perm_nil.1 hp) (by simp)
  | x :: l, y :: m, hp, hl, hm => by
    obtain ⟨hx, hl'⟩ := List.pairwise_cons.1 hl
    obtain ⟨hy, hm'⟩ := List.pairwise_cons.1 hm
    have hxy : x = y := by
      have h1 : x ∈ y :: m := hp.subset (List.mem_cons_self ..)
      have h2 : y ∈ x :: l := hp.symm.subset (List.mem_cons_self ..)
      rcases List.mem_cons.1 h1 with h1 | h1
      · exact h1
      rcases List.mem_cons.1 h2 with h2 | h2
      · exact h2.symm
      exact (hasym _ _ (hy x h1) (hx y h2)).elim
    subst hxy
    rw [rise_unique hasym hp.cons_inv hl' hm']
theorem insD_perm (out : List LV) (x : LV) : (insD out x).Perm (out ++ [x]) := by
  unfold insD
  have h1 := List.takeWhile_append_dropWhile (p := fun y : LV => decide (y.unt ≤ x.unt)) (l := out)
  refine (List.perm_middle).trans ?_
  rw [h1]
  exact (List.perm_append_singleton x out).symm
theorem foldD_perm (l out : List LV) : (l.foldl insD out).Perm (out ++ l) := by
  induction l generalizing out with
  | nil => simp
  | cons x r ih =>
    refine (ih (insD out x)).trans ?_
    have := (insD_perm out x).append_right r
    rwa [List.append_assoc] at this
theorem due_perm (L : List LV) (now : Int) : (dueL L now).Perm (L.filter (actL now)) := by
  have := foldD_perm (L.filter (actL now)) []
  rwa [List.nil_append] at this
theorem takeWhile_imp {α : Type} {p : α → Bool} {l : List α} {a : α} (h : a ∈ l.takeWhile p) : p a = true := by
  induction l with
  | nil => cases h
  | cons z r ih =>
    rw [List.takeWhile_cons] at h
    split at h
    · rename_i hz
      rcases List.mem_cons.1 h with rfl | h
      · exact hz
      · exact ih h
    · cases h
theorem dropWhile_far {l : List LV} {x : LV} (h : l.Pairwise ltD) : ∀ y ∈ l.dropWhile (fun y => decide (y.unt ≤ x.unt)), x.unt < y.unt := by
  induction l with
  | nil => intro y hy; cases hy
  | cons z r ih =>
    obtain ⟨hz, hr⟩ := List.pairwise_cons.1 h
    intro y hy
    rw [List.dropWhile_cons] at hy
    by_cases hle : z.unt ≤ x.unt
    · rw [if_pos (decide_eq_true hle)] at hy
      exact ih hr y hy
    · rw [if_neg (by simpa using hle)] at hy
      rcases List.mem_cons.1 hy with rfl | hy
      · omega
      · have := hz y hy
        unfold ltD at this
        omega
theorem insD_rise {out : List LV} {x : LV} (h : out.Pairwise ltD) (hx : ∀ y ∈ out, y.addr < x.addr) : (insD out x).Pairwise ltD := by
  unfold insD
  have hs := List.takeWhile_append_dropWhile (p := fun y : LV => decide (y.unt ≤ x.unt)) (l := out)
  have h' := h
  rw [← hs] at h'
  obtain ⟨h1, h2, h3⟩ := List.pairwise_append.1 h'
  have hd := dropWhile_far (x := x) h
  refine List.pairwise_append.2 ⟨h1, List.pairwise_cons.2 ⟨fun y hy => .inl (hd y hy), h2⟩, ?_⟩
  intro a ha b hb
  rcases List.mem_cons.1 hb with rfl | hb
  · have ha1 : a.unt ≤ b.unt := by simpa using takeWhile_imp ha
    have ha2 := hx a ((List.takeWhile_sublist _).subset ha)
    unfold ltD
    omega
  · exact h3 a ha b hb
theorem foldD_rise : ∀ (l out : List LV), out.Pairwise ltD → l.Pairwise (fun a b => a.addr < b.addr) → (∀ y ∈ out, ∀ x ∈ l, y.addr < x.addr) → (l.foldl insD out).Pairwise ltD
  | [], out, h, _, _ => h
  | x :: r, out, h, hl, hx => by
    obtain ⟨h1, h2⟩ := List.pairwise_cons.1 hl
    refine foldD_rise r (insD out x) (insD_rise h fun y hy => hx y hy x (List.mem_cons_self ..)) h2 fun y hy z hz => ?_
    rcases List.mem_append.1 ((insD_perm out x).subset hy) with hy | hy
    · exact hx y hy z (List.mem_cons_of_mem _ hz)
    · obtain rfl := List.mem_singleton.1 hy
      exact h1 z hz
theorem due_rise {L : List LV} (h : TabL L) (now : Int) : (dueL L now).Pairwise ltD :=
  foldD_rise _ [] List.Pairwise.nil (h.up.filter _) (fun y hy => by cases hy)
/-- Whatever list has those that are due, and rises so, is the document's. -/
theorem due_only {L : List LV} (h : TabL L) {now : Int} {l : List LV} (hp : l.Perm (L.filter (actL now))) (hl : l.Pairwise ltD) : l = dueL L now :=
  rise_unique (fun _ _ => ltD_asymm) (hp.trans (due_perm L now).symm) hl (due_rise h now)
theorem due_length (L : List LV) (now : Int) : (dueL L now).length = L.countP (actL now) := by
  rw [(due_perm L now).length_eq, List.countP_eq_length_filter]
/-- A list that rises is what is over by x, and behind that all else. -/
theorem rise_part (x : Int) : ∀ {l : List LV}, l.Pairwise ltD → l = l.filter (fun y => decide (y.unt ≤ x)) ++ l.filter (fun y => !decide (y.unt ≤ x))
  | [], _ => rfl
  | y :: r, h => by
    obtain ⟨h1, h2⟩ := List.pairwise_cons.1 h
    have ih := rise_part x h2
    by_cases hy : y.unt ≤ x
    · rw [List.filter_cons_of_pos (by simpa using hy), List.filter_cons_of_neg (by simpa using hy), List.cons_append, ← ih]
    · have hz : r.filter (fun y => decide (y.unt ≤ x)) = [] := List.filter_eq_nil_iff.2 fun z hz => by
        have := h1 z hz
        unfold ltD at this
        simp
        omega
      rw [hz] at ih
      rw [List.filter_cons_of_neg (by simpa using hy), List.filter_cons_of_pos (by simpa using hy), hz, List.nil_append]
      rw [List.nil_append] at ih
      rw [← ih]
/-- What is due stays so later, and comes first. -/
theorem due_later {L : List LV} (h : TabL L) {x y : Int} (hxy : x ≤ y) : (dueL L y).take (dueL L x).length = dueL L x := by
  have hr := due_rise h y
  have hp := rise_part x hr
  have he : (dueL L y).filter (fun y => decide (y.unt ≤ x)) = dueL L x := by
    refine due_only h ?_ (hr.filter _)
    refine ((due_perm L y).filter _).trans ?_
    rw [List.filter_filter]
    refine List.Perm.of_eq (List.filter_congr fun z _ => ?_)
    unfold actL
    rw [Bool.eq_iff_iff]
    simp only [Bool.and_eq_true, beq_iff_eq, decide_eq_true_eq]
    constructor
    · rintro ⟨h1, h2, _⟩; exact ⟨h2, h1⟩
    · rintro ⟨h1, h2⟩; exact ⟨h2, h1, by omega⟩
  rw [he] at hp
  rw [hp, List.take_left]
theorem due_more {L : List LV} (h : TabL L) {x y : Int} (hxy : x ≤ y) : (dueL L x).length ≤ (dueL L y).length := by
  rw [← due_later h hxy, List.length_take]
  omega
/-- Those of a client have its name, and are held. -/
theorem of_mem {L : List LV} {c : List UInt8} {y : LV} : y ∈ ofL L c ↔ y ∈ L ∧ HeldL y.bind ∧ y.client = c := by
  simp [ofL]
end Go.Proofs.YtmaohnbddlccdaaGreat
end

/- The document's table in memory: rows of leases; find, Get, Count, First, Set. -/
section
namespace Go.Proofs.YtmaohnbddlccdaaGreat
open Go.RowKit Go.Sort
attribute [local go_sem ↓] run_eqlL run_neqL run_guardL

/-- Leases as elements of slices. -/
def ElemL : Elem Tryz.prog LV where
  e := 42
  ty := 28
  m := 8
  bytes := 72
  zero := .agg #[.int .u32 0, .int .i64 0, .string ⟨#[]⟩, .int .i64 0, .int .i64 0, .int .i64 0, .int .i64 0, .int .i64 0]
  cells := fun x => x.cells.toList
  hm := by decide
  hb0 := by decide
  hb := by decide
  len := fun _ => rfl
  one := fun v u hu => by
    simp at hu
    rcases hu with rfl | rfl | rfl | rfl | rfl | rfl | rfl | rfl <;> rfl
  und := Tryz.underlying28
  info := by kernel_rfl
  hz := rfl
section
variable {w w' : World} {B : Nat} {A : Option Addr} {l : List LV}
/-- An element's cells. -/
theorem El.at8 (h : El ElemL w B A l) (i : Nat) (x : LV) (hx : l[i]? = some x) : ∃ b o, A = some ⟨b, o, none⟩ ∧ b < B ∧ w.cell? ⟨b, o + i * 8, none⟩ = some (.int .u32 (x.addr : Int)) ∧ w.cell? ⟨b, o + i * 8 + 1, none⟩ = some (.int .i64 x.bind) ∧ w.cell? ⟨b, o + i * 8 + 2, none⟩ = some (.string x.cb) ∧ w.cell? ⟨b, o + i * 8 + 3, none⟩ = some (.int .i64 x.unt) ∧ w.cell? ⟨b, o + i * 8 + 4, none⟩ = some (.int .i64 x.acked) ∧ w.cell? ⟨b, o + i * 8 + 5, none⟩ = some (.int .i64 x.told) ∧ w.cell? ⟨b, o + i * 8 + 6, none⟩ = some (.int .i64 x.at_) ∧ w.cell? ⟨b, o + i * 8 + 7, none⟩ = some (.int .i64 x.ver) := by
  obtain ⟨b, o, h1, h2, h3⟩ := h.at_ i x hx
  exact ⟨b, o, h1, h2, h3 0 _ rfl, h3 1 _ rfl, h3 2 _ rfl, h3 3 _ rfl, h3 4 _ rfl, h3 5 _ rfl, h3 6 _ rfl, h3 7 _ rfl⟩
end

/-- Block g is the document's table: its slice is v, its leases are L, in a row made since w0. -/
structure RTb (w0 w : World) (g : Nat) (v : Value) (L : List LV) : Prop where
  box : w.heap[g]? = some (.cells #[v] 106 (0, 0))
  row : RowE ElemL w0 w v L
  lo : w0.heap.size ≤ g
section
variable {w0 w w' : World} {g : Nat} {v : Value} {L : List LV}
theorem RTb.low (h : RTb w0 w g v L) : Below w0.heap.size w0 w := h.row.low
theorem RTb.lt (h : RTb w0 w g v L) : g < w.heap.size := (Array.getElem?_eq_some_iff.1 h.box).1
theorem RTb.apart (h : RTb w0 w g v L) : v.ownBlock ≠ some g := h.row.apart h.box (by decide)
theorem RTb.later (h : RTb w0 w g v L) (hb : Below w.heap.size w w') : RTb w0 w' g v L := ⟨(hb.block g h.lt).trans h.box, h.row.later hb, h.lo⟩
/-- What else is changed leaves it alone. -/
theorem RTb.kept (h : RTb w0 w g v L) {row : Option Nat} (hg : w.grownBy w' row) (h0 : ∀ k, row = some k → w0.heap.size ≤ k) (h1 : row ≠ some g) (h2 : row = none ∨ row ≠ v.ownBlock) : RTb w0 w' g v L :=
  ⟨(hg.block g h.lt (fun e => h1 e.symm)).trans h.box, h.row.kept hg h0 h2, h.lo⟩
/-- What is read of it. -/
theorem RTb.read (h : RTb w0 w g v L) : ∃ A c, v = .slice A L.length c ∧ w.cell? ⟨g, 0, none⟩ = some (.slice A L.length c) ∧ L.length ≤ c ∧ El ElemL w w.heap.size A L := by
  obtain ⟨A, c, rfl, h3, h4⟩ := h.row.form
  have := cell_of_row w g 0 _ _ _ h.box
  exact ⟨A, c, rfl, by simpa using this, h3, h4⟩
end
def idxI (o : Option Nat) : Int := match o with | none => -1 | some k => (k : Int)

set_option maxRecDepth 100000 in
set_option maxHeartbeats 1000000 in
theorem rfind_any {w0 w : World} {g : Nat} {v : Value} {L : List LV} (a : Nat) (h : RTb w0 w g v L) (hL : L.length ≤ 100000) :
    Calls Tryz.prog 68 #[.pointer (some ⟨g, 0, none⟩), .int .u32 (a : Int)] w fun e w' => e = .returned (.int .i64 (idxI (idxT L a))) ∧ w = w' := by
  obtain ⟨A, c, -, c0, hlc, HE⟩ := h.read
  have HE := Lib.hid HE
  clear h
  go_enter Tryz.func68, Tryz.ntmps68
  go_wp2
  go_loop [5] (fun i => ∃ j : Nat, j ≤ L.length ∧ i = .int .i64 j ∧ Hid (∀ x ∈ L.take j, x.addr ≠ a)) (fun i => L.length - (intOf i).toNat)
  case atStart => exact ⟨0, Nat.zero_le _, rfl, Lib.hid (by simp)⟩
  case round =>
    obtain ⟨j, hj, rfl, HN⟩ := hrel
    by_cases hlt : j < L.length
    · obtain ⟨x, hx⟩ : ∃ x, L[j]? = some x := ⟨_, List.getElem?_eq_getElem hlt⟩
      obtain ⟨b, o, rfl, hb, c00, -⟩ := HE.out.at8 j x hx
      have HX := Lib.hid hx
      clear hx
      by_cases he : x.addr = a
      · have HI : Hid (idxT L a = some j) := Lib.hid (by
          obtain ⟨h1, h2⟩ := List.getElem?_eq_some_iff.1 HX.out
          unfold idxT
          rw [List.findIdx?_eq_some_iff_getElem]
          refine ⟨h1, by rw [h2]; simpa using he, fun k hk => ?_⟩
          have := HN.out L[k] (List.mem_of_getElem? (by rw [List.getElem?_take, if_pos hk]; exact List.getElem?_eq_getElem (by omega)))
          simpa using this)
        have hq : ((x.addr : Int) == (a : Int)) = true := by simp [he]
        clear he
        go_wp2
        go_ret
        rw [HI.out]
        exact ⟨rfl, rfl⟩
      · have hq : ((x.addr : Int) == (a : Int)) = false := by simp; omega
        have HN2 : Hid (∀ y ∈ L.take (j + 1), y.addr ≠ a) := Lib.hid (by
          intro y hy
          rw [take_snoc_of L j x HX.out, List.mem_append, List.mem_singleton] at hy
          rcases hy with hy | rfl
          · exact HN.out y hy
          · exact he)
        clear he
        go_wp2
        go_round
        case rel => exact ⟨j + 1, by omega, by go_num, HN2⟩
        case measure => simp [intOf]; omega
    · have HI : Hid (idxT L a = none) := Lib.hid (by
        unfold idxT
        rw [List.findIdx?_eq_none_iff]
        intro x hx
        have := HN.out x (by rwa [List.take_of_length_le (by omega)])
        simpa using this)
      go_wp2
      go_ret
      rw [HI.out]
      exact ⟨rfl, rfl⟩

/-- What First answers. -/
def fstV (o : Option Nat) : Value := match o with | none => .tuple #[.int .u32 0, .bool false] | some a => .tuple #[.int .u32 (a : Int), .bool true]
end Go.Proofs.YtmaohnbddlccdaaGreat
end

/- The document's table: Get, Set; lists of leases compared. -/
section
namespace Go.Proofs.YtmaohnbddlccdaaGreat
open Go.RowKit Go.Sort
attribute [local go_sem ↓] run_eqlL run_neqL run_guardL

theorem get_idx {L : List LV} {a : Nat} : (idxT L a = none → getL L a = (zeroL, 4)) ∧ ∀ k x, idxT L a = some k → L[k]? = some x → getL L a = (x, 0) := by
  constructor
  · intro h
    unfold getL
    rw [List.find?_eq_none.2 fun x hx => ?_]
    simpa using idx_none h x hx
  · intro k x hk hx
    obtain ⟨h1, h2⟩ := List.getElem?_eq_some_iff.1 hx
    unfold idxT at hk
    obtain ⟨h3, h4, h5⟩ := List.findIdx?_eq_some_iff_getElem.1 hk
    unfold getL
    rw [List.find?_eq_some_iff_getElem.2 ⟨by rw [h2] at h4; exact h4, k, h1, h2, fun j hj => by simpa using h5 j hj⟩]
theorem idx_lt {L : List LV} {a k : Nat} (h : idxT L a = some k) : k < L.length := by
  obtain ⟨x, hx, _⟩ := idx_some h
  exact (List.getElem?_eq_some_iff.1 hx).1

theorem rget_end {w W : World} {g : Nat} {r : LV × Int} {q : LV} {k : Int} {t : Array Value} (hz : LBox W g zeroL) (hB : Below w.heap.size w W) (hg : w.heap.size ≤ g) (hD : r = (q, k)) (h2 : t[4]?.getD undef = .pointer (some ⟨g, 0, none⟩)) (h3 : t[5]?.getD undef = .int .i64 k) :
    bodyPost Tryz.prog Tryz.f47 (fun e w' => e = .returned (.tuple #[r.1.v, .int .i64 r.2]) ∧ Below w.heap.size w w') .ret { tmps := t, defers := [] } (storeL W g q) := by
  refine bodyPost_ret (v := .tuple #[q.v, .int .i64 k]) ?_ ?_ ?_
  · obtain ⟨r0, r1, r2, r3, r4, r5, r6, r7⟩ := (storeL_box hz q).all
    simp [results, Tryz.f47, go_sem, h2, h3, r0, r1, r2, r3, r4, r5, r6, r7]
  · rfl
  · rw [hD]
    exact ⟨rfl, hB.trans (storeL_low W _ g hg q)⟩

set_option maxRecDepth 100000 in
set_option maxHeartbeats 2000000 in
theorem rget_any {w0 w : World} {g : Nat} {v : Value} {L : List LV} (a : Nat) (h : RTb w0 w g v L) (hL : L.length ≤ 100000) :
    Calls Tryz.prog 47 #[.pointer (some ⟨g, 0, none⟩), .int .u32 (a : Int)] w fun e w' => e = .returned (.tuple #[(getL L a).1.v, .int .i64 (getL L a).2]) ∧ Below w.heap.size w w' := by
  obtain ⟨w1, hw1⟩ : ∃ w1, w1 = w.alloc (.cells #[.int .u32 0, .int .i64 0, .string ⟨#[]⟩, .int .i64 0, .int .i64 0, .int .i64 0, .int .i64 0, .int .i64 0] 42) := ⟨_, rfl⟩
  have HZ : Hid (LBox w1 w.heap.size zeroL) := Lib.hid (by rw [hw1]; exact LBox.new w zeroL)
  have hB1 : Below w.heap.size w w1 := by rw [hw1]; exact (Below.refl _ _).alloc (Nat.le_refl _) _
  have HT := Lib.hid (h.later hB1)
  have HB1 := Lib.hid hB1
  have HW1 := Lib.hid hw1
  clear hw1 hB1 h
  obtain ⟨z0, z1, z2, z3, z4, z5, z6, z7⟩ := HZ.out.all
  obtain ⟨f0, f1, f2, f3, f4, f5, f6, f7⟩ := HZ.out.allF
  obtain ⟨A, c, -, c0, hlc, HE⟩ := HT.out.read
  have HE := Lib.hid HE
  have HG := Lib.hid (@get_idx L a)
  cases hk : idxT L a with
  | none =>
    have HD := Lib.hid (HG.out.1 hk)
    have HF := Lib.hid (rfind_any a HT.out hL)
    rw [hk] at HF
    have hm : decide ((-1 : Int) < 0) = true := by decide
    clear hk
    go_enter Tryz.func47, Tryz.ntmps47
    go_upto_region 1 with fail
    rw [← HW1.out]
    go_wp2_with fail
    refine HF.out.mono ?_
    rintro e w' ⟨rfl, rfl⟩
    simp only [idxI]
    go_wp2
    exact rget_end (q := zeroL) (W := w1) HZ.out HB1.out (Nat.le_refl _) HD.out rfl rfl
  | some k =>
    have hkl := idx_lt hk
    obtain ⟨x, hx, he⟩ := idx_some hk
    clear he
    have HD := Lib.hid (HG.out.2 k x hk hx)
    obtain ⟨b, o, rfl, hb, x0, x1, x2, x3, x4, x5, x6, x7⟩ := HE.out.at8 k x hx
    have HF := Lib.hid (rfind_any a HT.out hL)
    rw [hk] at HF
    have hm : decide ((k : Int) < 0) = false := by simp
    clear hk hx
    go_enter Tryz.func47, Tryz.ntmps47
    go_upto_region 1 with fail
    rw [← HW1.out]
    go_wp2_with fail
    refine HF.out.mono ?_
    rintro e w' ⟨rfl, rfl⟩
    simp only [idxI]
    go_wp2
    exact rget_end (q := x) (W := w1) HZ.out HB1.out (Nat.le_refl _) HD.out rfl rfl

/-- A lease is put in the place of another one. -/
theorem RTb.put {w0 w : World} {g : Nat} {v : Value} {L : List LV} (h : RTb w0 w g v L) (k : Nat) (x : LV) (hk : k < L.length) : ∃ g1 c, v = .slice (some ⟨g1, 0, none⟩) L.length c ∧ w.cell? ⟨g, 0, none⟩ = some (.slice (some ⟨g1, 0, none⟩) L.length c) ∧ (∃ y, L[k]? = some y ∧
    w.cell? ⟨g1, k * 8, none⟩ = some (.int .u32 (y.addr : Int)) ∧ w.cell? ⟨g1, k * 8 + 1, none⟩ = some (.int .i64 y.bind) ∧ w.cell? ⟨g1, k * 8 + 2, none⟩ = some (.string y.cb) ∧ w.cell? ⟨g1, k * 8 + 3, none⟩ = some (.int .i64 y.unt) ∧ w.cell? ⟨g1, k * 8 + 4, none⟩ = some (.int .i64 y.acked) ∧ w.cell? ⟨g1, k * 8 + 5, none⟩ = some (.int .i64 y.told) ∧ w.cell? ⟨g1, k * 8 + 6, none⟩ = some (.int .i64 y.at_) ∧ w.cell? ⟨g1, k * 8 + 7, none⟩ = some (.int .i64 y.ver)) ∧
    (∀ i, w.frozen? ⟨g1, i, none⟩ = false) ∧ (∀ w', w.drew = w' ∨ w = w' → RTb w0 (putCells w' g1 (k * 8) x.cells.toList) g v (L.set k x) ∧ w.grownBy (putCells w' g1 (k * 8) x.cells.toList) v.ownBlock) ∧ w0.heap.size ≤ g1 ∧ g1 < w.heap.size := by
  have hap := h.apart
  have hlt := h.row.lt
  have hrow := h.row
  obtain ⟨A, c, rfl, hc0, hlc, HE⟩ := h.read
  obtain ⟨y, hy⟩ : ∃ y, L[k]? = some y := ⟨_, List.getElem?_eq_getElem hk⟩
  have hA : ∃ g1, A = some ⟨g1, 0, none⟩ := by
    rcases hrow.own.2 with ⟨h1, h2⟩ | ⟨g1, cap, cur, h1, _⟩
    · rw [h2] at hk; omega
    · injection h1 with h1
      exact ⟨g1, h1⟩
  obtain ⟨g1, rfl⟩ := hA
  have hg1 := hlt g1 rfl
  have hne : g1 ≠ g := fun e => hap (by rw [e]; rfl)
  obtain ⟨b, o, e, _, c0, c1, c2, c3, c4, c5, c6, c7⟩ := HE.at8 k y hy
  injection e with e
  injection e with e1 e2
  subst e1 e2
  simp only [Nat.zero_add] at c0 c1 c2 c3 c4 c5 c6 c7
  refine ⟨g1, c, rfl, hc0, ⟨y, hy, c0, c1, c2, c3, c4, c5, c6, c7⟩, fun i => hrow.own.frozenAt i, ?_, hg1.1, hg1.2⟩
  have key : ∀ W, RowE ElemL w0 W (.slice (some ⟨g1, 0, none⟩) L.length c) L → W.heap = w.heap → W.os = w.os → W.output = w.output → W.tape = w.tape → RTb w0 (putCells W g1 (k * 8) x.cells.toList) g (.slice (some ⟨g1, 0, none⟩) L.length c) (L.set k x) ∧ w.grownBy (putCells W g1 (k * 8) x.cells.toList) (some g1) := by
    intro W hW hh ho hp ht
    obtain ⟨h1, h2⟩ := hW.put k x hk
    have h1' : RowE ElemL w0 (putCells W g1 (k * 8) x.cells.toList) (.slice (some ⟨g1, 0, none⟩) L.length c) (L.set k x) := by
      have h3 := h1
      rw [List.length_set] at h3
      exact h3
    have h2' : W.grownBy (putCells W g1 (k * 8) x.cells.toList) (some g1) := h2
    refine ⟨⟨?_, h1', h.lo⟩, ⟨h2'.os.trans ho, h2'.tape.trans ht, h2'.output.trans hp, by rw [← hh]; exact h2'.size, fun j hj hn => (h2'.block j (by rw [hh]; exact hj) hn).trans (by rw [hh])⟩⟩
    rw [h2'.block g (by rw [hh]; exact h.lt) (fun e => hne (by injection e with e; exact e.symm)), hh]
    exact h.box
  rintro w' (rfl | rfl)
  · exact key _ hrow.drew rfl rfl rfl rfl
  · exact key _ hrow rfl rfl rfl rfl
theorem RTb.drew {w0 w : World} {g : Nat} {v : Value} {L : List LV} (h : RTb w0 w g v L) : RTb w0 w.drew g v L := ⟨h.box, h.row.drew, h.lo⟩
theorem grown_drew {w w' : World} {row : Option Nat} (h : w.grownBy w' row) : w.grownBy w'.drew row := ⟨h.os, h.tape, h.output, h.size, h.block⟩
theorem tgrown_of_below {w w1 w2 : World} {row : Option Nat} (hb : Below w.heap.size w w1) (hg : w1.grownBy w2 row) : w.grownBy w2 row :=
  ⟨hg.os.trans hb.os, hg.tape.trans hb.tape, hg.output.trans hb.output, Nat.le_trans hb.size hg.size, fun k hk hn => (hg.block k (Nat.lt_of_lt_of_le hk hb.size) hn).trans (hb.block k hk)⟩

set_option maxRecDepth 100000 in
set_option maxHeartbeats 2000000 in
theorem rset_any {w0 w : World} {g : Nat} {v : Value} {L : List LV} (x : LV) (h : RTb w0 w g v L) (hL : L.length ≤ 100000) :
    Calls Tryz.prog 29 #[.pointer (some ⟨g, 0, none⟩), x.v] w fun e w' => e = .returned (.int .i64 (setL L x).2) ∧ RTb w0 w' g v (setL L x).1 ∧ w.grownBy w' v.ownBlock := by
  obtain ⟨w1, hw1⟩ : ∃ w1, w1 = w.alloc (lbox x) := ⟨_, rfl⟩
  have HX : Hid (LBox w1 w.heap.size x) := Lib.hid (by rw [hw1]; exact LBox.new w x)
  have hB1 : Below w.heap.size w w1 := by rw [hw1]; exact (Below.refl _ _).alloc (Nat.le_refl _) _
  have HT := Lib.hid (h.later hB1)
  have HB1 := Lib.hid hB1
  have HW1 := Lib.hid hw1
  have HR := Lib.hid (fun W => rright_any x W)
  clear hw1 hB1 h
  by_cases hr : RightL x
  rotate_left
  · have hS : setL L x = (L, 1) := by unfold setL; rw [if_neg hr]
    rw [hS]
    rw [decide_eq_false hr] at HR
    clear hr hS
    obtain ⟨c0, c1, c2, c3, c4, c5, c6, c7⟩ := HX.out.all
    go_enter Tryz.func29, Tryz.ntmps29
    go_wp2_with fail
    rw [← HW1.out]
    refine (HR.out _).mono ?_
    rintro e w2 ⟨rfl, hB2⟩
    have hT2 := HT.out.later hB2
    go_wp2
    go_ret
    exact ⟨rfl, hT2, tgrown_of_below (HB1.out.trans (hB2.mono HB1.out.size)) (World.grownBy.refl _ _)⟩
  · rw [decide_eq_true hr] at HR
    obtain ⟨c0, c1, c2, c3, c4, c5, c6, c7⟩ := HX.out.all
    have HRR := Lib.hid hr
    clear hr
    go_enter Tryz.func29, Tryz.ntmps29
    go_wp2_with fail
    rw [← HW1.out]
    refine (HR.out _).mono ?_
    rintro e w2 ⟨rfl, hB2⟩
    have HT2 := Lib.hid (HT.out.later hB2)
    have HX2 := Lib.hid (HX.out.later hB2)
    have HB2 := Lib.hid (HB1.out.trans (hB2.mono HB1.out.size))
    clear hB2 c0 c1 c2 c3 c4 c5 c6 c7
    obtain ⟨c0, c1, c2, c3, c4, c5, c6, c7⟩ := HX2.out.all
    have HF := Lib.hid (rfind_any x.addr HT2.out hL)
    go_wp2_with fail
    cases hk : idxT L x.addr with
    | none =>
      have HS : Hid (setL L x = (L, 4)) := Lib.hid (by unfold setL; rw [if_pos HRR.out, hk])
      rw [hk] at HF
      have hm : decide ((-1 : Int) < 0) = true := by decide
      clear hk
      refine HF.out.mono ?_
      rintro e w' ⟨rfl, rfl⟩
      simp only [idxI]
      go_wp2
      go_ret
      rw [HS.out]
      exact ⟨rfl, HT2.out, tgrown_of_below HB2.out (World.grownBy.refl _ _)⟩
    | some k =>
      have HS : Hid (setL L x = (L.set k x, 0)) := Lib.hid (by unfold setL; rw [if_pos HRR.out, hk])
      have hkl := idx_lt hk
      rw [hk] at HF
      have hm : decide ((k : Int) < 0) = false := by simp
      obtain ⟨g1, c, hv, hc0, ⟨y, -, y0, y1, y2, y3, y4, y5, y6, y7⟩, hf, hput, hlo, hg1⟩ := HT2.out.put k x hkl
      have HP := Lib.hid hput
      have HV := Lib.hid hv
      have f0 := hf (k * 8)
      have f1 := hf (k * 8 + 1)
      have f2 := hf (k * 8 + 2)
      have f3 := hf (k * 8 + 3)
      have f4 := hf (k * 8 + 4)
      have f5 := hf (k * 8 + 5)
      have f6 := hf (k * 8 + 6)
      have f7 := hf (k * 8 + 7)
      have HLO := Lib.hid hlo
      clear hk hput hf hv hlo
      refine HF.out.mono ?_
      rintro e w' ⟨rfl, rfl⟩
      simp only [idxI]
      go_upto_region 7 with fail
      go_region
      go_wp2
      go_ret
      rw [HS.out]
      obtain ⟨h1, h2⟩ := HP.out _ (.inr rfl)
      exact ⟨rfl, h1.drew, tgrown_of_below HB2.out (grown_drew h2)⟩

end Go.Proofs.YtmaohnbddlccdaaGreat
end

/- The document's table: Of, Due. -/
section
namespace Go.Proofs.YtmaohnbddlccdaaGreat
open Go.RowKit Go.Sort

/-- Leases are answered, in a row made since. -/
def GivesE (w : World) (l : List LV) (e : Ending) (w' : World) : Prop :=
  ∃ A c l', e = .returned (.slice A l'.length c) ∧ Hid (l' = l) ∧ RowE ElemL w w' (.slice A l'.length c) l' ∧ l'.length ≤ c
theorem of_snoc (L : List LV) (x : LV) (c : List UInt8) : ofL (L ++ [x]) c = ofL L c ++ (if (decide (HeldL x.bind) && x.client == c) = true then [x] else []) := by
  unfold ofL
  rw [List.filter_append]
  congr 1
  rw [List.filter_cons, List.filter_nil]
theorem cells8 (x : LV) : x.cells.toList = ecells ElemL [x] := (ecells_one_elem ElemL x).symm

end Go.Proofs.YtmaohnbddlccdaaGreat
end

/- The document's table: Due. -/
section
namespace Go.Proofs.YtmaohnbddlccdaaGreat
open Go.RowKit Go.Sort

theorem takeWhile_of {α : Type} {p : α → Bool} : ∀ (l : List α) (k : Nat), (∀ x ∈ l.take k, p x = true) → (k = l.length ∨ ∃ x, l[k]? = some x ∧ p x = false) → l.take k = l.takeWhile p ∧ l.drop k = l.dropWhile p
  | [], k, _, _ => by simp
  | y :: r, 0, _, h => by
    rcases h with h | ⟨x, hx, hp⟩
    · simp at h
    · simp at hx
      subst hx
      simp [hp]
  | y :: r, k + 1, h1, h2 => by
    have hy := h1 y (by simp)
    obtain ⟨e1, e2⟩ := takeWhile_of r k (fun x hx => h1 x (by rw [List.take_succ_cons]; exact List.mem_cons_of_mem _ hx)) (by
      rcases h2 with h2 | ⟨x, hx, hp⟩
      · left; simpa using h2
      · right; exact ⟨x, by simpa using hx, hp⟩)
    rw [List.take_succ_cons, List.drop_succ_cons, List.takeWhile_cons, List.dropWhile_cons, if_pos hy, if_pos hy, e1, e2]
    exact ⟨rfl, rfl⟩
theorem insD_of {d : List LV} {x : LV} {k : Nat} (h1 : ∀ y ∈ d.take k, y.unt ≤ x.unt) (h2 : k = d.length ∨ ∃ y, d[k]? = some y ∧ ¬ y.unt ≤ x.unt) : insD d x = d.take k ++ [x] ++ d.drop k := by
  obtain ⟨e1, e2⟩ := takeWhile_of (p := fun y : LV => decide (y.unt ≤ x.unt)) d k (fun y hy => decide_eq_true (h1 y hy)) (by
    rcases h2 with h2 | ⟨y, hy, hn⟩
    · exact .inl h2
    · exact .inr ⟨y, hy, decide_eq_false hn⟩)
  unfold insD
  rw [e1, e2, List.append_assoc]
  rfl
theorem due_snoc (L : List LV) (x : LV) (now : Int) : dueL (L ++ [x]) now = if actL now x = true then insD (dueL L now) x else dueL L now := by
  unfold dueL
  rw [List.filter_append, List.foldl_append, List.filter_cons, List.filter_nil]
  split
  · rfl
  · rfl
theorem due_len_le (L : List LV) (now : Int) : (dueL L now).length ≤ L.length := by
  rw [due_length]; exact List.countP_le_length
theorem drewN_below (w : World) (n : Nat) : Below w.heap.size w (w.drewN n) := ⟨rfl, rfl, rfl, Nat.le_refl _, fun _ _ => rfl⟩

end Go.Proofs.YtmaohnbddlccdaaGreat
end
