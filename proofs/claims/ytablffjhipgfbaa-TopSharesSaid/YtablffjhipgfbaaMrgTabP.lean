/- Joined texts: TabP, TabM, ElmL, TabS, TabO, TabD. -/
import Derived.Test.YtablffjhipgfbaaMrgLeaP
import Derived.Test.YtablffjhipgfbaaMrgBasM

/- Tables, pure: leases by rising addresses; what is set, told, counted, due. (Names no function of the program.) -/
section
namespace Go.Proofs.Ytablffjhipgfbaa

/-- A table: its addresses rise, and each lease may be. -/
structure TabL (L : List LV) : Prop where
  up : L.Pairwise fun a b => a.addr < b.addr
  right : ∀ x ∈ L, RightL x
def idxT (L : List LV) (a : Nat) : Option Nat := L.findIdx? fun y => y.addr == a
def setL (L : List LV) (x : LV) : List LV × Int := if RightL x then (match idxT L x.addr with | none => (L, 4) | some k => (L.set k x, 0)) else (L, 1)
def getL (L : List LV) (a : Nat) : LV × Int := match L.find? fun y => y.addr == a with | none => (zeroL, 4) | some x => (x, 0)
def ofL (L : List LV) (c : List UInt8) : List LV := L.filter fun y => decide (HeldL y.bind) && y.client == c
def cntL (L : List LV) (b : Int) : Nat := L.countP fun y => y.bind == b
def fstL (L : List LV) (b : Int) : Option Nat := (L.find? fun y => y.bind == b).map LV.addr
def actL (now : Int) (y : LV) : Bool := y.bind == 2 && decide (y.unt ≤ now)
/-- As the document has it: each one behind all that are over no later. -/
def insD (out : List LV) (x : LV) : List LV := out.takeWhile (fun y => decide (y.unt ≤ x.unt)) ++ x :: out.dropWhile (fun y => decide (y.unt ≤ x.unt))
def dueL (L : List LV) (now : Int) : List LV := (L.filter (actL now)).foldl insD []
def newL (ks : List Nat) : List LV := ks.map fun a => bareL a 0 0

/-! ## New, Set, Get -/
theorem new_tab {ks : List Nat} (h : ks.Pairwise (· < ·)) : TabL (newL ks) := by
  refine ⟨?_, fun x hx => ?_⟩
  · unfold newL
    rw [List.pairwise_map]
    exact h
  · obtain ⟨a, _, rfl⟩ := List.mem_map.1 hx
    exact (bare_right a 0 0).2 ⟨.inl rfl, by unfold TimeL; omega⟩
theorem new_addrs (ks : List Nat) : (newL ks).map LV.addr = ks := by
  unfold newL
  rw [List.map_map]
  exact List.map_id ks
theorem idx_some {L : List LV} {a k : Nat} (h : idxT L a = some k) : ∃ x, L[k]? = some x ∧ x.addr = a := by
  unfold idxT at h
  obtain ⟨hk, h1, _⟩ := List.findIdx?_eq_some_iff_getElem.1 h
  exact ⟨L[k], List.getElem?_eq_getElem hk, by simpa using h1⟩
theorem idx_none {L : List LV} {a : Nat} (h : idxT L a = none) : ∀ x ∈ L, x.addr ≠ a := by
  unfold idxT at h
  intro x hx
  have := (List.findIdx?_eq_none_iff.1 h) x hx
  simpa using this
theorem addr_inj {L : List LV} (h : L.Pairwise fun a b => a.addr < b.addr) {i j : Nat} {x y : LV} (hi : L[i]? = some x) (hj : L[j]? = some y) (e : x.addr = y.addr) : i = j := by
  obtain ⟨h1, rfl⟩ := List.getElem?_eq_some_iff.1 hi
  obtain ⟨h2, rfl⟩ := List.getElem?_eq_some_iff.1 hj
  rcases Nat.lt_trichotomy i j with hlt | heq | hgt
  · have := List.pairwise_iff_getElem.1 h i j h1 h2 hlt; omega
  · exact heq
  · have := List.pairwise_iff_getElem.1 h j i h2 h1 hgt; omega
theorem idx_of {L : List LV} (h : L.Pairwise fun a b => a.addr < b.addr) {k : Nat} {x : LV} (hk : L[k]? = some x) : idxT L x.addr = some k := by
  cases hi : idxT L x.addr with
  | none => exact absurd rfl (idx_none hi x (List.mem_of_getElem? hk))
  | some j =>
    obtain ⟨y, hy, e⟩ := idx_some hi
    rw [addr_inj h hy hk e]
theorem set_addrs {L : List LV} {k : Nat} {x y : LV} (hk : L[k]? = some y) (e : y.addr = x.addr) : (L.set k x).map LV.addr = L.map LV.addr := by
  rw [List.map_set]
  apply List.ext_getElem?
  intro i
  rw [List.getElem?_set]
  split
  · rename_i hi
    subst hi
    split
    · rw [List.getElem?_map, hk, Option.map_some, e]
    · rename_i hl
      rw [List.length_map] at hl
      exact absurd (List.getElem?_eq_some_iff.1 hk).1 hl
  · rfl
theorem up_addrs {L : List LV} : L.Pairwise (fun a b => a.addr < b.addr) ↔ (L.map LV.addr).Pairwise (· < ·) := by rw [List.pairwise_map]
theorem setL_addrs (L : List LV) (x : LV) : (setL L x).1.map LV.addr = L.map LV.addr := by
  unfold setL
  split
  · split
    · rfl
    · rename_i k hk
      obtain ⟨y, hy, e⟩ := idx_some hk
      exact set_addrs hy e
  · rfl
theorem setL_length (L : List LV) (x : LV) : (setL L x).1.length = L.length := by
  have := congrArg List.length (setL_addrs L x)
  simpa using this
theorem setL_tab {L : List LV} (h : TabL L) (x : LV) : TabL (setL L x).1 := by
  refine ⟨by rw [up_addrs, setL_addrs, ← up_addrs]; exact h.up, ?_⟩
  unfold setL
  split
  · rename_i hr
    split
    · exact h.right
    · intro z hz
      rcases List.mem_or_eq_of_mem_set hz with h1 | rfl
      · exact h.right z h1
      · exact hr
  · exact h.right
/-- What was set last of an address is known of it, and nothing else is changed. -/
theorem setL_at {L : List LV} (h : TabL L) (x : LV) {i : Nat} {y : LV} (hi : L[i]? = some y) : (setL L x).1[i]? = some (if (setL L x).2 = 0 ∧ y.addr = x.addr then x else y) := by
  unfold setL
  split
  · split
    · rename_i hk
      rw [if_neg (fun h => by have := h.1; simp at this)]
      exact hi
    · rename_i k hk
      obtain ⟨z, hz, e⟩ := idx_some hk
      by_cases hki : k = i
      · subst hki
        rw [hi] at hz
        injection hz with hz
        subst hz
        rw [if_pos ⟨rfl, e⟩]
        simp [(List.getElem?_eq_some_iff.1 hi).1]
      · rw [if_neg (fun hc => hki (addr_inj h.up hz hi (by rw [e, hc.2])))]
        show (L.set k x)[i]? = _
        rw [List.getElem?_set_ne hki]
        exact hi
  · rw [if_neg (fun h => by have := h.1; simp at this)]
    exact hi
theorem setL_ok (L : List LV) (x : LV) : (setL L x).2 = 0 ↔ (x.addr ∈ L.map LV.addr ∧ RightL x) := by
  unfold setL
  split
  · rename_i hr
    split
    · rename_i hk
      constructor
      · intro h; simp at h
      · rintro ⟨h, _⟩
        obtain ⟨y, hy, e⟩ := List.mem_map.1 h
        exact absurd e (idx_none hk y hy)
    · rename_i k hk
      obtain ⟨y, hy, e⟩ := idx_some hk
      exact ⟨fun _ => ⟨List.mem_map.2 ⟨y, List.mem_of_getElem? hy, e⟩, hr⟩, fun _ => rfl⟩
  · rename_i hr
    exact ⟨fun h => by simp at h, fun h => absurd h.2 hr⟩
/-- A table as a function of its addresses: what a map of them keeps. -/
def updF (f : Nat → LV) (x : LV) : Nat → LV := fun a => if a = x.addr then x else f a
theorem map_upd {ks : List Nat} {f : Nat → LV} (hf : ∀ a, (f a).addr = a) (hu : ks.Pairwise (· < ·)) (x : LV) (hr : RightL x) (hx : x.addr ∈ ks) : setL (ks.map f) x = (ks.map (updF f x), 0) := by
  have hup : (ks.map f).Pairwise fun a b => a.addr < b.addr := by
    rw [List.pairwise_map]
    exact hu.imp fun h => by rw [hf, hf]; exact h
  obtain ⟨k, hk⟩ := List.mem_iff_getElem?.1 hx
  have hk2 : (ks.map f)[k]? = some (f x.addr) := by rw [List.getElem?_map, hk]; rfl
  have hi : idxT (ks.map f) x.addr = some k := by
    have := idx_of hup hk2
    rwa [hf] at this
  unfold setL
  rw [if_pos hr, hi]
  show ((ks.map f).set k x, (0 : Int)) = _
  congr 1
  apply List.ext_getElem?
  intro i
  rw [List.getElem?_set, List.getElem?_map]
  split
  · rename_i hki
    subst hki
    rw [if_pos (by rw [List.length_map]; exact (List.getElem?_eq_some_iff.1 hk).1), List.getElem?_map, hk]
    simp [updF]
  · rename_i hki
    rw [List.getElem?_map]
    cases ha : ks[i]? with
    | none => rfl
    | some a =>
      simp only [Option.map_some, updF]
      rw [if_neg]
      intro e
      subst e
      have h1 : (ks.map f)[i]? = some (f x.addr) := by rw [List.getElem?_map, ha]; rfl
      exact hki (addr_inj hup hk2 h1 rfl)
theorem map_get {ks : List Nat} {f : Nat → LV} (hf : ∀ a, (f a).addr = a) (a : Nat) : getL (ks.map f) a = if a ∈ ks then (f a, 0) else (zeroL, 4) := by
  unfold getL
  cases h : (ks.map f).find? (fun y => y.addr == a) with
  | none =>
    rw [if_neg]
    intro ha
    have := List.find?_eq_none.1 h (f a) (List.mem_map.2 ⟨a, ha, rfl⟩)
    simp [hf] at this
  | some x =>
    have h1 := List.find?_some h
    obtain ⟨b, hb, rfl⟩ := List.mem_map.1 (List.mem_of_find?_eq_some h)
    simp [hf] at h1
    subst h1
    rw [if_pos hb]

/-! ## Count, First -/
theorem cnt_sum {L : List LV} (h : TabL L) : cntL L 0 + cntL L 1 + cntL L 2 + cntL L 3 + cntL L 4 + cntL L 5 = L.length := by
  have hr := h.right
  clear h
  unfold cntL
  induction L with
  | nil => rfl
  | cons x r ih =>
    have := ih (fun y hy => hr y (List.mem_cons_of_mem _ hy))
    have h0 := (hr x (List.mem_cons_self ..)).b0
    have h1 := (hr x (List.mem_cons_self ..)).b1
    simp only [List.countP_cons, List.length_cons, beq_iff_eq]
    have hb : x.bind = 0 ∨ x.bind = 1 ∨ x.bind = 2 ∨ x.bind = 3 ∨ x.bind = 4 ∨ x.bind = 5 := by omega
    rcases hb with hb | hb | hb | hb | hb | hb <;> simp [hb] <;> omega
theorem cnt_new (ks : List Nat) : cntL (newL ks) 0 = ks.length := by
  unfold cntL newL
  rw [List.countP_map]
  exact List.countP_eq_length.2 fun a _ => by simp [bareL]
theorem fst_cnt (L : List LV) (b : Int) : (fstL L b).isSome = decide (0 < cntL L b) := by
  unfold fstL cntL
  rw [Option.isSome_map, Bool.eq_iff_iff, List.find?_isSome, decide_eq_true_eq, List.countP_pos_iff]
theorem fst_least {L : List LV} (h : TabL L) {b : Int} {a : Nat} (hf : fstL L b = some a) : ∀ y ∈ L, y.bind = b → a ≤ y.addr := by
  unfold fstL at hf
  obtain ⟨x, hx, rfl⟩ := Option.map_eq_some_iff.1 hf
  intro y hy hb
  obtain ⟨_, i, hi, e, hno⟩ := List.find?_eq_some_iff_getElem.1 hx
  obtain ⟨j, hj, rfl⟩ := List.mem_iff_getElem.1 hy
  rcases Nat.lt_or_ge j i with hlt | hge
  · have := hno j hlt
    simp [hb] at this
  · rw [← e]
    rcases Nat.eq_or_lt_of_le hge with rfl | hlt
    · exact Nat.le_refl _
    · exact Nat.le_of_lt (List.pairwise_iff_getElem.1 h.up i j hi hj hlt)

/-! ## Due -/
def ltD (a b : LV) : Prop := a.unt < b.unt ∨ (a.unt = b.unt ∧ a.addr < b.addr)
theorem ltD_trans {a b c : LV} (h : ltD a b) (k : ltD b c) : ltD a c := by unfold ltD at *; omega
theorem ltD_asymm {a b : LV} (h : ltD a b) (k : ltD b a) : False := by unfold ltD at *; omega
/-- Lists with the same elements that both rise are the same. -/
theorem rise_unique {α : Type} {lt : α → α → Prop} (hasym : ∀ a b, lt a b → lt b a → False) : ∀ {l m : List α}, l.Perm m → l.Pairwise lt → m.Pairwise lt → l = m
  | [], m, hp, _, _ => (List.nil_perm.1 hp).symm
  | x :: l, [], hp, _, _ => absurd (List.perm_nil.1 hp) (by simp)
  | x :: l, y :: m, hp, hl, hm => by
    obtain ⟨hx, hl'⟩ := List.pairwise_cons.1 hl
    obtain ⟨hy, hm'⟩ := List.pairwise_cons.1 hm
    have hxy : x = y := by
      have h1 : x ∈ y :: m := hp.subset (List.mem_cons_self ..)
      have h2 : y ∈ x :: l := hp.symm.subset (List.mem_cons_self ..)
      rcases List.mem_cons.1 h1 with h1 | h1
      · exact h1
      rcases List.mem_cons.1 h2 with h2 | h2
      · exact h2.symm
      exact (hasym _ _ (hy x h1) (hx y h2)).elim
    subst hxy
    rw [rise_unique hasym hp.cons_inv hl' hm']
theorem insD_perm (out : List LV) (x : LV) : (insD out x).Perm (out ++ [x]) := by
  unfold insD
  have h1 := List.takeWhile_append_dropWhile (p := fun y : LV => decide (y.unt ≤ x.unt)) (l := out)
  refine (List.perm_middle).trans ?_
  rw [h1]
  exact (List.perm_append_singleton x out).symm
theorem foldD_perm (l out : List LV) : (l.foldl insD out).Perm (out ++ l) := by
  induction l generalizing out with
  | nil => simp
  | cons x r ih =>
    refine (ih (insD out x)).trans ?_
    have := (insD_perm out x).append_right r
    rwa [List.append_assoc] at this
theorem due_perm (L : List LV) (now : Int) : (dueL L now).Perm (L.filter (actL now)) := by
  have := foldD_perm (L.filter (actL now)) []
  rwa [List.nil_append] at this
theorem takeWhile_imp {α : Type} {p : α → Bool} {l : List α} {a : α} (h : a ∈ l.takeWhile p) : p a = true := by
  induction l with
  | nil => cases h
  | cons z r ih =>
    rw [List.takeWhile_cons] at h
    split at h
    · rename_i hz
      rcases List.mem_cons.1 h with rfl | h
      · exact hz
      · exact ih h
    · cases h
theorem dropWhile_far {l : List LV} {x : LV} (h : l.Pairwise ltD) : ∀ y ∈ l.dropWhile (fun y => decide (y.unt ≤ x.unt)), x.unt < y.unt := by
  induction l with
  | nil => intro y hy; cases hy
  | cons z r ih =>
    obtain ⟨hz, hr⟩ := List.pairwise_cons.1 h
    intro y hy
    rw [List.dropWhile_cons] at hy
    by_cases hle : z.unt ≤ x.unt
    · rw [if_pos (decide_eq_true hle)] at hy
      exact ih hr y hy
    · rw [if_neg (by simpa using hle)] at hy
      rcases List.mem_cons.1 hy with rfl | hy
      · omega
      · have := hz y hy
        unfold ltD at this
        omega
theorem insD_rise {out : List LV} {x : LV} (h : out.Pairwise ltD) (hx : ∀ y ∈ out, y.addr < x.addr) : (insD out x).Pairwise ltD := by
  unfold insD
  have hs := List.takeWhile_append_dropWhile (p := fun y : LV => decide (y.unt ≤ x.unt)) (l := out)
  have h' := h
  rw [← hs] at h'
  obtain ⟨h1, h2, h3⟩ := List.pairwise_append.1 h'
  have hd := dropWhile_far (x := x) h
  refine List.pairwise_append.2 ⟨h1, List.pairwise_cons.2 ⟨fun y hy => .inl (hd y hy), h2⟩, ?_⟩
  intro a ha b hb
  rcases List.mem_cons.1 hb with rfl | hb
  · have ha1 : a.unt ≤ b.unt := by simpa using takeWhile_imp ha
    have ha2 := hx a ((List.takeWhile_sublist _).subset ha)
    unfold ltD
    omega
  · exact h3 a ha b hb
theorem foldD_rise : ∀ (l out : List LV), out.Pairwise ltD → l.Pairwise (fun a b => a.addr < b.addr) → (∀ y ∈ out, ∀ x ∈ l, y.addr < x.addr) → (l.foldl insD out).Pairwise ltD
  | [], out, h, _, _ => h
  | x :: r, out, h, hl, hx => by
    obtain ⟨h1, h2⟩ := List.pairwise_cons.1 hl
    refine foldD_rise r (insD out x) (insD_rise h fun y hy => hx y hy x (List.mem_cons_self ..)) h2 fun y hy z hz => ?_
    rcases List.mem_append.1 ((insD_perm out x).subset hy) with hy | hy
    · exact hx y hy z (List.mem_cons_of_mem _ hz)
    · obtain rfl := List.mem_singleton.1 hy
      exact h1 z hz
theorem due_rise {L : List LV} (h : TabL L) (now : Int) : (dueL L now).Pairwise ltD :=
  foldD_rise _ [] List.Pairwise.nil (h.up.filter _) (fun y hy => by cases hy)
/-- Whatever list has those that are due, and rises so, is the document's. -/
theorem due_only {L : List LV} (h : TabL L) {now : Int} {l : List LV} (hp : l.Perm (L.filter (actL now))) (hl : l.Pairwise ltD) : l = dueL L now :=
  rise_unique (fun _ _ => ltD_asymm) (hp.trans (due_perm L now).symm) hl (due_rise h now)
theorem due_length (L : List LV) (now : Int) : (dueL L now).length = L.countP (actL now) := by
  rw [(due_perm L now).length_eq, List.countP_eq_length_filter]
/-- A list that rises is what is over by x, and behind that all else. -/
theorem rise_part (x : Int) : ∀ {l : List LV}, l.Pairwise ltD → l = l.filter (fun y => decide (y.unt ≤ x)) ++ l.filter (fun y => !decide (y.unt ≤ x))
  | [], _ => rfl
  | y :: r, h => by
    obtain ⟨h1, h2⟩ := List.pairwise_cons.1 h
    have ih := rise_part x h2
    by_cases hy : y.unt ≤ x
    · rw [List.filter_cons_of_pos (by simpa using hy), List.filter_cons_of_neg (by simpa using hy), List.cons_append, ← ih]
    · have hz : r.filter (fun y => decide (y.unt ≤ x)) = [] := List.filter_eq_nil_iff.2 fun z hz => by
        have := h1 z hz
        unfold ltD at this
        simp
        omega
      rw [hz] at ih
      rw [List.filter_cons_of_neg (by simpa using hy), List.filter_cons_of_pos (by simpa using hy), hz, List.nil_append]
      rw [List.nil_append] at ih
      rw [← ih]
/-- What is due stays so later, and comes first. -/
theorem due_later {L : List LV} (h : TabL L) {x y : Int} (hxy : x ≤ y) : (dueL L y).take (dueL L x).length = dueL L x := by
  have hr := due_rise h y
  have hp := rise_part x hr
  have he : (dueL L y).filter (fun y => decide (y.unt ≤ x)) = dueL L x := by
    refine due_only h ?_ (hr.filter _)
    refine ((due_perm L y).filter _).trans ?_
    rw [List.filter_filter]
    refine List.Perm.of_eq (List.filter_congr fun z _ => ?_)
    unfold actL
    rw [Bool.eq_iff_iff]
    simp only [Bool.and_eq_true, beq_iff_eq, decide_eq_true_eq]
    constructor
    · rintro ⟨h1, h2, _⟩; exact ⟨h2, h1⟩
    · rintro ⟨h1, h2⟩; exact ⟨h2, h1, by omega⟩
  rw [he] at hp
  rw [hp, List.take_left]
theorem due_more {L : List LV} (h : TabL L) {x y : Int} (hxy : x ≤ y) : (dueL L x).length ≤ (dueL L y).length := by
  rw [← due_later h hxy, List.length_take]
  omega
/-- Those of a client have its name, and are held. -/
theorem of_mem {L : List LV} {c : List UInt8} {y : LV} : y ∈ ofL L c ↔ y ∈ L ∧ HeldL y.bind ∧ y.client = c := by
  simp [ofL]
end Go.Proofs.Ytablffjhipgfbaa
end

/- The document's table in memory: rows of leases; find, Get, Count, First, Set. -/
section
namespace Go.Proofs.Ytablffjhipgfbaa
open Go.RowKit Go.Sort
attribute [local go_sem ↓] run_eqlL run_neqL run_guardL

/-- Leases as elements of slices. -/
def ElemL : Elem Try.prog LV where
  e := 35
  ty := 24
  m := 8
  bytes := 72
  zero := .agg #[.int .u32 0, .int .i64 0, .string ⟨#[]⟩, .int .i64 0, .int .i64 0, .int .i64 0, .int .i64 0, .int .i64 0]
  cells := fun x => x.cells.toList
  hm := by decide
  hb0 := by decide
  hb := by decide
  len := fun _ => rfl
  one := fun v u hu => by
    simp at hu
    rcases hu with rfl | rfl | rfl | rfl | rfl | rfl | rfl | rfl <;> rfl
  und := Try.underlying24
  info := by kernel_rfl
  hz := rfl
section
variable {w w' : World} {B : Nat} {A : Option Addr} {l : List LV}
/-- An element's cells. -/
theorem El.at8 (h : El ElemL w B A l) (i : Nat) (x : LV) (hx : l[i]? = some x) : ∃ b o, A = some ⟨b, o, none⟩ ∧ b < B ∧ w.cell? ⟨b, o + i * 8, none⟩ = some (.int .u32 (x.addr : Int)) ∧ w.cell? ⟨b, o + i * 8 + 1, none⟩ = some (.int .i64 x.bind) ∧ w.cell? ⟨b, o + i * 8 + 2, none⟩ = some (.string x.cb) ∧ w.cell? ⟨b, o + i * 8 + 3, none⟩ = some (.int .i64 x.unt) ∧ w.cell? ⟨b, o + i * 8 + 4, none⟩ = some (.int .i64 x.acked) ∧ w.cell? ⟨b, o + i * 8 + 5, none⟩ = some (.int .i64 x.told) ∧ w.cell? ⟨b, o + i * 8 + 6, none⟩ = some (.int .i64 x.at_) ∧ w.cell? ⟨b, o + i * 8 + 7, none⟩ = some (.int .i64 x.ver) := by
  obtain ⟨b, o, h1, h2, h3⟩ := h.at_ i x hx
  exact ⟨b, o, h1, h2, h3 0 _ rfl, h3 1 _ rfl, h3 2 _ rfl, h3 3 _ rfl, h3 4 _ rfl, h3 5 _ rfl, h3 6 _ rfl, h3 7 _ rfl⟩
end
end Go.Proofs.Ytablffjhipgfbaa
end

/- Leases as elements of slices: where the table's texts fill, theirs. -/
section

end

/- Nothing of the document's table at this seat. -/
section

end

/- The document's table: Of, Due. -/
section
namespace Go.Proofs.Ytablffjhipgfbaa
open Go.RowKit Go.Sort

/-- Leases are answered, in a row made since. -/
def GivesE (w : World) (l : List LV) (e : Ending) (w' : World) : Prop :=
  ∃ A c l', e = .returned (.slice A l'.length c) ∧ Hid (l' = l) ∧ RowE ElemL w w' (.slice A l'.length c) l' ∧ l'.length ≤ c
theorem of_snoc (L : List LV) (x : LV) (c : List UInt8) : ofL (L ++ [x]) c = ofL L c ++ (if (decide (HeldL x.bind) && x.client == c) = true then [x] else []) := by
  unfold ofL
  rw [List.filter_append]
  congr 1
  rw [List.filter_cons, List.filter_nil]
theorem cells8 (x : LV) : x.cells.toList = ecells ElemL [x] := (ecells_one_elem ElemL x).symm

end Go.Proofs.Ytablffjhipgfbaa
end

/- The document's table: Due. -/
section
namespace Go.Proofs.Ytablffjhipgfbaa
open Go.RowKit Go.Sort

theorem takeWhile_of {α : Type} {p : α → Bool} : ∀ (l : List α) (k : Nat), (∀ x ∈ l.take k, p x = true) → (k = l.length ∨ ∃ x, l[k]? = some x ∧ p x = false) → l.take k = l.takeWhile p ∧ l.drop k = l.dropWhile p
  | [], k, _, _ => by simp
  | y :: r, 0, _, h => by
    rcases h with h | ⟨x, hx, hp⟩
    · simp at h
    · simp at hx
      subst hx
      simp [hp]
  | y :: r, k + 1, h1, h2 => by
    have hy := h1 y (by simp)
    obtain ⟨e1, e2⟩ := takeWhile_of r k (fun x hx => h1 x (by rw [List.take_succ_cons]; exact List.mem_cons_of_mem _ hx)) (by
      rcases h2 with h2 | ⟨x, hx, hp⟩
      · left; simpa using h2
      · right; exact ⟨x, by simpa using hx, hp⟩)
    rw [List.take_succ_cons, List.drop_succ_cons, List.takeWhile_cons, List.dropWhile_cons, if_pos hy, if_pos hy, e1, e2]
    exact ⟨rfl, rfl⟩
theorem insD_of {d : List LV} {x : LV} {k : Nat} (h1 : ∀ y ∈ d.take k, y.unt ≤ x.unt) (h2 : k = d.length ∨ ∃ y, d[k]? = some y ∧ ¬ y.unt ≤ x.unt) : insD d x = d.take k ++ [x] ++ d.drop k := by
  obtain ⟨e1, e2⟩ := takeWhile_of (p := fun y : LV => decide (y.unt ≤ x.unt)) d k (fun y hy => decide_eq_true (h1 y hy)) (by
    rcases h2 with h2 | ⟨y, hy, hn⟩
    · exact .inl h2
    · exact .inr ⟨y, hy, decide_eq_false hn⟩)
  unfold insD
  rw [e1, e2, List.append_assoc]
  rfl
theorem due_snoc (L : List LV) (x : LV) (now : Int) : dueL (L ++ [x]) now = if actL now x = true then insD (dueL L now) x else dueL L now := by
  unfold dueL
  rw [List.filter_append, List.foldl_append, List.filter_cons, List.filter_nil]
  split
  · rfl
  · rfl
theorem due_len_le (L : List LV) (now : Int) : (dueL L now).length ≤ L.length := by
  rw [due_length]; exact List.countP_le_length
theorem drewN_below (w : World) (n : Nat) : Below w.heap.size w (w.drewN n) := ⟨rfl, rfl, rfl, Nat.le_refl _, fun _ _ => rfl⟩

end Go.Proofs.Ytablffjhipgfbaa
end
