/- Joined texts: StoP, StoL. -/
import Derived.Test.YtalmjmhbpmhokaaGreatMrgTabP
import Derived.Test.YtalmjmhbpmhokaaGreatMrgWalP

/- Stores, pure: records, what they make known; what a store's calls answer; compacting; what a beginning makes. (Names no function of the program.) -/
section
namespace Go.Proofs.YtalmjmhbpmhokaaGreat

/-- What a store knows: its leases, its state, its life. -/
structure Kn where
  L : List LV
  st : Int
  lf : Int
def recL (x : LV) : List UInt8 := 76 :: encL x
def recS (n : Int) : List UInt8 := [83, UInt8.ofNat n.toNat]
def recF (n : Int) : List UInt8 := 70 :: beL n.toNat 4
/-- What the body of a record makes known. -/
def bodL (L : List LV) (t : List UInt8) : List LV := if decOk t then (setL L (rawL t)).1 else L
def bodS (n : Int) (t : List UInt8) : Int := if t.length = 1 ∧ numL t ≤ 8 then (numL t : Int) else n
def bodF (n : Int) (t : List UInt8) : Int := if t.length = 4 ∧ numL t ≤ 536870912 then (numL t : Int) else n
def ltB (L : List LV) : List UInt8 → List LV | [] => L | c :: t => if c = 76 then bodL L t else L
def stB (n : Int) : List UInt8 → Int | [] => n | c :: t => if c = 83 then bodS n t else n
def lfB (n : Int) : List UInt8 → Int | [] => n | c :: t => if c = 70 then bodF n t else n
theorem ltB_cons (L : List LV) (c : UInt8) (t : List UInt8) : ltB L (c :: t) = if c = 76 then bodL L t else L := rfl
theorem stB_cons (n : Int) (c : UInt8) (t : List UInt8) : stB n (c :: t) = if c = 83 then bodS n t else n := rfl
theorem lfB_cons (n : Int) (c : UInt8) (t : List UInt8) : lfB n (c :: t) = if c = 70 then bodF n t else n := rfl
def doK (k : Kn) (b : List UInt8) : Kn := ⟨ltB k.L b, stB k.st b, lfB k.lf b⟩
theorem doK_L (k : Kn) (t : List UInt8) : doK k (76 :: t) = { k with L := bodL k.L t } := rfl
theorem doK_S (k : Kn) (t : List UInt8) : doK k (83 :: t) = { k with st := bodS k.st t } := rfl
theorem doK_F (k : Kn) (t : List UInt8) : doK k (70 :: t) = { k with lf := bodF k.lf t } := rfl
theorem doK_no (k : Kn) {c : UInt8} (t : List UInt8) (h1 : c ≠ 76) (h2 : c ≠ 83) (h3 : c ≠ 70) : doK k (c :: t) = k := by
  show Kn.mk (if c = 76 then _ else _) (if c = 83 then _ else _) (if c = 70 then _ else _) = k
  rw [if_neg h1, if_neg h2, if_neg h3]
def newK (ks : List Nat) : Kn := ⟨newL ks, 0, 0⟩
/-- What is known of a pool behind some records. -/
def knK (ks : List Nat) (rs : List (List UInt8)) : Kn := rs.foldl doK (newK ks)
theorem knK_snoc (ks : List Nat) (rs : List (List UInt8)) (b : List UInt8) : knK ks (rs ++ [b]) = doK (knK ks rs) b := by simp [knK]

/-- The calls: an error, the disk, what is known. -/
def noteS (s : DS) (k : Kn) (b : List UInt8) : Int × DS × Kn := ((appW s b).1, (appW s b).2, if (appW s b).1 = 0 then doK k b else k)
def putS (s : DS) (k : Kn) (x : LV) : Int × DS × Kn := if RightL x then (if (getL k.L x.addr).2 = 0 then noteS s k (recL x) else ((getL k.L x.addr).2, s, k)) else (1, s, k)
def setSS (s : DS) (k : Kn) (n : Int) : Int × DS × Kn := if 0 ≤ n ∧ n ≤ 8 then noteS s k (recS n) else (1, s, k)
def setFS (s : DS) (k : Kn) (n : Int) : Int × DS × Kn := if 0 ≤ n ∧ n ≤ 536870912 then noteS s k (recF n) else (1, s, k)
def keptL (L : List LV) : List LV := L.filter fun x => decide (x ≠ bareL x.addr 0 0)
def recsK (k : Kn) : List (List UInt8) := recS k.st :: recF k.lf :: (keptL k.L).map recL

/-! ## What is known, as a function of all addresses -/
def ltF (f : Nat → LV) : List UInt8 → Nat → LV | [] => f | c :: t => if c = 76 then (if decOk t then updF f (rawL t) else f) else f
theorem ltF_cons (f : Nat → LV) (c : UInt8) (t : List UInt8) : ltF f (c :: t) = if c = 76 then (if decOk t then updF f (rawL t) else f) else f := rfl
def known (rs : List (List UInt8)) : Nat → LV := rs.foldl ltF fun a => bareL a 0 0
theorem updF_addr {f : Nat → LV} (hf : ∀ a, (f a).addr = a) (x : LV) (a : Nat) : (updF f x a).addr = a := by
  unfold updF
  split
  · rename_i h; exact h.symm
  · exact hf a
theorem ltF_addr {f : Nat → LV} (hf : ∀ a, (f a).addr = a) (b : List UInt8) (a : Nat) : (ltF f b a).addr = a := by
  cases b with
  | nil => exact hf a
  | cons c t =>
    rw [ltF_cons]
    split
    · split
      · exact updF_addr hf _ a
      · exact hf a
    · exact hf a
theorem map_out {ks : List Nat} {f : Nat → LV} (x : LV) (hx : x.addr ∉ ks) : ks.map (updF f x) = ks.map f := by
  apply List.map_congr_left
  intro a ha
  unfold updF
  rw [if_neg]
  intro e
  exact hx (e ▸ ha)
theorem ltB_map {ks : List Nat} {f : Nat → LV} (hf : ∀ a, (f a).addr = a) (hu : ks.Pairwise (· < ·)) (b : List UInt8) : ltB (ks.map f) b = ks.map (ltF f b) := by
  cases b with
  | nil => rfl
  | cons c t =>
    rw [ltB_cons, ltF_cons]
    split
    · unfold bodL
      split
      · rename_i hd
        by_cases hx : (rawL t).addr ∈ ks
        · rw [map_upd hf hu _ hd.2.1 hx]
        · rw [map_out _ hx]
          unfold setL
          rw [if_pos hd.2.1]
          cases hi : idxT (ks.map f) (rawL t).addr with
          | none => rfl
          | some k =>
            obtain ⟨y, hy, e⟩ := idx_some hi
            rw [List.getElem?_map] at hy
            obtain ⟨a, ha, rfl⟩ := Option.map_eq_some_iff.1 hy
            rw [hf] at e
            exact absurd (e ▸ List.mem_of_getElem? ha) hx
      · rfl
    · rfl
theorem known_addr (rs : List (List UInt8)) (a : Nat) : (known rs a).addr = a := by
  rw [← rs.reverse_reverse]
  generalize rs.reverse = r
  induction r generalizing a with
  | nil => rfl
  | cons b r ih =>
    rw [List.reverse_cons]
    unfold known at ih ⊢
    rw [List.foldl_append]
    exact ltF_addr ih b a
def stOf (rs : List (List UInt8)) : Int := rs.foldl stB 0
def lfOf (rs : List (List UInt8)) : Int := rs.foldl lfB 0
/-- What is known of a pool is a part of what is known of all addresses; state and life are no pool's. -/
theorem knK_is {ks : List Nat} (hu : ks.Pairwise (· < ·)) (rs : List (List UInt8)) : knK ks rs = ⟨ks.map (known rs), stOf rs, lfOf rs⟩ := by
  rw [← rs.reverse_reverse]
  generalize rs.reverse = r
  induction r with
  | nil => rfl
  | cons b r ih =>
    rw [List.reverse_cons, knK_snoc, ih]
    unfold doK
    have h1 : known (r.reverse ++ [b]) = ltF (known r.reverse) b := by simp [known]
    have h2 : stOf (r.reverse ++ [b]) = stB (stOf r.reverse) b := by simp [stOf]
    have h3 : lfOf (r.reverse ++ [b]) = lfB (lfOf r.reverse) b := by simp [lfOf]
    rw [h1, h2, h3, ltB_map (known_addr _) hu]

/-! ## What is known may be -/
structure KnOk (ks : List Nat) (k : Kn) : Prop where
  addrs : k.L.map LV.addr = ks
  tab : TabL k.L
  st0 : 0 ≤ k.st
  st1 : k.st ≤ 8
  lf0 : 0 ≤ k.lf
  lf1 : k.lf ≤ 536870912
theorem ltB_addrs (L : List LV) (b : List UInt8) : (ltB L b).map LV.addr = L.map LV.addr := by
  cases b with
  | nil => rfl
  | cons c t =>
    rw [ltB_cons]
    unfold bodL
    split
    · split
      · exact setL_addrs _ _
      · rfl
    · rfl
theorem ltB_tab {L : List LV} (h : TabL L) (b : List UInt8) : TabL (ltB L b) := by
  cases b with
  | nil => exact h
  | cons c t =>
    rw [ltB_cons]
    unfold bodL
    split
    · split
      · exact setL_tab h _
      · exact h
    · exact h
theorem stB_in {n : Int} (h : 0 ≤ n ∧ n ≤ 8) (b : List UInt8) : 0 ≤ stB n b ∧ stB n b ≤ 8 := by
  cases b with
  | nil => exact h
  | cons c t =>
    rw [stB_cons]
    unfold bodS
    split
    · split
      · omega
      · exact h
    · exact h
theorem lfB_in {n : Int} (h : 0 ≤ n ∧ n ≤ 536870912) (b : List UInt8) : 0 ≤ lfB n b ∧ lfB n b ≤ 536870912 := by
  cases b with
  | nil => exact h
  | cons c t =>
    rw [lfB_cons]
    unfold bodF
    split
    · split
      · omega
      · exact h
    · exact h
theorem KnOk.new {ks : List Nat} (hu : ks.Pairwise (· < ·)) : KnOk ks (newK ks) := ⟨new_addrs ks, new_tab hu, by show (0 : Int) ≤ 0; omega, by show (0 : Int) ≤ 8; omega, by show (0 : Int) ≤ 0; omega, by show (0 : Int) ≤ _; omega⟩
theorem KnOk.do_ {ks : List Nat} {k : Kn} (h : KnOk ks k) (b : List UInt8) : KnOk ks (doK k b) :=
  ⟨(ltB_addrs _ _).trans h.addrs, ltB_tab h.tab b, (stB_in ⟨h.st0, h.st1⟩ b).1, (stB_in ⟨h.st0, h.st1⟩ b).2, (lfB_in ⟨h.lf0, h.lf1⟩ b).1, (lfB_in ⟨h.lf0, h.lf1⟩ b).2⟩
theorem KnOk.all {ks : List Nat} (hu : ks.Pairwise (· < ·)) (rs : List (List UInt8)) : KnOk ks (knK ks rs) := by
  rw [← rs.reverse_reverse]
  generalize rs.reverse = r
  induction r with
  | nil => exact KnOk.new hu
  | cons b r ih => rw [List.reverse_cons, knK_snoc]; exact ih.do_ b

/-! ## Records -/
theorem recL_len {x : LV} (h : RightL x) : (recL x).length ≤ 69 := by
  have := h.short
  unfold recL
  rw [List.length_cons, encL_length]
  omega
theorem recL_good {x : LV} (h : RightL x) : GoodF (recL x) := ⟨by unfold recL; rw [List.length_cons]; omega, by have := recL_len h; omega⟩
theorem recS_good (n : Int) : GoodF (recS n) := ⟨by simp [recS], by simp [recS]⟩
theorem recF_good (n : Int) : GoodF (recF n) := ⟨by simp [recF], by simp [recF, beL_length]⟩
theorem bodS_rec {n m : Int} (h0 : 0 ≤ n) (h1 : n ≤ 8) : stB m (recS n) = n := by
  unfold stB recS bodS
  have e : numL [UInt8.ofNat n.toNat] = n.toNat := by rw [num_one, UInt8.toNat_ofNat']; omega
  simp only [if_pos, e]
  rw [if_pos ⟨rfl, by omega⟩]
  omega
theorem bodF_rec {n m : Int} (h0 : 0 ≤ n) (h1 : n ≤ 536870912) : lfB m (recF n) = n := by
  unfold lfB recF bodF
  have e : numL (beL n.toNat 4) = n.toNat := num_be _ _ (by omega)
  simp only [if_pos, e]
  rw [if_pos ⟨beL_length _ _, by omega⟩]
  omega
theorem ltB_recL (L : List LV) {x : LV} (h : RightL x) (ha : x.addr < 4294967296) : ltB L (recL x) = (setL L x).1 := by
  have e := raw_enc h ha
  show bodL L (encL x) = _
  unfold bodL
  rw [if_pos, e]
  exact ⟨by rw [encL_length]; omega, by rw [e]; exact h, by rw [e]⟩

/-! ## Compacting -/
theorem stB_recL (n : Int) (x : LV) : stB n (recL x) = n := rfl
theorem lfB_recL (n : Int) (x : LV) : lfB n (recL x) = n := rfl
theorem fold_recL (ms : List LV) (k : Kn) (hr : ∀ x ∈ ms, RightL x) (ha : ∀ x ∈ ms, x.addr < 4294967296) : (ms.map recL).foldl doK k = ⟨ms.foldl (fun L x => (setL L x).1) k.L, k.st, k.lf⟩ := by
  induction ms generalizing k with
  | nil => rfl
  | cons x r ih =>
    rw [List.map_cons, List.foldl_cons, ih _ (fun y hy => hr y (List.mem_cons_of_mem _ hy)) (fun y hy => ha y (List.mem_cons_of_mem _ hy)), List.foldl_cons]
    unfold doK
    rw [stB_recL, lfB_recL, ltB_recL _ (hr x (List.mem_cons_self ..)) (ha x (List.mem_cons_self ..))]
theorem fold_updF (f : Nat → LV) (ms : List LV) (h : ∀ x ∈ ms, x = f x.addr) (g : Nat → LV) (a : Nat) : ms.foldl updF g a = if a ∈ ms.map LV.addr then f a else g a := by
  induction ms generalizing g with
  | nil => simp
  | cons x r ih =>
    rw [List.foldl_cons, ih (fun y hy => h y (List.mem_cons_of_mem _ hy))]
    have hx := h x (List.mem_cons_self ..)
    by_cases h1 : a ∈ r.map LV.addr
    · rw [if_pos h1, if_pos (by rw [List.map_cons]; exact List.mem_cons_of_mem _ h1)]
    · rw [if_neg h1]
      unfold updF
      by_cases h2 : a = x.addr
      · rw [if_pos h2, if_pos (by rw [List.map_cons, h2]; exact List.mem_cons_self ..), h2]
        exact hx
      · rw [if_neg h2, if_neg]
        rw [List.map_cons]
        intro hc
        rcases List.mem_cons.1 hc with hc | hc
        · exact h2 hc
        · exact h1 hc
theorem fold_setL {ks : List Nat} (hu : ks.Pairwise (· < ·)) (ms : List LV) (hr : ∀ x ∈ ms, RightL x) (hk : ∀ x ∈ ms, x.addr ∈ ks) {g : Nat → LV} (hg : ∀ a, (g a).addr = a) : ms.foldl (fun L x => (setL L x).1) (ks.map g) = ks.map (ms.foldl updF g) := by
  induction ms generalizing g with
  | nil => rfl
  | cons x r ih =>
    rw [List.foldl_cons, List.foldl_cons, map_upd hg hu x (hr x (List.mem_cons_self ..)) (hk x (List.mem_cons_self ..))]
    exact ih (fun y hy => hr y (List.mem_cons_of_mem _ hy)) (fun y hy => hk y (List.mem_cons_of_mem _ hy)) (updF_addr hg x)
/-- To compact changes nothing of what is known. -/
theorem compact_same {ks : List Nat} {k : Kn} (h : KnOk ks k) (ha : ∀ a ∈ ks, a < 4294967296) : knK ks (recsK k) = k := by
  have hu : ks.Pairwise (· < ·) := by have := h.tab.up; rw [up_addrs, h.addrs] at this; exact this
  have hin : ∀ x ∈ keptL k.L, x ∈ k.L := fun x hx => (List.mem_filter.1 hx).1
  have hk : ∀ x ∈ k.L, x.addr ∈ ks := fun x hx => by rw [← h.addrs]; exact List.mem_map.2 ⟨x, hx, rfl⟩
  obtain ⟨L, st, lf⟩ := k
  unfold knK recsK
  rw [List.foldl_cons, List.foldl_cons, fold_recL _ _ (fun x hx => h.tab.right x (hin x hx)) (fun x hx => ha _ (hk x (hin x hx)))]
  show Kn.mk _ _ _ = _
  have e1 : (doK (doK (newK ks) (recS st)) (recF lf)).st = st := bodS_rec h.st0 h.st1
  have e2 : (doK (doK (newK ks) (recS st)) (recF lf)).lf = lf := bodF_rec h.lf0 h.lf1
  have e3 : (doK (doK (newK ks) (recS st)) (recF lf)).L = newL ks := rfl
  rw [e1, e2, e3]
  congr 1
  show (keptL L).foldl _ (ks.map fun a => bareL a 0 0) = L
  rw [fold_setL hu _ (fun x hx => h.tab.right x (hin x hx)) (fun x hx => hk x (hin x hx)) (fun _ => rfl)]
  -- the table as a function
  have hf : ∀ x ∈ L, x = (getL L x.addr).1 := fun x hx => by
    obtain ⟨i, hi⟩ := List.mem_iff_getElem?.1 hx
    unfold getL
    cases hc : L.find? (fun y => y.addr == x.addr) with
    | none => exact absurd (List.find?_eq_none.1 hc x hx) (by simp)
    | some y =>
      have h1 := List.mem_of_find?_eq_some hc
      have h2 := List.find?_some hc
      obtain ⟨j, hj⟩ := List.mem_iff_getElem?.1 h1
      have h3 : y.addr = x.addr := by simpa using h2
      have := addr_inj h.tab.up hi hj h3.symm
      subst this
      rw [hi] at hj
      injection hj
  have e4 : ks.map ((keptL L).foldl updF fun a => bareL a 0 0) = ks.map fun a => (getL L a).1 := by
    apply List.map_congr_left
    intro a hak
    rw [fold_updF (fun a => (getL L a).1) _ (fun x hx => hf x (hin x hx))]
    split
    · rfl
    · rename_i hno
      rw [← h.addrs] at hak
      obtain ⟨x, hx, rfl⟩ := List.mem_map.1 hak
      rw [← hf x hx]
      have hx : x ∈ L := hx
      by_cases hb : x = bareL x.addr 0 0
      · exact hb.symm
      · exact absurd (List.mem_map.2 ⟨x, List.mem_filter.2 ⟨hx, decide_eq_true hb⟩, rfl⟩) hno
  rw [e4, ← h.addrs, List.map_map]
  show L.map _ = L
  have : L.map ((fun a => (getL L a).1) ∘ LV.addr) = L.map id := List.map_congr_left fun x hx => (hf x hx).symm
  rw [this, List.map_id]
theorem recsK_good {ks : List Nat} {k : Kn} (h : KnOk ks k) : ∀ r ∈ recsK k, GoodF r := by
  intro r hr
  unfold recsK at hr
  rcases List.mem_cons.1 hr with rfl | hr
  · exact recS_good _
  rcases List.mem_cons.1 hr with rfl | hr
  · exact recF_good _
  obtain ⟨x, hx, rfl⟩ := List.mem_map.1 hr
  exact recL_good (h.tab.right x (List.mem_filter.1 hx).1)
theorem recsK_len {ks : List Nat} {k : Kn} (h : KnOk ks k) : (recsK k).length ≤ ks.length + 2 := by
  unfold recsK
  rw [List.length_cons, List.length_cons, List.length_map]
  have h1 := List.length_filter_le (fun x : LV => decide (x ≠ bareL x.addr 0 0)) k.L
  have h2 : k.L.length = ks.length := by rw [← h.addrs, List.length_map]
  unfold keptL
  omega
/-- The whole pool: what is known behind a log's records. -/
theorem get_map {ks : List Nat} {f : Nat → LV} (hf : ∀ a, (f a).addr = a) (a : Nat) (ha : a ∈ ks) : getL (ks.map f) a = (f a, 0) := by rw [map_get hf, if_pos ha]

end Go.Proofs.YtalmjmhbpmhokaaGreat
end

/- Stores, pure: steps; what runs without a crash keep; what may be known behind a crash; opening again. (Names no function of the program.) -/
section
namespace Go.Proofs.YtalmjmhbpmhokaaGreat

/-- A step. -/
structure StS where
  do_ : Int
  n : Int
  l : LV
/-- A step at a store of the addresses ks: an error, the disk, what is known. -/
def stepS (ks : List Nat) (s : DS) (k : Kn) (x : StS) : Int × DS × Kn :=
  if x.do_ = 0 then putS s k x.l
  else if x.do_ = 1 then setSS s k x.n
  else if x.do_ = 2 then setFS s k x.n
  else if x.do_ = 3 then ((syncD s).1, (syncD s).2, k)
  else if x.do_ = 4 then ((compW s (recsK k)).1, (compW s (recsK k)).2, k)
  else if x.do_ = 5 then (0, failD s x.n, k)
  else (0, (againW s x.n).2, knK ks (scanL (againW s x.n).2.bs))

theorem note_ok {s : DS} {k : Kn} {b : List UInt8} (h : s.Ok) : (noteS s k b).2.1.Ok := appW_ok h b
theorem note_kn {ks : List Nat} {s : DS} {k : Kn} (b : List UInt8) (h : KnOk ks k) : KnOk ks (noteS s k b).2.2 := by
  unfold noteS
  dsimp only
  split
  · exact h.do_ b
  · exact h
theorem step_ok {ks : List Nat} {s : DS} {k : Kn} {x : StS} (hu : ks.Pairwise (· < ·)) (hs : s.Ok) (hk : KnOk ks k) (hn : x.n ≤ 9223372036854775807) : (stepS ks s k x).2.1.Ok ∧ KnOk ks (stepS ks s k x).2.2 := by
  unfold stepS
  split
  · unfold putS
    split
    · split
      · exact ⟨note_ok hs, note_kn _ hk⟩
      · exact ⟨hs, hk⟩
    · exact ⟨hs, hk⟩
  split
  · unfold setSS
    split
    · exact ⟨note_ok hs, note_kn _ hk⟩
    · exact ⟨hs, hk⟩
  split
  · unfold setFS
    split
    · exact ⟨note_ok hs, note_kn _ hk⟩
    · exact ⟨hs, hk⟩
  split
  · exact ⟨sync_ok hs, hk⟩
  split
  · exact ⟨comp_ok hs _, hk⟩
  split
  · exact ⟨fail_ok hs _ hn, hk⟩
  · exact ⟨again_ok hs _, KnOk.all hu _⟩

/-! ## Runs without a crash, on a disk with room enough -/
theorem tot_le (l : List (List UInt8)) (n : Nat) (h : ∀ r ∈ l, r.length ≤ n) : tot l ≤ l.length * (n + 3) := by
  induction l with
  | nil => exact Nat.zero_le _
  | cons r l ih =>
    rw [tot_cons, List.length_cons, Nat.add_mul]
    have h1 := h r (List.mem_cons_self ..)
    have h2 := ih fun x hx => h x (List.mem_cons_of_mem _ hx)
    omega
theorem recsK_short {ks : List Nat} {k : Kn} (h : KnOk ks k) : ∀ r ∈ recsK k, r.length ≤ 69 := by
  intro r hr
  unfold recsK at hr
  rcases List.mem_cons.1 hr with rfl | hr
  · simp [recS]
  rcases List.mem_cons.1 hr with rfl | hr
  · simp [recF, beL_length]
  obtain ⟨x, hx, rfl⟩ := List.mem_map.1 hr
  exact recL_len (h.tab.right x (List.mem_filter.1 hx).1)

/-- A store that lasts: its records, how many of these were synced, and what they make known. -/
structure LstK (ks : List Nat) (s : DS) (k : Kn) (all : List (List UInt8)) (sure : Nat) : Prop where
  lst : Lst s all sure
  ok : s.Ok
  room : s.room = 100000
  kn : k = knK ks all
section
variable {ks : List Nat} {s : DS} {k : Kn} {all : List (List UInt8)} {sure : Nat}
theorem LstK.new (ks : List Nat) : LstK ks ⟨100000, [], 0, -1⟩ (knK ks []) [] 0 := ⟨Lst.new _, ⟨by decide, by decide, by decide, by decide, by decide, by decide⟩, rfl, rfl⟩
theorem app_room (s : DS) (b : List UInt8) : (appW s b).2.room = s.room := by
  unfold appW appD
  split
  · split
    · rfl
    · split <;> rfl
  · rfl
theorem LstK.note (h : LstK ks s k all sure) (b : List UInt8) : ∃ all', LstK ks (noteS s k b).2.1 (noteS s k b).2.2 all' sure ∧ (all' = all ∨ ∃ b, all' = all ++ [b]) := by
  by_cases h0 : (appW s b).1 = 0
  · refine ⟨all ++ [b], ⟨h.lst.app b h0, appW_ok h.ok b, (app_room s b).trans h.room, ?_⟩, .inr ⟨b, rfl⟩⟩
    show (if (appW s b).1 = 0 then doK k b else k) = _
    rw [if_pos h0, knK_snoc, h.kn]
  · refine ⟨all, ⟨h.lst.refused b h0, appW_ok h.ok b, (app_room s b).trans h.room, ?_⟩, .inl rfl⟩
    show (if (appW s b).1 = 0 then doK k b else k) = _
    rw [if_neg h0, h.kn]
theorem LstK.comp (h : LstK ks s k all sure) (hu : ks.Pairwise (· < ·)) (ha : ∀ a ∈ ks, a < 4294967296) (hl : ks.length ≤ 6) : (compW s (recsK k)).1 = 0 ∧ LstK ks (compW s (recsK k)).2 k (recsK k) (recsK k).length := by
  have hk : KnOk ks k := by rw [h.kn]; exact KnOk.all hu _
  have hg := recsK_good hk
  have hlen : (frs (recsK k)).length ≤ 600 := by
    have h1 := tot_le _ 69 (recsK_short hk)
    have h2 := recsK_len hk
    rw [frs_length]
    omega
  have hleft := h.lst.left
  have e : compW s (recsK k) = (0, { s.count with bs := frs (recsK k), last := (frs (recsK k)).length }) := by
    unfold compW swapD
    rw [if_pos hg, if_neg (by omega), if_neg (by rw [h.room]; omega)]
  have h0 : (compW s (recsK k)).1 = 0 := by rw [e]
  refine ⟨h0, ⟨⟨?_, by rw [e], hg, ?_, Nat.le_refl _⟩, comp_ok h.ok _, ?_, (compact_same hk ha).symm⟩⟩
  · rw [e]
    show (if s.left = -1 then _ else _) = _
    rw [if_pos hleft]
    exact hleft
  · rw [e, List.take_length]
    exact frs_length _
  · rw [e]
    exact h.room
/-- A step but the disk's own. -/
theorem LstK.step (h : LstK ks s k all sure) (hu : ks.Pairwise (· < ·)) (ha : ∀ a ∈ ks, a < 4294967296) (hl : ks.length ≤ 6) (x : StS) (h0 : 0 ≤ x.do_) (h4 : x.do_ ≤ 4) :
    ∃ all' sure', LstK ks (stepS ks s k x).2.1 (stepS ks s k x).2.2 all' sure' ∧ ((x.do_ < 3 ∧ sure' = sure ∧ (all' = all ∨ ∃ b, all' = all ++ [b])) ∨ (3 ≤ x.do_ ∧ sure' = all'.length)) := by
  unfold stepS
  split
  · unfold putS
    split
    · split
      · obtain ⟨all', k1, k2⟩ := h.note (recL x.l)
        exact ⟨all', sure, k1, .inl ⟨by omega, rfl, k2⟩⟩
      · exact ⟨all, sure, h, .inl ⟨by omega, rfl, .inl rfl⟩⟩
    · exact ⟨all, sure, h, .inl ⟨by omega, rfl, .inl rfl⟩⟩
  split
  · unfold setSS
    split
    · obtain ⟨all', k1, k2⟩ := h.note (recS x.n)
      exact ⟨all', sure, k1, .inl ⟨by omega, rfl, k2⟩⟩
    · exact ⟨all, sure, h, .inl ⟨by omega, rfl, .inl rfl⟩⟩
  split
  · unfold setFS
    split
    · obtain ⟨all', k1, k2⟩ := h.note (recF x.n)
      exact ⟨all', sure, k1, .inl ⟨by omega, rfl, k2⟩⟩
    · exact ⟨all, sure, h, .inl ⟨by omega, rfl, .inl rfl⟩⟩
  split
  · exact ⟨all, all.length, ⟨h.lst.sync.2, sync_ok h.ok, by unfold syncD; split <;> exact h.room, h.kn⟩, .inr ⟨by omega, rfl⟩⟩
  split
  · exact ⟨_, _, (h.comp hu ha hl).2, .inr ⟨by omega, rfl⟩⟩
  · omega

/-! ## What may be found behind a crash -/
/-- Bytes that a disk held: one for each beginning that has all that were synced. -/
structure MayK (M : List (List UInt8)) (all : List (List UInt8)) (sure : Nat) : Prop where
  each : ∀ b ∈ M, b.length ≤ 100000 ∧ Whl ⟨100000, b, 0, -1⟩
  some_ : ∀ m, sure ≤ m → m ≤ all.length → frs (all.take m) ∈ M
theorem whl_bs {s : DS} (h : Whl s) (a c : Nat) (d : Int) : Whl ⟨a, s.bs, c, d⟩ := h.same rfl
theorem LstK.held (h : LstK ks s k all sure) : s.bs.length ≤ 100000 ∧ Whl ⟨100000, s.bs, 0, -1⟩ := ⟨by have := h.ok.len; have := h.room; omega, whl_bs h.lst.whl.1 _ _ _⟩
theorem MayK.new : MayK [[]] [] 0 := ⟨fun b hb => by
  obtain rfl := List.mem_singleton.1 hb
  exact ⟨by simp, rfl⟩, fun m _ h2 => by
  obtain rfl : m = 0 := by simpa using h2
  exact List.mem_singleton.2 rfl⟩
theorem MayK.more {M : List (List UInt8)} (h : MayK M all sure) {s' : DS} {k' : Kn} {all' : List (List UInt8)} (h' : LstK ks s' k' all' sure) (hc : all' = all ∨ ∃ b, all' = all ++ [b]) : MayK (M ++ [s'.bs]) all' sure := by
  refine ⟨fun b hb => ?_, fun m h1 h2 => ?_⟩
  · rcases List.mem_append.1 hb with hb | hb
    · exact h.each b hb
    · obtain rfl := List.mem_singleton.1 hb
      exact h'.held
  · by_cases hm : m = all'.length
    · subst hm
      rw [List.take_length, ← h'.lst.bs]
      exact List.mem_append.2 (.inr (List.mem_singleton.2 rfl))
    · rcases hc with rfl | ⟨b, rfl⟩
      · exact List.mem_append.2 (.inl (h.some_ m h1 h2))
      · rw [List.length_append, List.length_singleton] at h2 hm
        rw [List.take_append_of_le_length (by omega)]
        exact List.mem_append.2 (.inl (h.some_ m h1 (by omega)))
theorem MayK.anew {s' : DS} {k' : Kn} {all' : List (List UInt8)} (h' : LstK ks s' k' all' all'.length) : MayK ([] ++ [s'.bs]) all' all'.length := by
  refine ⟨fun b hb => ?_, fun m h1 h2 => ?_⟩
  · obtain rfl := List.mem_singleton.1 hb
    exact h'.held
  · obtain rfl : m = all'.length := by omega
    rw [List.take_length, ← h'.lst.bs]
    exact List.mem_singleton.2 rfl
/-- What is found behind a crash is what one of them makes. -/
theorem LstK.found {M : List (List UInt8)} (h : LstK ks s k all sure) (hm : MayK M all sure) (n : Int) : ∃ (i : Nat) (b : List UInt8), M[i]? = some b ∧ scanL b = scanL (againW s n).2.bs := by
  obtain ⟨wh, h1, h2, h3⟩ := h.lst.again h.ok n
  obtain ⟨i, hi⟩ := List.mem_iff_getElem?.1 (hm.some_ wh h1 h2)
  refine ⟨i, _, hi, ?_⟩
  rw [h3]
  exact (Whl.of (s := ⟨100000, frs (all.take wh), 0, -1⟩) rfl fun r hr => h.lst.good r (List.mem_of_mem_take hr)).2
/-- Bytes on a new disk. -/
theorem laid {b : List UInt8} (h : b.length ≤ 100000) : appD ⟨100000, [], 0, -1⟩ b = (0, ⟨100000, b, 0, -1⟩) := by
  unfold appD
  rw [if_neg (by decide), if_neg (by show ¬ 100000 < 0 + b.length; omega)]
  rfl
theorem laid5 {b : List UInt8} (h : b.length ≤ 3000) : appD ⟨5000, [], 0, -1⟩ b = (0, ⟨5000, b, 0, -1⟩) := by
  unfold appD
  rw [if_neg (by decide), if_neg (by show ¬ 5000 < 0 + b.length; omega)]
  rfl

/-! ## Opening again -/
theorem LstK.whl (h : LstK ks s k all sure) : openW s = (0, s) ∧ knK ks (scanL s.bs) = k := ⟨h.lst.whl.1.open_, by rw [h.lst.whl.2, h.kn]⟩
/-- Behind compacting, and a crash: the same. -/
theorem LstK.comp_again (h : LstK ks s k all sure) (hu : ks.Pairwise (· < ·)) (ha : ∀ a ∈ ks, a < 4294967296) (hl : ks.length ≤ 6) (n : Int) :
    knK ks (scanL (againW (compW s (recsK k)).2 n).2.bs) = k ∧ (scanL (againW (compW s (recsK k)).2 n).2.bs).length ≤ 8 := by
  obtain ⟨h0, h1⟩ := h.comp hu ha hl
  have hk : KnOk ks k := by rw [h.kn]; exact KnOk.all hu _
  obtain ⟨m1, m2, m3⟩ := compW_more h0
  rw [(again_last m2 m3 n).2.2, m1]
  have := recsK_len hk
  exact ⟨compact_same hk ha, by omega⟩
/-- Of two pools: what both have is the same. -/
theorem both_same {ks js : List Nat} (hu : ks.Pairwise (· < ·)) (hv : js.Pairwise (· < ·)) (rs : List (List UInt8)) {x : LV} (hx : x ∈ (knK js rs).L) (hc : (getL (knK ks rs).L x.addr).2 = 0) : (getL (knK ks rs).L x.addr).1 = x := by
  rw [knK_is hv] at hx
  rw [knK_is hu] at hc ⊢
  obtain ⟨a, ha, rfl⟩ := List.mem_map.1 hx
  rw [known_addr] at hc ⊢
  by_cases hm : a ∈ ks
  · rw [get_map (known_addr rs) a hm]
  · rw [map_get (known_addr rs), if_neg hm] at hc
    simp at hc
end
/-- State and life are no pool's. -/
theorem both_sf {ks js : List Nat} (hu : ks.Pairwise (· < ·)) (hv : js.Pairwise (· < ·)) (rs : List (List UInt8)) : (knK js rs).st = (knK ks rs).st ∧ (knK js rs).lf = (knK ks rs).lf := by
  rw [knK_is hu, knK_is hv]
  exact ⟨rfl, rfl⟩
end Go.Proofs.YtalmjmhbpmhokaaGreat
end
