/- Joined texts: TopP, TopM. -/
import Derived.Test.YtablffjhipgfbaaMrgPooL
import Derived.Test.YtablffjhipgfbaaMrgTabP
import Derived.Test.YtablffjhipgfbaaMrgTabN
import Derived.StillTailTactics

/- TopShares, pure: what becomes of a table whose addresses are given away, one by one. (Names no function of the program but those of PooP.) -/
section
namespace Go.Proofs.Ytablffjhipgfbaa

/-- The lease of an address that was given away. -/
def gvL (nb : Int) (M : List LV) (a : Nat) : LV := bareL a nb (getL M a).1.ver
def mvL (nb : Int) (M : List LV) (a : Nat) : List LV := (setL M (gvL nb M a)).1
theorem get_of {M : List LV} (h : TabL M) {k : Nat} {x : LV} (hk : M[k]? = some x) : getL M x.addr = (x, 0) := by
  unfold getL
  have hf : M.find? (fun y => y.addr == x.addr) = some x := by
    cases hf : M.find? (fun y => y.addr == x.addr) with
    | none =>
      have := List.find?_eq_none.1 hf x (List.mem_of_getElem? hk)
      simp at this
    | some y =>
      have h1 := List.find?_some hf
      have h2 := List.mem_of_find?_eq_some hf
      obtain ⟨j, hj⟩ := List.mem_iff_getElem?.1 h2
      have e : j = k := addr_inj h.up hj hk (by simpa using h1)
      rw [e, hk] at hj
      rw [Option.some.inj hj]
  rw [hf]
theorem set_of {M : List LV} (h : TabL M) {k : Nat} {x z : LV} (hk : M[k]? = some x) (hz : RightL z) (ha : z.addr = x.addr) : setL M z = (M.set k z, 0) := by
  unfold setL
  rw [if_pos hz, ha, idx_of h.up hk]
theorem countP_turn {p : LV → Bool} {M : List LV} {k : Nat} {x : LV} (z : LV) (hk : M[k]? = some x) : (M.set k z).countP p + (if p x = true then 1 else 0) = M.countP p + (if p z = true then 1 else 0) := by
  induction M generalizing k with
  | nil => simp at hk
  | cons y r ih =>
    cases k with
    | zero =>
      simp at hk
      subst hk
      rw [List.set_cons_zero, List.countP_cons, List.countP_cons]
      omega
    | succ k =>
      have h2 : r[k]? = some x := by simpa using hk
      have := ih h2
      rw [List.set_cons_succ, List.countP_cons, List.countP_cons]
      omega
/-- One address is given away: from those bound b to those bound 1 - b. -/
structure Moved (b : Int) (M : List LV) (a : Nat) : Prop where
  get : ∃ x, getL M a = (x, 0) ∧ x.bind = b ∧ RightL x
  ok : (setL M (gvL (1 - b) M a)).2 = 0
  right : RightL (gvL (1 - b) M a)
  tab : TabL (mvL (1 - b) M a)
  len : (mvL (1 - b) M a).length = M.length
  addrs : (mvL (1 - b) M a).map LV.addr = M.map LV.addr
  rest : ∀ y ∈ M, y.addr ≠ a → y ∈ mvL (1 - b) M a
  cnt : ∀ q : Int, (cntL (mvL (1 - b) M a) q : Int) = (cntL M q : Int) + (if q = 1 - b then 1 else 0) - (if q = b then 1 else 0)
theorem moved {b : Int} (hb : b = 0 ∨ b = 1) {M : List LV} (h : TabL M) {x : LV} (hx : x ∈ M) (hxb : x.bind = b) : Moved b M x.addr := by
  obtain ⟨k, hk⟩ := List.mem_iff_getElem?.1 hx
  have hg := get_of h hk
  have hr := h.right x hx
  have hz : RightL (gvL (1 - b) M x.addr) := by
    unfold gvL
    rw [hg]
    exact (bare_right _ _ _).2 ⟨by omega, hr.ver⟩
  have hza : (gvL (1 - b) M x.addr).addr = x.addr := rfl
  have hzb : (gvL (1 - b) M x.addr).bind = 1 - b := rfl
  have hs := set_of h hk hz hza
  refine ⟨⟨x, hg, hxb, hr⟩, by rw [hs], hz, setL_tab h _, setL_length _ _, setL_addrs _ _, fun y hy hne => ?_, fun q => ?_⟩
  · unfold mvL
    rw [hs]
    obtain ⟨i, hi⟩ := List.mem_iff_getElem?.1 hy
    refine List.mem_iff_getElem?.2 ⟨i, ?_⟩
    have hik : k ≠ i := fun e => by
      subst e
      rw [hk] at hi
      exact hne (by rw [Option.some.inj hi])
    show (M.set k _)[i]? = _
    rw [List.getElem?_set_ne hik]
    exact hi
  · unfold mvL cntL
    rw [hs]
    have h1 := countP_turn (p := fun y : LV => y.bind == q) (gvL (1 - b) M x.addr) hk
    show (((M.set k (gvL (1 - b) M x.addr)).countP fun y => y.bind == q : Nat) : Int) = _
    simp only [hzb, hxb, beq_iff_eq] at h1
    by_cases c1 : q = 1 - b
    · have c2 : ¬ q = b := by omega
      rw [if_pos c1, if_neg c2]
      rw [if_neg (fun e => c2 e.symm), if_pos c1.symm] at h1
      omega
    · by_cases c2 : q = b
      · rw [if_neg c1, if_pos c2]
        rw [if_pos c2.symm, if_neg (fun e => c1 e.symm)] at h1
        omega
      · rw [if_neg c1, if_neg c2]
        rw [if_neg (fun e => c2 e.symm), if_neg (fun e => c1 e.symm)] at h1
        omega
/-- The table behind some of the addresses that are given. -/
def mvs (nb : Int) (M : List LV) (xs : List Nat) : List LV := xs.foldl (fun M a => mvL nb M a) M
theorem mvs_snoc (nb : Int) (M : List LV) (xs : List Nat) (a : Nat) : mvs nb M (xs ++ [a]) = mvL nb (mvs nb M xs) a := by simp [mvs]
/-- What holds behind the first j of them. -/
structure Giving (b : Int) (M : List LV) (xs : List Nat) (j : Nat) (M' : List LV) : Prop where
  is : M' = mvs (1 - b) M (xs.take j)
  tab : TabL M'
  len : M'.length = M.length
  addrs : M'.map LV.addr = M.map LV.addr
  rest : ∀ a ∈ xs.drop j, ∃ x ∈ M', x.addr = a ∧ x.bind = b
  cnt : ∀ q : Int, (cntL M' q : Int) = (cntL M q : Int) + (if q = 1 - b then (j : Int) else 0) - (if q = b then (j : Int) else 0)
theorem Giving.start {b : Int} {M : List LV} (h : TabL M) {xs : List Nat} (hx : ∀ a ∈ xs, ∃ x ∈ M, x.addr = a ∧ x.bind = b) : Giving b M xs 0 M :=
  ⟨rfl, h, rfl, rfl, fun a ha => hx a (by rwa [List.drop_zero] at ha), fun q => by split <;> split <;> omega⟩
theorem Giving.moved {b : Int} {M : List LV} {xs : List Nat} {j : Nat} {M' : List LV} (h : Giving b M xs j M') (hb : b = 0 ∨ b = 1) {a : Nat} (ha : xs[j]? = some a) : Moved b M' a := by
  obtain ⟨x, hx, rfl, hxb⟩ := h.rest a (by
    rw [List.drop_eq_getElem_cons (List.getElem?_eq_some_iff.1 ha).1, (List.getElem?_eq_some_iff.1 ha).2]
    exact List.mem_cons_self)
  exact Proofs.Ytablffjhipgfbaa.moved hb h.tab hx hxb
theorem Giving.next {b : Int} {M : List LV} {xs : List Nat} {j : Nat} {M' : List LV} (h : Giving b M xs j M') (hb : b = 0 ∨ b = 1) {a : Nat} (ha : xs[j]? = some a) (hn : xs.Nodup) : Giving b M xs (j + 1) (mvL (1 - b) M' a) := by
  have hm := h.moved hb ha
  have hjl := (List.getElem?_eq_some_iff.1 ha).1
  have hd : xs.drop j = a :: xs.drop (j + 1) := by rw [List.drop_eq_getElem_cons hjl, (List.getElem?_eq_some_iff.1 ha).2]
  refine ⟨?_, hm.tab, hm.len.trans h.len, hm.addrs.trans h.addrs, fun c hc => ?_, fun q => ?_⟩
  · have ht : xs.take (j + 1) = xs.take j ++ [a] := by rw [List.take_add_one, ha]; rfl
    rw [ht, mvs_snoc, h.is]
  · obtain ⟨x, hx, hxa, hxb⟩ := h.rest c (by rw [hd]; exact List.mem_cons_of_mem _ hc)
    refine ⟨x, hm.rest x hx ?_, hxa, hxb⟩
    intro e
    have h2 : (xs.drop j).Nodup := hn.sublist (List.drop_sublist _ _)
    rw [hd] at h2
    have h3 := (List.nodup_cons.1 h2).1
    rw [← e, hxa] at h3
    exact h3 hc
  · have h1 := hm.cnt q
    have h2 := h.cnt q
    rw [h1, h2]
    by_cases c1 : q = 1 - b
    · by_cases c2 : q = b
      · simp only [if_pos c1, if_pos c2]; omega
      · simp only [if_pos c1, if_neg c2]; omega
    · by_cases c2 : q = b
      · simp only [if_neg c1, if_pos c2]; omega
      · simp only [if_neg c1, if_neg c2]; omega
/-- All that are chosen may be given. -/
theorem ch_mem {p s : Nat} {b : Int} (hb : b = 0 ∨ b = 1) {M : List LV} (h : TabL M) : (chV p s b M).Nodup ∧ ∀ a ∈ chV p s b M, ∃ x ∈ M, x.addr = a ∧ x.bind = b := by
  obtain ⟨n, hn⟩ := ch_own (p := p) (s := s) (L := M) hb
  have ho : OnceL M := (up_addrs.1 h.up).imp fun h => by omega
  rw [hn]
  refine ⟨(top_rise (own_rise ho)).imp fun h => by omega, fun a ha => ?_⟩
  obtain ⟨x, hx, hxb, hxa⟩ := mem_own.1 (mem_top ha)
  exact ⟨x, hx, hxa, hxb⟩
theorem cnt_two (M : List LV) : cntL M 0 + cntL M 1 ≤ M.length := by
  unfold cntL
  induction M with
  | nil => simp
  | cons x r ih =>
    rw [List.countP_cons, List.countP_cons, List.length_cons]
    by_cases h0 : x.bind = 0
    · have : ¬ x.bind = 1 := by omega
      simp [h0]
      omega
    · by_cases h1 : x.bind = 1
      · simp [h1]
        omega
      · simp [h0, h1]
        omega
theorem ch_count (p s : Nat) (b : Int) (M : List LV) : ((chV p s b M).length : Int) = givV p s b (cntL M 0 : Int) (cntL M 1 : Int) := by
  rw [ch_length]
  exact Int.toNat_of_nonneg (giv_range p s b _ _).1
/-- Behind both, neither gives anything more; what is somebody's is as it was. -/
theorem both_done {p s : Nat} {M M1 M2 : List LV} (h0 : Giving 0 M (chV p s 0 M) (chV p s 0 M).length M1) (h1 : Giving 1 M1 (chV p s 1 M1) (chV p s 1 M1).length M2) (hl : M.length ≤ 256) :
    (chV p s 0 M2).length = 0 ∧ (chV p s 1 M2).length = 0 ∧ ∀ q : Int, 2 ≤ q → cntL M2 q = cntL M q := by
  have c0 := ch_count p s 0 M
  have c1 := ch_count p s 1 M1
  have a0 := h0.cnt 0
  have a1 := h0.cnt 1
  have b0 := h1.cnt 0
  have b1 := h1.cnt 1
  rw [if_neg (by decide), if_pos rfl] at a0
  rw [if_pos (by decide), if_neg (by decide)] at a1
  rw [if_pos (by decide), if_neg (by decide)] at b0
  rw [if_neg (by decide), if_pos rfl] at b1
  have ht := cnt_two M
  have hT := giv_turns p s (f := (cntL M 0 : Int)) (b := (cntL M 1 : Int)) (by omega) (by omega) (by omega) _ ((chV p s 1 M1).length : Int) rfl (by
    rw [c1, a0, a1, ← c0]
    congr 1 <;> omega)
  rw [← c0] at hT
  have d0 := ch_count p s 0 M2
  have d1 := ch_count p s 1 M2
  rw [b0, b1, a0, a1] at d0 d1
  have e0 : (cntL M 0 : Int) + 0 - ((chV p s 0 M).length : Int) + ((chV p s 1 M1).length : Int) - 0 = (cntL M 0 : Int) - ((chV p s 0 M).length : Int) + ((chV p s 1 M1).length : Int) := by omega
  have e1 : (cntL M 1 : Int) + ((chV p s 0 M).length : Int) - 0 + 0 - ((chV p s 1 M1).length : Int) = (cntL M 1 : Int) + ((chV p s 0 M).length : Int) - ((chV p s 1 M1).length : Int) := by omega
  rw [e0, e1] at d0 d1
  rw [hT.1] at d0
  rw [hT.2] at d1
  refine ⟨by omega, by omega, fun q hq => ?_⟩
  have q0 := h0.cnt q
  have q1 := h1.cnt q
  rw [if_neg (by omega), if_neg (by omega)] at q0 q1
  omega
end Go.Proofs.Ytablffjhipgfbaa
end

/- TopShares: six numbers in a block; what a change of the table leaves alone; the pool of one range. -/
section
namespace Go.Proofs.Ytablffjhipgfbaa
open Go.RowKit Go.Sort

/-- Block g holds six numbers. -/
structure Arr6 (w : World) (g : Nat) (f : Nat → Int) : Prop where
  ex : ∃ cs : Array Value, w.heap[g]? = some (.cells cs 39 (0, 0)) ∧ ∀ k, k < 6 → cs[k]? = some (.int .i64 (f k))
section
variable {w w' : World} {g : Nat} {f : Nat → Int}
theorem Arr6.new (w : World) : Arr6 (w.alloc (.cells #[.int .i64 0, .int .i64 0, .int .i64 0, .int .i64 0, .int .i64 0, .int .i64 0] 39)) w.heap.size fun _ => 0 :=
  ⟨_, heap_alloc_new w _, fun k hk => by
    match k, hk with
    | 0, _ => rfl
    | 1, _ => rfl
    | 2, _ => rfl
    | 3, _ => rfl
    | 4, _ => rfl
    | 5, _ => rfl⟩
theorem Arr6.cell (h : Arr6 w g f) (k : Nat) (hk : k < 6) : w.cell? ⟨g, k, none⟩ = some (.int .i64 (f k)) := by
  obtain ⟨cs, h1, h2⟩ := h.ex
  rw [cell_of_row w g k _ _ _ h1]
  exact h2 k hk
theorem Arr6.free (h : Arr6 w g f) (k : Nat) : w.frozen? ⟨g, k, none⟩ = false := by
  obtain ⟨cs, h1, h2⟩ := h.ex
  simp [World.frozen?, h1]
theorem Arr6.lt (h : Arr6 w g f) : g < w.heap.size := by
  obtain ⟨cs, h1, _⟩ := h.ex
  exact (Array.getElem?_eq_some_iff.1 h1).1
theorem Arr6.block (h : Arr6 w g f) (hb : w'.heap[g]? = w.heap[g]?) : Arr6 w' g f := by
  obtain ⟨cs, h1, h2⟩ := h.ex
  exact ⟨cs, hb.trans h1, h2⟩
theorem Arr6.later (h : Arr6 w g f) (hb : Below w.heap.size w w') : Arr6 w' g f := h.block (hb.block g h.lt)
theorem Arr6.store (h : Arr6 w g f) (k : Nat) (n : Int) : Arr6 (w.setCell ⟨g, k, none⟩ (.int .i64 n)) g fun i => if i = k then n else f i := by
  obtain ⟨cs, h1, h2⟩ := h.ex
  refine ⟨cs.setIfInBounds k (.int .i64 n), ?_, fun i hi => ?_⟩
  · show (w.heap.modify g _)[g]? = _
    rw [Array.getElem?_modify, if_pos rfl, h1]
    rfl
  · rw [Array.getElem?_setIfInBounds]
    by_cases e : k = i
    · subst e
      rw [if_pos rfl, if_pos rfl, if_pos]
      have := h2 k hi
      exact (Array.getElem?_eq_some_iff.1 this).1
    · rw [if_neg e, if_neg (fun h => e h.symm)]
      exact h2 i hi
end
theorem KpT.set {P : Nat → Prop} (w : World) {a : Addr} (ha : ¬ P a.block) (v : Value) : KpT P w (w.setCell a v) :=
  ⟨rfl, rfl, rfl, by rw [World.size_setCell]; exact Nat.le_refl _, fun k hk => Below.heap_setCell w a v k (fun e => ha (e ▸ hk))⟩
/-- Addresses in a row that is none of the table's blocks are kept where the table is changed. -/
theorem El.othA {w w' : World} {B : Nat} {A : Option Addr} {xs : List Nat} {P : Nat → Prop} (h : El ElemA w B A xs) (ho : OthT P w w') (hB : B ≤ w.heap.size) (hn : ∀ ad, A = some ad → ¬ P ad.block) : El ElemA w' B A xs :=
  ⟨fun i x hx => by
    obtain ⟨b, o, rfl, hb, h1⟩ := h.at_ i x hx
    exact ⟨b, o, rfl, hb, fun k u hu => (World.cell?_of_block (ho.block b (by omega) (hn _ rfl))).trans (h1 k u hu)⟩⟩
theorem Arr6.oth {w w' : World} {g : Nat} {f : Nat → Int} {P : Nat → Prop} (h : Arr6 w g f) (ho : OthT P w w') (hn : ¬ P g) : Arr6 w' g f := h.block (ho.block g h.lt hn)
theorem F2.oth {t : TypeId} {w w' : World} {g p s : Nat} {P : Nat → Prop} (h : F2 t w g p s) (ho : OthT P w w') (hn : ¬ P g) : F2 t w' g p s := (ho.block g h.lt hn).trans h

/-- The pool of the one range is made. -/
theorem new_len : (addrsOf (joinL [(1, 20)])).length = 20 := by decide +kernel
theorem low_perm {l' l : List (Nat × Nat)} {x : Nat × Nat} (hp : l'.Perm l) (hl : l = [x]) : l' = [x] := by
  rw [hl] at hp
  exact List.perm_singleton.1 hp
theorem new_code {l ol : List (Nat × Nat)} {code : Int} (hl : l = [(1, 20)]) (h : PoolRes l ol code) : code = 0 := by
  unfold PoolRes at h
  rcases h with h | h
  · obtain ⟨⟨x, hx, hlt⟩, _⟩ := h
    rw [hl] at hx
    have hx := List.mem_singleton.1 hx
    rw [hx] at hlt
    exact absurd hlt (by decide)
  · obtain ⟨l', _, hp, _, h⟩ := h
    have e := low_perm hp hl
    have hn : (addrsOf (joinL l')).length = 20 := by rw [e]; exact new_len
    rcases h with h | h
    · exact absurd h.1 (by rw [hn]; decide)
    · exact h.2.2
theorem one_rg (w : World) : Rg (w.alloc (.cells #[.int .u32 1, .int .u32 20] 32)) (w.alloc (.cells #[.int .u32 1, .int .u32 20] 32)).heap.size (some ⟨w.heap.size, 0, none⟩) [(1, 20)] := by
  have hh : (w.alloc (.cells #[.int .u32 1, .int .u32 20] 32)).heap[w.heap.size]? = some (.cells #[.int .u32 1, .int .u32 20] 32 (0, 0)) := heap_alloc_new w _
  refine ⟨fun x hx => ?_, fun i x hx => ?_⟩
  · rw [List.mem_singleton] at hx
    subst hx
    decide
  · match i, hx with
    | 0, hx =>
      simp at hx
      subst hx
      exact ⟨_, _, rfl, by simp, (cell_of_row _ _ 0 _ _ _ hh).trans rfl, (cell_of_row _ _ 1 _ _ _ hh).trans rfl⟩
    | i + 1, hx => simp at hx
/-- How far the giving has come: nothing given; the first one has; both have. -/
def StS (p s : Nat) (M : List LV) : Nat → List LV → Prop
  | 0, X => X = M
  | 1, X => Giving 0 M (chV p s 0 M) (chV p s 0 M).length X
  | _, X => ∃ M1, Giving 0 M (chV p s 0 M) (chV p s 0 M).length M1 ∧ Giving 1 M1 (chV p s 1 M1) (chV p s 1 M1).length X
theorem StS.next {p s : Nat} {M X X' : List LV} {i : Nat} (hi : i < 2) (h : StS p s M i X) (hg : Giving (i : Int) X (chV p s (i : Int) X) (chV p s (i : Int) X).length X') : StS p s M (i + 1) X' := by
  rcases (show i = 0 ∨ i = 1 by omega) with e | e
  · subst e
    rw [show ((0 : Nat) : Int) = 0 from rfl] at hg
    rw [show X = M from h] at hg
    exact hg
  · subst e
    rw [show ((1 : Nat) : Int) = 1 from rfl] at hg
    exact ⟨X, h, hg⟩
end Go.Proofs.Ytablffjhipgfbaa
end
