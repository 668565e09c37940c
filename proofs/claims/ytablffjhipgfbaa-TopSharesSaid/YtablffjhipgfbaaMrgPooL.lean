/- Joined texts: PooL, PooP, PooM, PooA, PooK. -/
import Derived.Test.YtablffjhipgfbaaMrgLeaP
import Derived.Test.YtablffjhipgfbaaMrgRatP
import Derived.BigQuiet
import Derived.Deep.QuietTactic
import Derived.Deep.DeepCutAuto
import Derived.Test.YtablffjhipgfbaaMrgTabP
import Derived.Deep.RegionHeld3

/- pool, pure: the addresses of leases that are bound so, rising; the greatest ones of them. (Names no function of the program.) -/
section
namespace Go.Proofs.Ytablffjhipgfbaa

/-- x ahead of the first one that is not smaller. -/
def insA (x : Nat) : List Nat → List Nat
  | [] => [x]
  | y :: r => if y < x then y :: insA x r else x :: y :: r
def srtA (l : List Nat) : List Nat := l.foldl (fun acc x => insA x acc) []
/-- The addresses of those that are bound so. -/
def ownOf (b : Int) (L : List LV) : List Nat := (L.filter fun y => y.bind == b).map LV.addr
def ownA (b : Int) (L : List LV) : List Nat := srtA (ownOf b L)
/-- The n greatest ones. -/
def topA (n : Nat) (l : List Nat) : List Nat := l.drop (l.length - n)

theorem insA_split (x : Nat) : ∀ l : List Nat, insA x l = l.takeWhile (fun y => decide (y < x)) ++ x :: l.dropWhile (fun y => decide (y < x))
  | [] => rfl
  | y :: r => by
    unfold insA
    by_cases h : y < x
    · rw [if_pos h, insA_split x r, List.takeWhile_cons_of_pos (by simpa using h), List.dropWhile_cons_of_pos (by simpa using h)]; rfl
    · rw [if_neg h, List.takeWhile_cons_of_neg (by simpa using h), List.dropWhile_cons_of_neg (by simpa using h)]; rfl
theorem insA_perm (x : Nat) : ∀ l : List Nat, (insA x l).Perm (x :: l)
  | [] => List.Perm.refl _
  | y :: r => by
    unfold insA
    split
    · exact ((insA_perm x r).cons y).trans (List.Perm.swap x y r)
    · exact List.Perm.refl _
theorem insA_length (x : Nat) (l : List Nat) : (insA x l).length = l.length + 1 := by
  rw [(insA_perm x l).length_eq]; rfl
theorem insA_up (x : Nat) : ∀ l : List Nat, l.Pairwise (· ≤ ·) → (insA x l).Pairwise (· ≤ ·)
  | [], _ => List.pairwise_singleton _ _
  | y :: r, h => by
    obtain ⟨h1, h2⟩ := List.pairwise_cons.1 h
    unfold insA
    split
    · rename_i hlt
      refine List.pairwise_cons.2 ⟨fun z hz => ?_, insA_up x r h2⟩
      rcases List.mem_cons.1 ((insA_perm x r).mem_iff.1 hz) with rfl | hz
      · omega
      · exact h1 z hz
    · rename_i hge
      refine List.pairwise_cons.2 ⟨fun z hz => ?_, h⟩
      rcases List.mem_cons.1 hz with rfl | hz
      · omega
      · have := h1 z hz; omega
theorem srt_fold_perm (l : List Nat) : ∀ acc : List Nat, (l.foldl (fun acc x => insA x acc) acc).Perm (l ++ acc) := by
  induction l with
  | nil => intro acc; exact List.Perm.refl _
  | cons x r ih =>
    intro acc
    refine (ih (insA x acc)).trans ?_
    exact ((insA_perm x acc).append_left r).trans List.perm_middle
theorem srt_fold_up (l : List Nat) : ∀ acc : List Nat, acc.Pairwise (· ≤ ·) → (l.foldl (fun acc x => insA x acc) acc).Pairwise (· ≤ ·) := by
  induction l with
  | nil => intro acc h; exact h
  | cons x r ih => intro acc h; exact ih _ (insA_up x acc h)
theorem srtA_perm (l : List Nat) : (srtA l).Perm l := by
  have h := srt_fold_perm l []
  rwa [List.append_nil] at h
theorem srtA_up (l : List Nat) : (srtA l).Pairwise (· ≤ ·) := srt_fold_up l [] List.Pairwise.nil
theorem srtA_snoc (l : List Nat) (x : Nat) : srtA (l ++ [x]) = insA x (srtA l) := by simp [srtA]
/-- Whatever rises and has just these is it. -/
theorem srtA_only {l m : List Nat} (hp : m.Perm l) (hu : m.Pairwise (· ≤ ·)) : m = srtA l :=
  List.Perm.eq_of_pairwise (fun _ _ _ _ h1 h2 => Nat.le_antisymm h1 h2) hu (srtA_up l) (hp.trans (srtA_perm l).symm)
theorem ownA_length (b : Int) (L : List LV) : (ownA b L).length = L.countP fun y => y.bind == b := by
  unfold ownA
  rw [(srtA_perm _).length_eq, ownOf, List.length_map, List.countP_eq_length_filter]
theorem topA_length {n : Nat} {l : List Nat} (h : n ≤ l.length) : (topA n l).length = n := by
  unfold topA; rw [List.length_drop]; omega
theorem topA_nil (l : List Nat) : topA 0 l = [] := by unfold topA; simp
theorem mem_own {b : Int} {L : List LV} {a : Nat} : a ∈ ownA b L ↔ ∃ x ∈ L, x.bind = b ∧ x.addr = a := by
  unfold ownA
  rw [(srtA_perm _).mem_iff, ownOf, List.mem_map]
  constructor
  · rintro ⟨x, hx, e⟩
    obtain ⟨h1, h2⟩ := List.mem_filter.1 hx
    exact ⟨x, h1, by simpa using h2, e⟩
  · rintro ⟨x, hx, hb, e⟩
    exact ⟨x, List.mem_filter.2 ⟨hx, by simpa using hb⟩, e⟩
theorem mem_top {n : Nat} {l : List Nat} {a : Nat} (h : a ∈ topA n l) : a ∈ l := List.mem_of_mem_drop h

/-- Each address once. -/
def OnceL (L : List LV) : Prop := (L.map LV.addr).Nodup
theorem own_once {b : Int} {L : List LV} (h : OnceL L) : (ownA b L).Nodup := by
  unfold ownA
  rw [(srtA_perm _).nodup_iff]
  exact List.Sublist.nodup (List.Sublist.map _ List.filter_sublist) h
theorem own_rise {b : Int} {L : List LV} (h : OnceL L) : (ownA b L).Pairwise (· < ·) := by
  have h1 := srtA_up (ownOf b L)
  have h2 := own_once (b := b) h
  exact (h1.and h2).imp fun ⟨a, b⟩ => by omega
theorem top_rise {n : Nat} {l : List Nat} (h : l.Pairwise (· < ·)) : (topA n l).Pairwise (· < ·) := h.sublist (List.drop_sublist _ _)
/-- Just the given ones are counted, each once. -/
theorem top_count {b : Int} {L : List LV} (h : OnceL L) (n : Nat) : (L.filter fun y => (y.bind == b) && decide (y.addr ∈ topA n (ownA b L))).length = (topA n (ownA b L)).length := by
  have e1 : (L.filter fun y => (y.bind == b) && decide (y.addr ∈ topA n (ownA b L))) = (L.filter fun y => y.bind == b).filter fun y => decide (y.addr ∈ topA n (ownA b L)) := by
    rw [List.filter_filter]
    exact List.filter_congr fun y _ => Bool.and_comm _ _
  rw [e1]
  have e2 : ((L.filter fun y => y.bind == b).filter fun y => decide (y.addr ∈ topA n (ownA b L))).length = ((ownOf b L).filter fun a => decide (a ∈ topA n (ownA b L))).length := by
    unfold ownOf
    rw [List.filter_map, List.length_map]
    rfl
  rw [e2, ← ((srtA_perm (ownOf b L)).filter _).length_eq]
  show ((ownA b L).filter _).length = _
  have hn := own_once (b := b) h
  generalize ownA b L = o at *
  unfold topA
  generalize o.length - n = k
  have hs : o = o.take k ++ o.drop k := (List.take_append_drop k o).symm
  rw [hs, List.nodup_append] at hn
  obtain ⟨h1, h2, h3⟩ := hn
  conv => lhs; rw [hs]
  rw [List.filter_append, List.filter_eq_nil_iff.2 ?_, List.nil_append, List.filter_eq_self.2 ?_]
  · intro a ha
    rw [List.take_append_drop]
    simpa using ha
  · intro a ha
    rw [List.take_append_drop]
    simp only [decide_eq_true_eq]
    intro hd
    exact h3 a ha a hd rfl
/-- What is one's own and is not given is smaller than all that is given. -/
theorem top_above {n : Nat} {l : List Nat} (h : l.Pairwise (· < ·)) {a g : Nat} {r : List Nat} (ha : a ∈ l) (hn : a ∉ topA n l) (hg : topA n l = g :: r) : a < g := by
  unfold topA at hn hg
  generalize l.length - n = k at *
  rw [← List.take_append_drop k l, List.mem_append] at ha
  rw [← List.take_append_drop k l, List.pairwise_append] at h
  rcases ha with ha | ha
  · exact h.2.2 a ha g (by rw [hg]; exact List.mem_cons_self)
  · exact absurd ha hn
end Go.Proofs.Ytablffjhipgfbaa
end

/- pool, pure: how many are given (givV); at most one of the two gives, and behind that nothing more is given. -/
section
namespace Go.Proofs.Ytablffjhipgfbaa
open Flo

/-- How many the server id gives the other one. -/
def givV (p s : Nat) (id f b : Int) : Int :=
  if gtF (unW f b p) s = true then (if id = 0 then shareV f b p else if id = 1 then min (max (bnd b - partV (bnd f + bnd b) p) 0) (bnd b) else 0) else 0
theorem giv_range (p s : Nat) (id f b : Int) : 0 ≤ givV p s id f b ∧ givV p s id f b ≤ 1073741824 ∧ (id = 0 → 0 ≤ f → givV p s id f b ≤ f) ∧ (id = 1 → 0 ≤ b → givV p s id f b ≤ b) ∧ (id ≠ 0 → id ≠ 1 → givV p s id f b = 0) := by
  have h1 := bnd_range f
  have h2 := bnd_range b
  have h3 : 0 ≤ f → bnd f ≤ f := fun h => by unfold bnd; omega
  have h4 : 0 ≤ b → bnd b ≤ b := fun h => by unfold bnd; omega
  unfold givV shareV
  generalize partV (bnd f + bnd b) p = x
  split
  · split
    · refine ⟨by omega, by omega, fun _ h => ?_, fun h => by omega, fun h => absurd (by assumption) h⟩
      have := h3 h; omega
    · split
      · refine ⟨by omega, by omega, fun h => absurd h (by assumption), fun _ h => ?_, fun _ h => absurd (by assumption) h⟩
        have := h4 h; omega
      · exact ⟨by omega, by omega, fun h => absurd h (by assumption), fun h => absurd h (by assumption), fun _ _ => rfl⟩
  · exact ⟨by omega, by omega, fun _ h => h, fun _ h => h, fun _ _ => rfl⟩
theorem bnd_id {n : Int} (h0 : 0 ≤ n) (h1 : n ≤ 1073741824) : bnd n = n := by unfold bnd; omega
/-- Both, of the same numbers: at most one gives; behind that neither does. -/
theorem giv_once (p s : Nat) {f b : Int} (hf : 0 ≤ f) (hb : 0 ≤ b) (ht : f + b ≤ 1073741824) :
    ¬ (0 < givV p s 0 f b ∧ 0 < givV p s 1 f b) ∧ givV p s 0 (f - givV p s 0 f b + givV p s 1 f b) (b + givV p s 0 f b - givV p s 1 f b) = 0 ∧ givV p s 1 (f - givV p s 0 f b + givV p s 1 f b) (b + givV p s 0 f b - givV p s 1 f b) = 0 := by
  have hP := partV_range (f + b) p
  have ef := bnd_id hf (by omega)
  have eb := bnd_id hb (by omega)
  obtain ⟨P, hPd⟩ : ∃ P, P = partV (f + b) p := ⟨_, rfl⟩
  rw [← hPd] at hP
  have hP1 : P ≤ f + b := by omega
  have key : ∀ f' b' : Int, 0 ≤ f' → 0 ≤ b' → f' + b' = f + b → b' = P → givV p s 0 f' b' = 0 ∧ givV p s 1 f' b' = 0 := by
    intro f' b' h0 h1 h2 h3
    have ef' := bnd_id h0 (by omega)
    have eb' := bnd_id h1 (by omega)
    unfold givV shareV
    rw [ef', eb', h2, ← hPd]
    constructor <;> split <;> first | rfl | (rw [if_pos rfl]; omega) | (rw [if_neg (by decide), if_pos rfl]; omega)
  cases hg : gtF (unW f b p) s
  · have e0 : givV p s 0 f b = 0 := by unfold givV; rw [hg]; rfl
    have e1 : givV p s 1 f b = 0 := by unfold givV; rw [hg]; rfl
    rw [e0, e1, show f - 0 + 0 = f by omega, show b + 0 - 0 = b by omega]
    exact ⟨by omega, e0, e1⟩
  · have e0 : givV p s 0 f b = min (max (P - b) 0) f := by unfold givV shareV; rw [hg, if_pos rfl, if_pos rfl, ef, eb, ← hPd]
    have e1 : givV p s 1 f b = min (max (b - P) 0) b := by unfold givV; rw [hg, if_pos rfl, if_neg (by decide), if_pos rfl, ef, eb, ← hPd]
    rw [e0, e1]
    obtain ⟨k0, k1⟩ := key (f - min (max (P - b) 0) f + min (max (b - P) 0) b) (b + min (max (P - b) 0) f - min (max (b - P) 0) b) (by omega) (by omega) (by omega) (by omega)
    exact ⟨by omega, k0, k1⟩
/-- One behind the other: the second one counts what the first one gave; then neither gives. -/
theorem giv_turns (p s : Nat) {f b : Int} (hf : 0 ≤ f) (hb : 0 ≤ b) (ht : f + b ≤ 1073741824) (a c : Int) (ha : a = givV p s 0 f b) (hc : c = givV p s 1 (f - a) (b + a)) :
    givV p s 0 (f - a + c) (b + a - c) = 0 ∧ givV p s 1 (f - a + c) (b + a - c) = 0 := by
  obtain ⟨_, o0, o1⟩ := giv_once p s hf hb ht
  obtain ⟨a0, _, a1, _⟩ := giv_range p s 0 f b
  have a1 := a1 rfl hf
  obtain ⟨c0, _, _, c1, _⟩ := giv_range p s 1 (f - a) (b + a)
  rw [← ha] at a0 a1
  have c1 := c1 rfl (by omega)
  rw [← hc] at c0 c1
  obtain ⟨d0, _⟩ := giv_range p s 1 f b
  by_cases h : a = 0
  · have e : givV p s 1 f b = c := by rw [hc, h, show f - 0 = f by omega, show b + 0 = b by omega]
    rw [← ha, e] at o0 o1
    exact ⟨o0, o1⟩
  · obtain ⟨n, _, _⟩ := giv_once p s hf hb ht
    have e : givV p s 1 f b = 0 := by
      rw [← ha] at n
      omega
    rw [← ha, e] at o0 o1
    rw [show f - a + 0 = f - a by omega, show b + a - 0 = b + a by omega] at o0 o1
    have hc0 : c = 0 := by rw [hc]; exact o1
    rw [hc0, show f - a + 0 = f - a by omega, show b + a - 0 = b + a by omega]
    exact ⟨o0, o1⟩
/-- Which addresses the server id gives. -/
def chV (p s : Nat) (id : Int) (L : List LV) : List Nat :=
  topA (givV p s id ((L.countP fun y => y.bind == 0 : Nat) : Int) ((L.countP fun y => y.bind == 1 : Nat) : Int)).toNat (if id = 0 ∨ id = 1 then ownA id L else [])
/-- How many: never more than there are. -/
theorem ch_fits (p s : Nat) (id : Int) (L : List LV) : (givV p s id ((L.countP fun y => y.bind == 0 : Nat) : Int) ((L.countP fun y => y.bind == 1 : Nat) : Int)).toNat ≤ (if id = 0 ∨ id = 1 then ownA id L else []).length := by
  obtain ⟨h0, _, h1, h2, h3⟩ := giv_range p s id ((L.countP fun y => y.bind == 0 : Nat) : Int) ((L.countP fun y => y.bind == 1 : Nat) : Int)
  by_cases i0 : id = 0
  · rw [if_pos (.inl i0), ownA_length, i0]
    have := h1 i0 (Int.natCast_nonneg _)
    rw [i0] at this h0
    omega
  · by_cases i1 : id = 1
    · rw [if_pos (.inr i1), ownA_length, i1]
      have := h2 i1 (Int.natCast_nonneg _)
      rw [i1] at this h0
      omega
    · rw [h3 i0 i1]
      exact Nat.zero_le _
theorem ch_length (p s : Nat) (id : Int) (L : List LV) : (chV p s id L).length = (givV p s id ((L.countP fun y => y.bind == 0 : Nat) : Int) ((L.countP fun y => y.bind == 1 : Nat) : Int)).toNat := topA_length (ch_fits p s id L)
theorem ch_own {p s : Nat} {id : Int} {L : List LV} (h : id = 0 ∨ id = 1) : ∃ n, chV p s id L = topA n (ownA id L) := ⟨_, by unfold chV; rw [if_pos h]⟩
end Go.Proofs.Ytablffjhipgfbaa
end

/- Two floats in a block of their own: an array of two, a plan of either kind; the document's Gives. -/
section
namespace Go.Proofs.Ytablffjhipgfbaa
open Ieee Go.RowKit Go.Sort Flo

/-- Block g holds two floats. -/
def F2 (t : TypeId) (w : World) (g : Nat) (p s : Nat) : Prop := w.heap[g]? = some (.cells #[.float .f64 p, .float .f64 s] t (0, 0))
abbrev f2v (p s : Nat) : Value := .agg #[.float .f64 p, .float .f64 s]
abbrev f2box (t : TypeId) (p s : Nat) : Obj := .cells #[.float .f64 p, .float .f64 s] t
section
variable {w w' : World} {g : Nat} {p s : Nat} {t : TypeId}
theorem F2.new (w : World) (t : TypeId) (p s : Nat) : F2 t (w.alloc (f2box t p s)) w.heap.size p s := heap_alloc_new w _
theorem F2.lt (h : F2 t w g p s) : g < w.heap.size := (Array.getElem?_eq_some_iff.1 h).1
theorem F2.later (h : F2 t w g p s) (hb : Below w.heap.size w w') : F2 t w' g p s := (hb.block g h.lt).trans h
theorem F2.alloc (h : F2 t w g p s) (o : Obj) : F2 t (w.alloc o) g p s := h.later ((Below.refl _ _).alloc (Nat.le_refl _) o)
theorem F2.drew (h : F2 t w g p s) : F2 t w.drew g p s := h
theorem F2.drewN (h : F2 t w g p s) (n : Nat) : F2 t (w.drewN n) g p s := h
theorem F2.at_ (h : F2 t w g p s) (i : Nat) : w.cell? ⟨g, i, none⟩ = (#[.float .f64 p, .float .f64 s] : Array Value)[i]? := cell_of_row w g i _ _ _ h
theorem F2.c0 (h : F2 t w g p s) : w.cell? ⟨g, 0, none⟩ = some (.float .f64 p) := h.at_ 0
theorem F2.c1 (h : F2 t w g p s) : w.cell? ⟨g, 1, none⟩ = some (.float .f64 s) := h.at_ 1
theorem F2.allR (h : F2 t w g p s) : (∀ (d : Nat) (os : Array Obj), (grow (redrawn w d) os).cell? ⟨g, 0, none⟩ = some (.float .f64 p)) ∧ (∀ (d : Nat) (os : Array Obj), (grow (redrawn w d) os).cell? ⟨g, 1, none⟩ = some (.float .f64 s)) := ⟨cell_regrown h.c0, cell_regrown h.c1⟩
theorem F2.free (h : F2 t w g p s) (i : Nat) : w.frozen? ⟨g, i, none⟩ = false := by
  simp [World.frozen?, (show w.heap[g]? = _ from h)]
end

theorem bnd_bnd (n : Int) : bnd (bnd n) = bnd n := by unfold bnd; omega
theorem quiet_same {f : FuncId} {args : Array Value} {v : Value} (h : ∀ W, Calls Try.prog f args W fun e w' => e = .returned v ∧ W = w') (w : World) (n : Nat) : Calls Try.prog f args (w.drewN n) fun e w'' => e = .returned v ∧ ∃ m, w'' = w.drewN m :=
  Calls.quiet_of_same ((h _).mono fun _ _ ⟨a, b⟩ => ⟨a, b.symm⟩)
theorem drewN_low {w0 w : World} (h : Below w0.heap.size w0 w) (n : Nat) : Below w0.heap.size w0 (w.drewN n) := ⟨h.os, h.tape, h.output, h.size, h.block⟩

end Go.Proofs.Ytablffjhipgfbaa
end

/- Addresses as elements of slices; the document's Same. -/
section
namespace Go.Proofs.Ytablffjhipgfbaa
open Go.RowKit Go.Sort

/-- Addresses as elements of slices. -/
def ElemA : Elem Try.prog Nat where
  e := 30
  ty := 41
  m := 1
  bytes := 4
  zero := .int .u32 0
  cells := fun x => [.int .u32 (x : Int)]
  hm := by decide
  hb0 := by decide
  hb := by decide
  len := fun _ => rfl
  one := fun v u hu => by
    simp at hu
    subst hu
    rfl
  und := Try.underlying41
  info := by kernel_rfl
  hz := rfl
theorem ecellsA (l : List Nat) : ecells ElemA l = l.map fun x => .int .u32 (x : Int) := by
  induction l with
  | nil => rfl
  | cons x r ih => rw [ecells_cons, ih]; rfl
section
variable {w w' : World} {B : Nat} {A : Option Addr} {l : List Nat}
theorem El.at1 (h : El ElemA w B A l) (i : Nat) (x : Nat) (hx : l[i]? = some x) : ∃ b o, A = some ⟨b, o, none⟩ ∧ b < B ∧ w.cell? ⟨b, o + i, none⟩ = some (.int .u32 (x : Int)) := by
  obtain ⟨b, o, h1, h2, h3⟩ := h.at_ i x hx
  have h4 := h3 0 _ rfl
  rw [show ElemA.m = 1 from rfl, Nat.mul_one] at h4
  exact ⟨b, o, h1, h2, h4⟩
end
/-- Addresses are answered that lie in what was made since. -/
def GivesA (w : World) (xs : List Nat) (e : Ending) (w' : World) : Prop :=
  ∃ A c, e = .returned (.slice A xs.length c) ∧ xs.length ≤ c ∧ El ElemA w' w'.heap.size A xs ∧ (∀ ad, A = some ad → w.heap.size ≤ ad.block) ∧ Below w.heap.size w w'

end Go.Proofs.Ytablffjhipgfbaa
end

/- What is asked of the program's pool, whatever it is made of (PoolK); lessorlaw17.plans, awake. -/
section
namespace Go.Proofs.Ytablffjhipgfbaa
open Go.RowKit Go.Sort Flo

/-- A float is stored as any other cell. -/
theorem run_store_flt {P : Program} {w : World} {a : Addr} {m : Mode} (k : FloatKind) (b : Nat) : (store a (.float k b) m).run P w = stored P w a (.float k b) m := run_store P w a _ m rfl
attribute [local go_sem] run_store_flt

/-- What the program's plan does. -/
structure PoolK : Prop where
  giv : ∀ (p s : Nat) (id f b : Int) (W : World), Calls Try.prog 19 #[f2v p s, .int .i64 id, .int .i64 f, .int .i64 b] W fun e w' => e = .returned (.int .i64 (givV p s id f b)) ∧ Below W.heap.size W w'
  cho : ∀ (p s : Nat) (id : Int) (A : Option Addr) (c : Nat) (L : List LV) (W : World), El ElemL W W.heap.size A L → L.length ≤ 300 →
    Calls Try.prog 7 #[f2v p s, .int .i64 id, .slice A L.length c] W (GivesA W (chV p s id L))

theorem qbk {f : FuncId} {args : Array Value} {v : Value} (h : ∀ V, Calls Try.prog f args V fun e w' => e = .returned v ∧ Below V.heap.size V w') (w : World) (d : Nat) (os : Array Obj) : Calls Try.prog f args (grow (redrawn w d) os) fun e w'' => e = .returned v ∧ ∃ p : Regrown, w'' = grow (redrawn w p.d) p.os :=
  Calls.regrown_of (h _)

/-- A plan is laid into a box, cell by cell. -/
def storeP (W : World) (g p s : Nat) : World := (W.setCell ⟨g, 0, none⟩ (.float .f64 p)).setCell ⟨g, 1, none⟩ (.float .f64 s)
theorem storeP_box {W : World} {t : TypeId} {g p0 s0 : Nat} (h : F2 t W g p0 s0) (p s : Nat) : F2 t (storeP W g p s) g p s := by
  have one : ∀ (V : World) (cs : Array Value) (i : Nat) (u : Value), V.heap[g]? = some (.cells cs t (0, 0)) → (V.setCell ⟨g, i, none⟩ u).heap[g]? = some (.cells (cs.setIfInBounds i u) t (0, 0)) := fun V cs i u hV => by
    show (V.heap.modify g _)[g]? = _
    rw [Array.getElem?_modify, if_pos rfl, hV]
    rfl
  exact one _ _ 1 _ (one _ _ 0 _ h)
theorem F2.storeP {W : World} {t : TypeId} {g k p0 s0 p s : Nat} (h : F2 t W g p0 s0) (hk : g ≠ k) : F2 t (storeP W k p s) g p0 s0 :=
  (Below.heap_setCell _ ⟨k, 1, none⟩ _ g hk).trans ((Below.heap_setCell _ ⟨k, 0, none⟩ _ g hk).trans h)
theorem storeP_low (W : World) (B g : Nat) (hg : B ≤ g) (p s : Nat) : Below B W (storeP W g p s) := ((Below.refl B W).setCell (p := ⟨g, 0, none⟩) hg _).setCell (p := ⟨g, 1, none⟩) hg _

theorem aw_one : givV HALF TENTH 0 10 0 = 5 := by
  unfold givV unW
  rw [show bnd 10 = 10 from by decide, show bnd 0 = 0 from by decide, un_10_0, gt_half, if_pos rfl, if_pos rfl]
  exact half_share
theorem aw_two : givV HALF TENTH 1 0 10 = 5 := by
  unfold givV unW
  rw [show bnd 10 = 10 from by decide, show bnd 0 = 0 from by decide, un_0_10, gt_half, if_pos rfl, if_neg (by decide), if_pos rfl, show (0 : Int) + 10 = 10 from rfl, half_part10]
  decide
theorem aw_three : givV HALF TENTH 0 5 5 = 0 := by
  unfold givV unW
  rw [show bnd 5 = 5 from by decide, un_5_5, gt_nought]
  rfl

end Go.Proofs.Ytablffjhipgfbaa
end
