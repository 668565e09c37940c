/- message.name and message.walk with any step. -/
import Derived.Test.YtfikdocpcepmmaaMsgS
namespace Go.Proofs.Ytfikdocpcepmmaa
open Go.RowKit

/-- Block g holds just these bytes. -/
def BB (w : World) (g : Nat) (l : List UInt8) : Prop := w.heap[g]? = some (.cells (bcells l).toArray 5 (0, 0))
section
variable {w w' : World} {g : Nat} {l : List UInt8}
theorem BB.lt (h : BB w g l) : g < w.heap.size := (Array.getElem?_eq_some_iff.1 h).1
theorem BB.kp {P : Nat → Prop} (h : BB w g l) (hk : Kp P w w') (hg : P g) : BB w' g l := (hk.block g hg).trans h
theorem BB.cell (h : BB w g l) {i : Nat} {x : UInt8} (hx : l[i]? = some x) : w.cell? ⟨g, i, none⟩ = some (bV x) := by
  rw [cell_of_row w g i _ _ _ h]
  simp [bcells, hx]
theorem BB.free (h : BB w g l) (i : Nat) : w.frozen? ⟨g, i, none⟩ = false := by
  simp [World.frozen?, (show w.heap[g]? = _ from h)]
theorem BB.store (h : BB w g l) (i : Nat) (x : UInt8) : BB (w.setCell ⟨g, i, none⟩ (bV x)) g (l.set i x) := by
  unfold BB at h ⊢
  rw [← bcells_set]
  show (w.heap.modify g _)[g]? = _
  rw [Array.getElem?_modify, if_pos rfl, h]
  simp
theorem BB.by_ (h : BB w g l) : By w w.heap.size (some ⟨g, 0, none⟩) l :=
  ⟨fun i x hx => ⟨g, 0, rfl, h.lt, by rw [Nat.zero_add]; exact h.cell hx⟩⟩
theorem BB.made (w : World) (k : Nat) : BB (w.alloc (.cells (madeCells #[.int .u8 0] k) 5)) w.heap.size (List.replicate k 0) := by
  have h := heap_alloc_new w (.cells (madeCells #[.int .u8 0] k) 5)
  have e : (bcells (List.replicate k 0)).toArray = madeCells #[.int .u8 0] k := by
    apply Array.ext'
    rw [toList_madeCells_one]
    simp [bcells, bV]
  unfold BB
  rw [e]
  exact h
end

set_option maxRecDepth 100000 in
/-- A text copied over noughts. -/
theorem run_copyS (w : World) (ty : TypeId) (g k c : Nat) (x : ByteArray) (hb : BB w g (List.replicate k 0)) :
    ∃ w', (Builtin.copy_ #[72, 9] ty #[.slice (some ⟨g, 0, none⟩) k c, .string x]).run Try.prog w = .ok (goInt (Nat.min x.size k)) w' ∧ BB w' g (x.data.toList.take k ++ List.replicate (k - x.data.toList.length) 0) ∧ Kp (· ≠ g) w w' ∧ w'.heap.size = w.heap.size := by
  obtain ⟨i, hi, hz0, hz1, hz2⟩ := info_parts Try.infoB
  have hxs : x.size = x.data.toList.length := (Array.length_toList (xs := x.data)).symm
  have hcs : List.take (x.size.min k) (List.map (fun b => Value.int IntKind.u8 ↑b.toNat) x.data.toList) = bcells (x.data.toList.take k) := by
    unfold bcells
    rw [← List.map_take]
    congr 1
    rw [hxs]
    show List.take (min x.data.toList.length k) _ = _
    rw [Nat.min_def]
    split
    · rw [List.take_of_length_le (Nat.le_refl _), List.take_of_length_le (by omega)]
    · rfl
  have hst := run_storeCells_at Try.prog g 0 5 (bcells (x.data.toList.take k)) 0 _ w hb (by simp [bcells]; omega) (bcells_one _)
  have hrun : (Builtin.copy_ #[72, 9] ty #[.slice (some ⟨g, 0, none⟩) k c, .string x]).run Try.prog w = .ok (goInt (Nat.min x.size k)) (w.setRow g ((bcells (List.replicate k 0)).take 0 ++ bcells (x.data.toList.take k) ++ (bcells (List.replicate k 0)).drop (bcells (x.data.toList.take k)).length).toArray) := by
    simp only [Nat.add_zero, Nat.zero_add] at hst
    simp [Builtin.copy_, run_underlying Try.underlying72, Builtin.lenOf, sizeOf, typeInfo, hi, Builtin.firstCells, hcs]
    simpa using congrArg (fun r => r.andThen fun _ w' => Result.ok (goInt ↑(x.size.min k)) w') hst
  have hk : (bcells (x.data.toList.take k)).length = min k x.data.toList.length := by simp [bcells]
  refine ⟨_, hrun, ?_, ⟨rfl, rfl, rfl, by simp [World.setRow], fun j hj => setRow_other w g j _ (by omega)⟩, by simp [World.setRow]⟩
  unfold BB
  rw [setRow_heap w g _ _ _ _ hb]
  congr 2
  rw [bcells_append, hk]
  simp [bcells, List.drop_replicate]
  omega

section
variable {σ : Type}
/-- What a step does: a number comes of a number, its size and its range. -/
abbrev StepF (σ : Type) := σ → Int → Nat → Int → Int → Int × σ

/-- The function f, with what it has captured, is a step: I is what it lives on (n: as many calls as may come yet; P: the blocks that it leaves alone), and N says which numbers it takes. -/
structure Steps (base : Nat) (f : FuncId) (bs : Array Value) (st : StepF σ) (N : Int → Prop) (I : Nat → (Nat → Prop) → σ → World → Prop) : Prop where
  enters : ∀ args w, (callFunc f args).run Try.prog w = .ok (.enter f args) w
  lt : ∀ {n P s W}, I n P s W → ∀ k, P k → k < W.heap.size
  ext : ∀ {n P s W} (o : Obj), I n P s W → I n (fun k => P k ∨ k = W.heap.size) s (W.alloc o)
  keep : ∀ {n P s W W'}, I n P s W → W.heap.size ≤ W'.heap.size → (∀ k, k < W.heap.size → k < base ∨ ¬ P k → W'.heap[k]? = W.heap[k]?) → I n P s W'
  weak : ∀ {n P P' s W}, I n P s W → (∀ k, P' k → P k) → I n P' s W
  less : ∀ {n m P s W}, I n P s W → m ≤ n → I m P s W
  call : ∀ {n P s W} (x : Int) (size : Nat) (lo hi : Int), I (n + 1) P s W → N x → size ≤ 6 →
    Calls Try.prog f (#[.int .i64 x, .int .i64 (size : Int), .int .i64 lo, .int .i64 hi] ++ bs) W fun e W' => e = .returned (.int .i64 (st s x size lo hi).1) ∧ I n P (st s x size lo hi).2 W' ∧ Kp P W W'

/-- All bytes of a name. -/
def runG (st : StepF σ) : σ → List UInt8 → List UInt8 × σ
  | s, [] => ([], s)
  | s, c :: r => (UInt8.ofNat ((st s (c.toNat : Int) 1 0 255).1 % 256).toNat :: (runG st (st s (c.toNat : Int) 1 0 255).2 r).1, (runG st (st s (c.toNat : Int) 1 0 255).2 r).2)
theorem runG_snoc (st : StepF σ) (s : σ) (l : List UInt8) (c : UInt8) : runG st s (l ++ [c]) = ((runG st s l).1 ++ [UInt8.ofNat ((st (runG st s l).2 (c.toNat : Int) 1 0 255).1 % 256).toNat], (st (runG st s l).2 (c.toNat : Int) 1 0 255).2) := by
  induction l generalizing s with
  | nil => rfl
  | cons x r ih => simp only [List.cons_append, runG, ih]
theorem runG_length (st : StepF σ) (s : σ) (l : List UInt8) : (runG st s l).1.length = l.length := by
  induction l generalizing s with
  | nil => rfl
  | cons x r ih => simp [runG, ih]
/-- The name as it is laid ahead of the walk over its bytes. -/
def padL (l : List UInt8) (k : Nat) : List UInt8 := l.take k ++ List.replicate (k - l.length) 0
theorem padL_length (l : List UInt8) (k : Nat) : (padL l k).length = k := by simp [padL]; omega
def nameG (st : StepF σ) (s : σ) (old : ByteArray) : ByteArray × σ :=
  (⟨(runG st (st s (old.size : Int) 1 0 32).2 (padL old.data.toList (st s (old.size : Int) 1 0 32).1.toNat)).1.toArray⟩, (runG st (st s (old.size : Int) 1 0 32).2 (padL old.data.toList (st s (old.size : Int) 1 0 32).1.toNat)).2)

section
variable {base : Nat} {f : FuncId} {bs : Array Value} {st : StepF σ} {N : Int → Prop} {I : Nat → (Nat → Prop) → σ → World → Prop}

set_option maxRecDepth 100000 in
set_option maxHeartbeats 1000000 in
theorem name_any (S : Steps base f bs st N I) (old : ByteArray) (hN0 : N (old.size : Int)) (hNb : ∀ c : UInt8, N (c.toNat : Int)) (s : σ) (hlen : ∃ k : Nat, (st s (old.size : Int) 1 0 32).1 = k ∧ k ≤ 255) (P : Nat → Prop) (w : World) (hI : I 256 P s w) (hb : base ≤ w.heap.size) :
    Calls Try.prog 32 #[.string old, .func (.func f) #[] bs] w fun e w' => e = .returned (.string (nameG st s old).1) ∧ I 0 P (nameG st s old).2 w' ∧ Kp P w w' := by
  have hen := S.enters
  have hoz : old.data.toList.length = old.size := Array.length_toList (xs := old.data)
  have HC := Lib.hid (S.call (old.size : Int) 1 0 32 hI hN0 (by omega))
  obtain ⟨q, hq⟩ : ∃ q, q = st s (old.size : Int) 1 0 32 := ⟨_, rfl⟩
  have HR : Hid (nameG st s old = (⟨(runG st q.2 (padL old.data.toList q.1.toNat)).1.toArray⟩, (runG st q.2 (padL old.data.toList q.1.toNat)).2)) := Lib.hid (by unfold nameG; rw [← hq])
  obtain ⟨k, hk, hk255⟩ := hlen
  rw [← hq] at HC hk
  obtain ⟨q1, q2⟩ := q
  obtain rfl : q1 = (k : Int) := hk
  clear hq
  have hmk := run_makeF k (by omega)
  have HS := Lib.hid S
  have HNb := Lib.hid hNb
  have HI0 := Lib.hid hI
  clear S hNb hI
  go_enter Try.func32, Try.ntmps32
  go_wp2_with fail
  refine HC.out.mono ?_
  rintro e w1 ⟨rfl, hI1, hK1⟩
  have HI1 := Lib.hid hI1
  have HK1 := Lib.hid hK1
  clear hI1 hK1 HC
  have hb1 : base ≤ w1.heap.size := Nat.le_trans hb HK1.out.size
  obtain ⟨w2, hrun, hB2, hK2, hz2⟩ := run_copyS (w1.alloc (.cells (madeCells #[.int .u8 0] k) 5)) 3 w1.heap.size k k old (BB.made w1 k)
  have HB2 := Lib.hid hB2
  have HK2 := Lib.hid hK2
  have HZ2 := Lib.hid hz2
  clear hB2 hK2 hz2
  obtain ⟨g, hg⟩ : ∃ g, g = w1.heap.size := ⟨_, rfl⟩
  obtain ⟨pl, hpl⟩ : ∃ pl, pl = padL old.data.toList k := ⟨_, rfl⟩
  have hpn : pl.length = k := by rw [hpl, padL_length]
  have HP := Lib.hid hpl
  have hgb : base ≤ g := by omega
  have HB3 : Hid (BB w2 g pl) := Lib.hid (by rw [hpl, hg]; exact HB2.out)
  have hn1 : ∀ j, P j → j < w1.heap.size := HS.out.lt HI1.out
  have hn0 : ∀ j, P j → j < w.heap.size := HS.out.lt HI0.out
  have HI2 : Hid (I 255 (fun j => P j ∨ j = g) q2 w2) := Lib.hid (by
    have h1 := HS.out.ext (.cells (madeCells #[.int .u8 0] k) 5) HI1.out
    rw [hg]
    refine HS.out.keep h1 (by rw [HZ2.out]; exact Nat.le_refl _) fun j hj hj2 => HK2.out.block j ?_
    rcases hj2 with h | h
    · omega
    · exact fun e => h (.inr e))
  have HK3 : Hid (Kp P w w2) := Lib.hid ((HK1.out.alloc hn0 _).trans (HK2.out.weak fun j hj => by have := hn1 j hj; show j ≠ w1.heap.size; omega))
  have HN1 := Lib.hid hn1
  have HN0 := Lib.hid hn0
  have HG := Lib.hid hg
  clear hpl hn1 hn0
  go_wp2
  rw [← HG.out]
  clear hg hrun hmk
  go_loopw [18] (fun i wr => ∃ j : Nat, j ≤ k ∧ i = .int .i64 j ∧ I (255 - j) (fun j => P j ∨ j = g) (runG st q2 (pl.take j)).2 wr ∧ BB wr g ((runG st q2 (pl.take j)).1 ++ pl.drop j) ∧ Kp P w wr) (fun i _ => k - (intOf i).toNat)
  case atStart => exact ⟨0, Nat.zero_le _, rfl, HI2.out, HB3.out, HK3.out⟩
  case round =>
    obtain ⟨j, hj, rfl, hIj, hBj, hKj⟩ := hrel
    have HIj := Lib.hid hIj
    have HBj := Lib.hid hBj
    have HKj := Lib.hid hKj
    clear hIj hBj hKj
    by_cases hlt : j < k
    · obtain ⟨x, hx⟩ : ∃ x, pl[j]? = some x := ⟨_, List.getElem?_eq_getElem (by omega)⟩
      obtain ⟨s1, hs1⟩ : ∃ s1, s1 = (runG st q2 (pl.take j)).2 := ⟨_, rfl⟩
      obtain ⟨d1, hd1⟩ : ∃ d1, d1 = (runG st q2 (pl.take j)).1 := ⟨_, rfl⟩
      have hdl : d1.length = j := by rw [hd1, runG_length, List.length_take]; omega
      have HIk : Hid (I (254 - j + 1) (fun j => P j ∨ j = g) s1 wr) := Lib.hid (by have h := HIj.out; rw [hs1, show 254 - j + 1 = 255 - j by omega]; exact h)
      have HBk : Hid (BB wr g (d1 ++ pl.drop j)) := Lib.hid (by rw [hd1]; exact HBj.out)
      have hcell := HBk.out.cell (i := j) (x := x) (by rw [List.getElem?_append_right (by omega), hdl, List.getElem?_drop]; simpa using hx)
      have HC := Lib.hid (HS.out.call (x.toNat : Int) 1 0 255 HIk.out (HNb.out x) (by omega))
      have HSn : Hid ((runG st q2 (pl.take (j + 1))) = (d1 ++ [UInt8.ofNat ((st s1 (x.toNat : Int) 1 0 255).1 % 256).toNat], (st s1 (x.toNat : Int) 1 0 255).2)) := Lib.hid (by rw [take_snoc_of pl j x hx, runG_snoc, ← hs1, ← hd1])
      obtain ⟨r, hr⟩ : ∃ r, r = st s1 (x.toNat : Int) 1 0 255 := ⟨_, rfl⟩
      rw [← hr] at HC HSn
      have hwr : r.1 % 256 = ((UInt8.ofNat (r.1 % 256).toNat).toNat : Int) := by
        rw [UInt8.toNat_ofNat']
        omega
      have hdr : pl.drop j = x :: pl.drop (j + 1) := by rw [List.drop_eq_getElem_cons (by omega)]; congr 1; rw [List.getElem?_eq_getElem (by omega)] at hx; exact Option.some.inj hx
      have HDR := Lib.hid hdr
      have HW := Lib.hid hwr
      have HDL := Lib.hid hdl
      clear hr hs1 hd1 hx hdr hwr hdl
      have hxx := x.toNat_lt
      go_wp2_with fail
      refine HC.out.mono ?_
      rintro e w3 ⟨rfl, hI3, hK3⟩
      have HI3 := Lib.hid hI3
      have HK4 := Lib.hid hK3
      have hB3 := HBk.out.kp hK3 (.inr rfl)
      have hc3 := hB3.cell (i := j) (x := x) (by rw [List.getElem?_append_right (by have := HDL.out; omega), HDL.out, HDR.out]; simp)
      have hf3 := hB3.free j
      have HB4 := Lib.hid hB3
      clear hI3 hK3 hB3 hcell
      go_wp2
      rw [HW.out]
      have hgw : g < w3.heap.size := HB4.out.lt
      go_roundw
      case rel =>
        refine ⟨j + 1, by omega, by go_num, ?_, ?_, ?_⟩
        · rw [HSn.out]
          refine HS.out.keep (W := w3) (by rw [show 255 - (j + 1) = 254 - j by omega]; exact HI3.out) (by rw [World.size_setCell]; exact Nat.le_refl _) fun i hi hi2 => Below.heap_setCell _ _ _ i ?_
          rcases hi2 with h | h
          · show i ≠ g; omega
          · exact fun e => h (.inr e)
        · have h := HB4.out.store j (UInt8.ofNat (r.1 % 256).toNat)
          rw [HSn.out]
          rw [List.set_append_right _ _ (by have := HDL.out; omega), HDL.out, HDR.out, Nat.sub_self, List.set_cons_zero] at h
          rw [List.append_assoc]
          exact h
        · exact (HKj.out.trans (HK4.out.weak fun i hi => .inl hi)).set (fun h => by have := HN1.out _ h; have := HG.out; simp at *; omega) _
      case measure => simp [intOf]; omega
    · obtain rfl : j = k := by omega
      rw [List.take_of_length_le (by omega), List.drop_of_length_le (by omega), List.append_nil] at HBj
      rw [List.take_of_length_le (by omega)] at HIj
      have hbl : (runG st q2 pl).1.length = j := by rw [runG_length]; exact hpn
      have hstr := str_run (w := wr) j HBj.out.by_
      rw [hbl] at hstr
      go_wp2
      go_ret
      rw [HR.out, Int.toNat_natCast, ← HP.out]
      exact ⟨rfl, HS.out.weak (HS.out.less HIj.out (Nat.zero_le _)) fun i hi => .inl hi, HKj.out⟩
end
end
end Go.Proofs.Ytfikdocpcepmmaa
