/- Joined texts: RowByt, RowSto. -/
import Derived.Test.YtalmjmhbpmhokaaGreatRows
import Derived.Test.YtalmjmhbpmhokaaGreatMrgBasM
import Derived.ProofKit
import Derived.OpenShut
import Derived.Deep.SlicePairs
import Derived.Deep.DeepHandedRow
import Derived.Deep.Slices
import Derived.Test.YtalmjmhbpmhokaaGreatMrgStoS
import Derived.Lib.SmallJoins

/- From a walk to a row: the last steps that every law of this seat shares; arguments that are bytes, opened. (RowOpt without options.) -/
section
namespace Go.Proofs.YtalmjmhbpmhokaaGreat
open Go.ChangeShapes Go.WideShapes Go.ChangeAt Go.RowKit

section
variable {H : Type} {enc : TypeId × Value → H} {P : Program}

theorem trodAll_stays {W W' : World} {sp : Nat → Bool} (hl : laidOutB P = true) (hb : Below W.heap.size W W') : ∀ (ts : List TypeId) (vs : List Value) (ds : List (DataW H)) (ps : List MemPlace),
    (∀ t ∈ ts, P.readableRec t = true ∧ t < P.types.size) → (∀ x ∈ ps, x.block < W.heap.size) → (∀ x ∈ ps, sp x.block = true) →
    DataW.TrodAll enc P W 0 (fun _ => true) true ts vs ds ps → DataW.TrodAll enc P W' 0 sp true ts vs ds ps := by
  intro ts
  induction ts with
  | nil =>
    intro vs ds ps _ _ _ h
    obtain ⟨rfl, rfl, rfl⟩ := trodAll_nil h
    exact trodAll_mk0
  | cons t ts ih =>
    intro vs ds ps ht hlt hsp h
    obtain ⟨v, vs', d, ds', p, q, rfl, rfl, rfl, h1, h2⟩ := trodAll_cons h
    have ht0 := ht t (by simp)
    refine trodAll_cons_mk (WideElems.Trod_stays hl ht0.1 ht0.2 h1 (fun x hx => hb.same (hlt x (by simp [hx]))) (fun x hx => hsp x (by simp [hx]))) ?_
    exact ih vs' ds' q (fun t' h' => ht t' (by simp [h'])) (fun x hx => hlt x (by simp [hx])) (fun x hx => hsp x (by simp [hx])) h2

/-- A law's row behind its walk: true was answered, and what lay is as it was. -/
theorem law_post {f : Func} {s : ChangeSpec} {W W' : World} {args : Array Value} {ds gs : List (DataW H)} {before : List MemPlace} {tb : TypeId}
    (hW : DataW.Whole enc P f.params.toList s.vars false W args.toList ds gs before) (hvars : s.vars = []) (hfn : s.fn H ds = { results := [.lit (.bool true)], args := ds })
    (hl : laidOutB P = true) (hp : ∀ t ∈ f.params.toList, P.readableRec t = true ∧ t < P.types.size) (hrt : f.resultTypes = #[tb]) (htb : P.underlying tb = some .bool)
    (hb : Below W.heap.size W W') : s.post enc P f false true false false W args (.bool true) W' := by
  have hlt : ∀ x ∈ before, x.block < W.heap.size := fun x hx => hW.lt x hx
  have hW' := hW
  obtain ⟨p, q, hA, hV, rfl, _, _⟩ := hW
  rw [hvars] at hV
  obtain ⟨rfl, rfl⟩ := trodVars_none hV
  simp only [List.append_nil] at hlt hW'
  refine ⟨ds, [], p, [], p, [], hW', ?_, ?_, ?_, ?_, fun h => by cases h⟩
  · rw [List.append_nil, hfn, hrt]
    exact trodAll_cons_mk (shut_bool htb _) trodAll_mk0
  · rw [List.append_nil, hfn]
    exact trodAll_stays hl hb _ _ _ _ hp hlt (fun x hx => by simpa using hlt x hx) hA
  · rw [List.append_nil, hfn, hvars]
    rfl
  · exact World.keptBut_mono (fun x hx => ⟨hx, .inr (.inl hx)⟩) (hb.frame (· ∈ p))
end


open Go.Deep
theorem own : ownKnob Tryz.prog.godebug = none := by kernel_rfl
theorem laidOut : laidOutB Tryz.prog = true := by kernel_rfl
theorem cellsB : Tryz.prog.cellsOf 5 = 1 := by kernel_rfl
theorem cellsS : Tryz.prog.cellsOf 49 = 1 := by kernel_rfl
theorem readB : Tryz.prog.readableRec 49 = true ∧ 49 < Tryz.prog.types.size := ⟨by kernel_rfl, of_decide_eq_true (by kernel_rfl)⟩
theorem readI : Tryz.prog.readableRec 3 = true ∧ 3 < Tryz.prog.types.size := ⟨by kernel_rfl, of_decide_eq_true (by kernel_rfl)⟩

section
variable {H : Type} {enc : TypeId × Value → H}

/-- A place that can be read has no spot. -/
theorem spot_none {W : World} {a : Addr} {v : Value} (h : W.cell? a = some v) : ∃ b o, a = ⟨b, o, none⟩ ∧ b < W.heap.size := by
  obtain ⟨ab, ao, asp⟩ := a
  cases asp with
  | none =>
    refine ⟨ab, ao, rfl, ?_⟩
    rcases Nat.lt_or_ge ab W.heap.size with hlt | hge
    · exact hlt
    · simp [World.cell?, Array.getElem?_eq_none hge] at h
  | some s => simp [World.cell?] at h; split at h <;> simp_all

theorem open_bytes {W : World} {fuel : Nat} {v : Value} {x : DataW H × List MemPlace} (h : DataW.trod enc Tryz.prog W 0 (fun _ => true) true fuel 49 [v] = some x) :
    ∃ A c l, v = .slice A l.length c ∧ By W W.heap.size A l ∧ l.length ≤ maxLen ∧ l.length ≤ c := by
  rcases open_slice Tryz.underlying49 h with ⟨hc, _⟩ | ⟨a, len, cap, m, k, D, Pl, hc, _, hl, hm, hmm, _, hall⟩
  · obtain rfl : v = .slice none 0 0 := by simpa using hc
    exact ⟨none, 0, [], rfl, By.nil, Nat.zero_le _, Nat.le_refl _⟩
  · obtain rfl : v = .slice (some a) len cap := by simpa using hc
    simp at hmm
    subst hmm
    rw [cellsB] at hall
    have each : ∀ i, i < len → ∃ y : UInt8, W.cell? (a.add i) = some (bV y) := by
      intro i hi
      obtain ⟨cs', h1, h2⟩ := hall i (by omega)
      obtain ⟨n0, e0, _, w0⟩ := DataW.trod_int Tryz.underlying5 h2
      obtain ⟨_, _, hat⟩ := World.cells?_some h1
      have h3 := hat 0 (by omega)
      subst e0
      simp [Lit.wf, IntKind.min, IntKind.max, IntKind.bits, IntKind.signed] at w0
      refine ⟨UInt8.ofNat n0.toNat, ?_⟩
      have e1 : ((UInt8.ofNat n0.toNat).toNat : Int) = n0 := by
        rw [UInt8.toNat_ofNat', Nat.mod_eq_of_lt (by omega)]; omega
      rw [bV, e1]
      simpa [Addr.add] using h3
    obtain ⟨f, hf⟩ := choose_lt each
    refine ⟨some a, m, (List.range len).map f, by simp, ⟨fun i x hx => ?_⟩, by simp; omega, by simpa using hl⟩
    have hi : i < len := by have := (List.getElem?_eq_some_iff.1 hx).1; simpa using this
    obtain rfl : f i = x := by simpa [hi] using hx
    obtain ⟨b, o, rfl, hb⟩ := spot_none (hf 0 (by omega))
    have hc' := hf i hi
    rw [add_at] at hc'
    exact ⟨b, o, rfl, hb, hc'⟩

end
theorem cellsI : Tryz.prog.cellsOf 3 = 1 := by kernel_rfl
end Go.Proofs.YtalmjmhbpmhokaaGreat
end

/- Arguments of stage 13's laws, opened: steps, ranges, bytes, numbers. -/
section
namespace Go.Proofs.YtalmjmhbpmhokaaGreat
open Go.Joins Go.ChangeShapes Go.WideShapes Go.ChangeAt Go.RowKit Go.Deep

theorem cellsR : Tryz.prog.cellsOf 83 = 2 := by kernel_rfl
theorem cellsA : Tryz.prog.cellsOf 43 = 1 := by kernel_rfl
theorem cellsT : Tryz.prog.cellsOf 9 = 1 := by kernel_rfl
theorem cellsM : Tryz.prog.cellsOf 45 = 8 := by kernel_rfl
theorem cellsSt : Tryz.prog.cellsOf 47 = 10 := by kernel_rfl
theorem readRg : Tryz.prog.readableRec 35 = true ∧ 35 < Tryz.prog.types.size := ⟨by kernel_rfl, of_decide_eq_true (by kernel_rfl)⟩
theorem readSt : Tryz.prog.readableRec 22 = true ∧ 22 < Tryz.prog.types.size := ⟨by kernel_rfl, of_decide_eq_true (by kernel_rfl)⟩

instance : Inhabited StS := ⟨⟨0, 0, ⟨0, 0, [], 0, 0, 0, 0, 0⟩⟩⟩
section
variable {H : Type} {enc : TypeId × Value → H}

theorem open_u32 {W : World} {t : TypeId} (ht : Tryz.prog.underlying t = some (.int .u32)) {fuel : Nat} {v : Value} {x : DataW H × List MemPlace} (h : DataW.trod enc Tryz.prog W 0 (fun _ => true) true fuel t [v] = some x) : ∃ n : Nat, v = .int .u32 (n : Int) ∧ n < 4294967296 := by
  obtain ⟨n0, e0, _, w0⟩ := DataW.trod_int ht h
  simp [Lit.wf, IntKind.min, IntKind.max, IntKind.bits, IntKind.signed] at w0
  refine ⟨n0.toNat, ?_, by omega⟩
  rw [List.singleton_inj.1 e0, Int.toNat_of_nonneg w0.1]
theorem open_i64 {W : World} {t : TypeId} (ht : Tryz.prog.underlying t = some (.int .i64)) {fuel : Nat} {v : Value} {x : DataW H × List MemPlace} (h : DataW.trod enc Tryz.prog W 0 (fun _ => true) true fuel t [v] = some x) : ∃ n : Int, v = .int .i64 n := by
  obtain ⟨n0, e0, _, _⟩ := DataW.trod_int ht h
  exact ⟨n0, List.singleton_inj.1 e0⟩
theorem open_str {W : World} {t : TypeId} (ht : Tryz.prog.underlying t = some .string) {fuel : Nat} {v : Value} {x : DataW H × List MemPlace} (h : DataW.trod enc Tryz.prog W 0 (fun _ => true) true fuel t [v] = some x) : ∃ s : ByteArray, v = .string s := by
  obtain ⟨s, e0, _⟩ := DataW.trod_string ht h
  exact ⟨s, List.singleton_inj.1 e0⟩

/-- The cells of a lease. -/
theorem lease_cells {W : World} {fuel : Nat} {cs : List Value} {x : DataW H × List MemPlace} (hc : cs.length = 8) (hf : DataW.trod enc Tryz.prog W 0 (fun _ => true) true fuel 45 cs = some x) :
    ∃ m : LV, cs = m.cells.toList ∧ m.addr < 4294967296 := by
  match cs, hc with
  | [v0, v1, v2, v3, v4, v5, v6, v7], _ =>
    obtain ⟨xs, n, _, hx, _, hlen, hg⟩ := DataW.trod_struct Tryz.underlying45 hf
    match xs, hlen with
    | [y0, y1, y2, y3, y4, y5, y6, y7], _ =>
      have g0 := hg 0 _ rfl
      simp [cellsA] at g0
      have g1 := hg 1 _ rfl
      simp [cellsI] at g1
      have g2 := hg 2 _ rfl
      simp [cellsT] at g2
      have g3 := hg 3 _ rfl
      simp [cellsI] at g3
      have g4 := hg 4 _ rfl
      simp [cellsI] at g4
      have g5 := hg 5 _ rfl
      simp [cellsI] at g5
      have g6 := hg 6 _ rfl
      simp [cellsI] at g6
      have g7 := hg 7 _ rfl
      simp [cellsI] at g7
      obtain ⟨n0, rfl, b0⟩ := open_u32 Tryz.underlying43 g0
      obtain ⟨n1, rfl⟩ := open_i64 Tryz.underlying3 g1
      obtain ⟨n2, rfl⟩ := open_str Tryz.underlying9 g2
      obtain ⟨n3, rfl⟩ := open_i64 Tryz.underlying3 g3
      obtain ⟨n4, rfl⟩ := open_i64 Tryz.underlying3 g4
      obtain ⟨n5, rfl⟩ := open_i64 Tryz.underlying3 g5
      obtain ⟨n6, rfl⟩ := open_i64 Tryz.underlying3 g6
      obtain ⟨n7, rfl⟩ := open_i64 Tryz.underlying3 g7
      refine ⟨⟨n0, n1, n2.data.toList, n3, n4, n5, n6, n7⟩, ?_, b0⟩
      simp [LV.cb]

set_option maxRecDepth 100000 in
theorem open_ranges {W : World} {base : Nat} {v : Value} {d : DataW H} {p : List MemPlace} (hv : Value.okWide Tryz.prog W .any base 35 v) (h : DataW.Trod enc Tryz.prog W 0 (fun _ => true) true 35 v d p) :
    ∃ A c l, v = .slice A l.length c ∧ Rg W W.heap.size A l ∧ l.length ≤ maxLen ∧ (A = none → c = 0) := by
  obtain ⟨a0, len0, cap0, rfl⟩ := okWide_slice Tryz.underlying35 hv
  obtain ⟨fuel, hf⟩ := h
  rcases open_slice_pairs Tryz.underlying35 Tryz.underlying83 cellsR rfl rfl cellsA cellsA hf with ⟨hc, _⟩ | ⟨a, len, cap, m, k, V0, V1, D0, D1, P0, P1, hc, _, hl, hm, hmm, _, hall⟩
  · have hc' : Value.slice a0 len0 cap0 = .slice none 0 0 := by simpa [Value.cells] using hc
    rw [hc']
    exact ⟨none, 0, [], rfl, ⟨fun x hx => by simp at hx, fun i x hx => by simp at hx⟩, Nat.zero_le _, fun _ => rfl⟩
  · have hc' : Value.slice a0 len0 cap0 = .slice (some a) len cap := by simpa [Value.cells] using hc
    rw [hc']
    simp at hmm
    subst hmm
    have each : ∀ i, i < len → ∃ x : Nat × Nat, (V0 i = .int .u32 x.1 ∧ V1 i = .int .u32 x.2) ∧ x.1 < 4294967296 ∧ x.2 < 4294967296 := by
      intro i hi
      obtain ⟨_, _, h3, h4⟩ := hall i (by omega)
      obtain ⟨n0, e0, _, w0⟩ := DataW.trod_int Tryz.underlying43 h3
      obtain ⟨n1, e1, _, w1⟩ := DataW.trod_int Tryz.underlying43 h4
      simp [Lit.wf, IntKind.min, IntKind.max, IntKind.bits, IntKind.signed] at w0 w1
      refine ⟨(n0.toNat, n1.toNat), ⟨?_, ?_⟩, ?_, ?_⟩
      · rw [List.singleton_inj.1 e0]; simp only; rw [Int.toNat_of_nonneg (by omega)]
      · rw [List.singleton_inj.1 e1]; simp only; rw [Int.toNat_of_nonneg (by omega)]
      · simp only; omega
      · simp only; omega
    obtain ⟨f, hf'⟩ := choose_lt each
    refine ⟨some a, m, (List.range len).map f, by simp, ⟨?_, ?_⟩, by simp; omega, fun h => by cases h⟩
    · intro x hx
      obtain ⟨i, hi, rfl⟩ := List.mem_map.1 hx
      exact (hf' i (List.mem_range.1 hi)).2
    · intro i x hx
      have hi : i < len := by have := (List.getElem?_eq_some_iff.1 hx).1; simpa using this
      obtain rfl : f i = x := by simpa [hi] using hx
      obtain ⟨h1, _, _, _⟩ := hall 0 (by omega)
      obtain ⟨b, o, rfl, hb⟩ := spot_none h1
      obtain ⟨g1, g2, _, _⟩ := hall i (by omega)
      obtain ⟨⟨e0, e1⟩, _⟩ := hf' i hi
      rw [add_at, e0] at g1
      rw [add_at, e1, ← Nat.add_assoc] at g2
      exact ⟨b, o, rfl, hb, g1, g2⟩

theorem open_i64s {W : World} {t : TypeId} (ht : Tryz.prog.underlying t = some (.int .i64)) {fuel : Nat} {v : Value} {x : DataW H × List MemPlace} (h : DataW.trod enc Tryz.prog W 0 (fun _ => true) true fuel t [v] = some x) : ∃ n : Int, v = .int .i64 n ∧ -9223372036854775808 ≤ n ∧ n < 9223372036854775808 := by
  obtain ⟨n0, e0, _, w0⟩ := DataW.trod_int ht h
  simp [Lit.wf, IntKind.min, IntKind.max, IntKind.bits, IntKind.signed] at w0
  exact ⟨n0, List.singleton_inj.1 e0, by omega, by omega⟩

set_option maxRecDepth 100000 in
theorem open_steps {W : World} {fuel : Nat} {v : Value} {x : DataW H × List MemPlace} (h : DataW.trod enc Tryz.prog W 0 (fun _ => true) true fuel 22 [v] = some x) :
    ∃ A c L, v = .slice A L.length c ∧ Ss W W.heap.size A L ∧ L.length ≤ maxLen := by
  rcases open_slice Tryz.underlying22 h with ⟨hc, _⟩ | ⟨a, len, cap, m, k, D, Pl, hc, _, hl, hm, hmm, _, hall⟩
  · obtain rfl : v = .slice none 0 0 := by simpa using hc
    exact ⟨none, 0, [], rfl, ⟨fun i x h => by simp at h, fun x h => by simp at h, fun x h => by simp at h⟩, Nat.zero_le _⟩
  · obtain rfl : v = .slice (some a) len cap := by simpa using hc
    simp at hmm
    subst hmm
    rw [cellsSt] at hall
    have each : ∀ i, i < len → ∃ y : StS, (W.cell? (a.add (i * 10)) = some (.int .i64 y.do_) ∧ W.cell? (a.add (i * 10 + 1)) = some (.int .i64 y.n) ∧ ∀ (j : Nat) u, y.l.cells.toList[j]? = some u → W.cell? (a.add (i * 10 + (2 + j))) = some u) ∧ y.l.addr < 4294967296 ∧ y.n ≤ 9223372036854775807 := by
      intro i hi
      obtain ⟨cs', h1, h2⟩ := hall i (by omega)
      obtain ⟨_, hlen, hcell⟩ := World.cells?_some h1
      obtain ⟨xs, q, _, _, _, hxl, hf⟩ := DataW.trod_struct Tryz.underlying47 h2
      match xs, hxl, cs', hlen with
      | [y0, y1, y2], _, v0 :: v1 :: vs, hlen =>
        have g0 := hf 0 _ rfl
        have g1 := hf 1 _ rfl
        have g2 := hf 2 _ rfl
        simp [cellsI, cellsM] at g0 g1 g2
        have hvs : vs.length = 8 := by simpa using hlen
        rw [List.take_of_length_le (by omega)] at g2
        have e0 := hcell 0 (by simp)
        have e1 := hcell 1 (by simp)
        rw [add_add] at e0 e1
        obtain ⟨n0, rfl⟩ := open_i64 Tryz.underlying3 g0
        obtain ⟨n1, rfl, _, hn1⟩ := open_i64s Tryz.underlying3 g1
        obtain ⟨m, rfl, hm⟩ := lease_cells hvs g2
        refine ⟨⟨n0, n1, m⟩, ⟨by simpa using e0, by simpa using e1, fun j u hu => ?_⟩, hm, by show n1 ≤ _; omega⟩
        have hj := (List.getElem?_eq_some_iff.1 hu).1
        have e := hcell (2 + j) (by have h8 : j < m.cells.toList.length := hj; rw [hvs] at h8; omega)
        rw [add_add] at e
        rw [e, Nat.add_comm 2 j]
        simpa using hu
    obtain ⟨f, hf⟩ := choose_lt each
    refine ⟨some a, m, (List.range len).map f, by simp, ⟨fun i x hx => ?_, fun x hx => ?_, fun x hx => ?_⟩, by simp; omega⟩
    · have hi : i < len := by have := (List.getElem?_eq_some_iff.1 hx).1; simpa using this
      obtain rfl : f i = x := by simpa [hi] using hx
      obtain ⟨⟨h1, _⟩, _⟩ := hf 0 (by omega)
      obtain ⟨b, o, rfl, hb⟩ := spot_none h1
      obtain ⟨⟨g0, g1, g2⟩, _⟩ := hf i hi
      have hc : ∀ (j : Nat) u, (f i).l.cells.toList[j]? = some u → W.cell? ⟨b, o + i * 10 + (2 + j), none⟩ = some u := fun j u hu => by
        have := g2 j u hu
        rw [add_at] at this
        rw [Nat.add_assoc]
        exact this
      rw [add_at] at g0 g1
      exact ⟨b, o, rfl, hb, g0, by rw [Nat.add_assoc]; exact g1, hc 0 _ rfl, hc 1 _ rfl, hc 2 _ rfl, hc 3 _ rfl, hc 4 _ rfl, hc 5 _ rfl, hc 6 _ rfl, hc 7 _ rfl⟩
    · obtain ⟨i, hi, rfl⟩ := List.mem_map.1 hx
      exact (hf i (List.mem_range.1 hi)).2.1
    · obtain ⟨i, hi, rfl⟩ := List.mem_map.1 hx
      exact (hf i (List.mem_range.1 hi)).2.2
end
end Go.Proofs.YtalmjmhbpmhokaaGreat
end
