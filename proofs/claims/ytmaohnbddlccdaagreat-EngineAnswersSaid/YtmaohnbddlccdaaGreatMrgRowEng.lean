/- Arguments that are a site, leases, or a case of the engine, opened. -/
import Derived.Test.YtmaohnbddlccdaaGreatMrgRowNum
import Derived.Test.YtmaohnbddlccdaaGreatMrgEngL
import Derived.Deep.SlicePairs
import Derived.Lib.SmallJoins
import Derived.SizedLaws
namespace Go.Proofs.YtmaohnbddlccdaaGreat
open Go.Joins Go.ChangeShapes Go.WideShapes Go.ChangeAt Go.RowKit Go.Deep

theorem cellsR : Tryz.prog.cellsOf 89 = 2 := by kernel_rfl
theorem cellsA : Tryz.prog.cellsOf 23 = 1 := by kernel_rfl
theorem cellsI : Tryz.prog.cellsOf 3 = 1 := by kernel_rfl
theorem cellsU : Tryz.prog.cellsOf 22 = 1 := by kernel_rfl
theorem cellsT : Tryz.prog.cellsOf 9 = 1 := by kernel_rfl
theorem cellsFl : Tryz.prog.cellsOf 24 = 1 := by kernel_rfl
theorem cellsBy : Tryz.prog.cellsOf 29 = 1 := by kernel_rfl
theorem cellsOs : Tryz.prog.cellsOf 30 = 1 := by kernel_rfl
theorem cellsRs : Tryz.prog.cellsOf 25 = 1 := by kernel_rfl
theorem cellsM : Tryz.prog.cellsOf 42 = 8 := by kernel_rfl
theorem cellsP : Tryz.prog.cellsOf 32 = 10 := by kernel_rfl
theorem cellsSi : Tryz.prog.cellsOf 27 = 13 := by kernel_rfl
theorem cellsCa : Tryz.prog.cellsOf 34 = 13 := by kernel_rfl
theorem readSi : Tryz.prog.readableRec 27 = true ∧ 27 < Tryz.prog.types.size := ⟨by kernel_rfl, of_decide_eq_true (by kernel_rfl)⟩
theorem readCa : Tryz.prog.readableRec 34 = true ∧ 34 < Tryz.prog.types.size := ⟨by kernel_rfl, of_decide_eq_true (by kernel_rfl)⟩
theorem readLs : Tryz.prog.readableRec 28 = true ∧ 28 < Tryz.prog.types.size := ⟨by kernel_rfl, of_decide_eq_true (by kernel_rfl)⟩

instance : Inhabited LV := ⟨⟨0, 0, [], 0, 0, 0, 0, 0⟩⟩
theorem spot_none {W : World} {a : Addr} {v : Value} (h : W.cell? a = some v) : ∃ b o, a = ⟨b, o, none⟩ ∧ b < W.heap.size := by
  obtain ⟨ab, ao, asp⟩ := a
  cases asp with
  | none =>
    refine ⟨ab, ao, rfl, ?_⟩
    rcases Nat.lt_or_ge ab W.heap.size with hlt | hge
    · exact hlt
    · simp [World.cell?, Array.getElem?_eq_none hge] at h
  | some s => simp [World.cell?] at h; split at h <;> simp_all

section
variable {H : Type} {enc : TypeId × Value → H}

theorem open_u32 {W : World} {t : TypeId} (ht : Tryz.prog.underlying t = some (.int .u32)) {fuel : Nat} {v : Value} {x : DataW H × List MemPlace} (h : DataW.trod enc Tryz.prog W 0 (fun _ => true) true fuel t [v] = some x) : ∃ n : Nat, v = .int .u32 (n : Int) ∧ n < 4294967296 := by
  obtain ⟨n0, e0, _, w0⟩ := DataW.trod_int ht h
  simp [Lit.wf, IntKind.min, IntKind.max, IntKind.bits, IntKind.signed] at w0
  refine ⟨n0.toNat, ?_, by omega⟩
  rw [List.singleton_inj.1 e0, Int.toNat_of_nonneg w0.1]
theorem open_i64 {W : World} {t : TypeId} (ht : Tryz.prog.underlying t = some (.int .i64)) {fuel : Nat} {v : Value} {x : DataW H × List MemPlace} (h : DataW.trod enc Tryz.prog W 0 (fun _ => true) true fuel t [v] = some x) : ∃ n : Int, v = .int .i64 n := by
  obtain ⟨n0, e0, _, _⟩ := DataW.trod_int ht h
  exact ⟨n0, List.singleton_inj.1 e0⟩
theorem open_str {W : World} {t : TypeId} (ht : Tryz.prog.underlying t = some .string) {fuel : Nat} {v : Value} {x : DataW H × List MemPlace} (h : DataW.trod enc Tryz.prog W 0 (fun _ => true) true fuel t [v] = some x) : ∃ s : ByteArray, v = .string s := by
  obtain ⟨s, e0, _⟩ := DataW.trod_string ht h
  exact ⟨s, List.singleton_inj.1 e0⟩

/-- The cells of a lease. -/
theorem lease_cells {W : World} {fuel : Nat} {cs : List Value} {x : DataW H × List MemPlace} (hc : cs.length = 8) (hf : DataW.trod enc Tryz.prog W 0 (fun _ => true) true fuel 42 cs = some x) :
    ∃ m : LV, cs = m.cells.toList ∧ m.addr < 4294967296 := by
  match cs, hc with
  | [v0, v1, v2, v3, v4, v5, v6, v7], _ =>
    obtain ⟨xs, n, _, hx, _, hlen, hg⟩ := DataW.trod_struct Tryz.underlying42 hf
    match xs, hlen with
    | [y0, y1, y2, y3, y4, y5, y6, y7], _ =>
      have g0 := hg 0 _ rfl
      simp [cellsA] at g0
      have g1 := hg 1 _ rfl
      simp [cellsI] at g1
      have g2 := hg 2 _ rfl
      simp [cellsT] at g2
      have g3 := hg 3 _ rfl
      simp [cellsI] at g3
      have g4 := hg 4 _ rfl
      simp [cellsI] at g4
      have g5 := hg 5 _ rfl
      simp [cellsI] at g5
      have g6 := hg 6 _ rfl
      simp [cellsI] at g6
      have g7 := hg 7 _ rfl
      simp [cellsI] at g7
      obtain ⟨n0, rfl, b0⟩ := open_u32 Tryz.underlying23 g0
      obtain ⟨n1, rfl⟩ := open_i64 Tryz.underlying3 g1
      obtain ⟨n2, rfl⟩ := open_str Tryz.underlying9 g2
      obtain ⟨n3, rfl⟩ := open_i64 Tryz.underlying3 g3
      obtain ⟨n4, rfl⟩ := open_i64 Tryz.underlying3 g4
      obtain ⟨n5, rfl⟩ := open_i64 Tryz.underlying3 g5
      obtain ⟨n6, rfl⟩ := open_i64 Tryz.underlying3 g6
      obtain ⟨n7, rfl⟩ := open_i64 Tryz.underlying3 g7
      refine ⟨⟨n0, n1, n2.data.toList, n3, n4, n5, n6, n7⟩, ?_, b0⟩
      simp [LV.cb]

/-- Data of n leases. -/
def ManyL (d : DataW H) (n : Nat) : Prop := n = 0 ∨ ∃ es sp, d = .slice es sp ∧ es.length = n
theorem open_leases {W : World} {fuel : Nat} {v : Value} {x : DataW H × List MemPlace} (h : DataW.trod enc Tryz.prog W 0 (fun _ => true) true fuel 28 [v] = some x) :
    ∃ A c L, v = .slice A L.length c ∧ El ElemL W W.heap.size A L ∧ L.length ≤ maxLen ∧ (∀ x ∈ L, x.addr < 4294967296) ∧ ManyL x.1 L.length := by
  rcases open_slice Tryz.underlying28 h with ⟨hc, _⟩ | ⟨a, len, cap, m, k, D, Pl, hc, _, hl, hm, hmm, hxx, hall⟩
  · obtain rfl : v = .slice none 0 0 := by simpa using hc
    exact ⟨none, 0, [], rfl, El.nil, Nat.zero_le _, fun x hx => by simp at hx, .inl rfl⟩
  · obtain rfl : v = .slice (some a) len cap := by simpa using hc
    simp at hmm
    subst hmm
    rw [cellsM] at hall
    have each : ∀ i, i < len → ∃ y : LV, (∀ (j : Nat) u, y.cells.toList[j]? = some u → W.cell? (a.add (i * 8 + j)) = some u) ∧ y.addr < 4294967296 := by
      intro i hi
      obtain ⟨cs', h1, h2⟩ := hall i (by omega)
      obtain ⟨_, hlen, hcell⟩ := World.cells?_some h1
      obtain ⟨y, rfl, hy⟩ := lease_cells hlen h2
      refine ⟨y, fun j u hu => ?_, hy⟩
      have e := hcell j (by have := (List.getElem?_eq_some_iff.1 hu).1; rw [hlen] at this; exact this)
      rw [add_add] at e
      rw [e]
      exact hu
    obtain ⟨f, hf⟩ := choose_lt each
    refine ⟨some a, m, (List.range len).map f, by simp, ⟨fun i x hx => ?_⟩, by simp; omega, fun x hx => ?_, .inr ⟨_, _, by rw [hxx], by simp⟩⟩
    · have hi : i < len := by have := (List.getElem?_eq_some_iff.1 hx).1; simpa using this
      obtain rfl : f i = x := by simpa [hi] using hx
      obtain ⟨h1, _⟩ := hf 0 (by omega)
      obtain ⟨b, o, rfl, hb⟩ := spot_none (h1 0 _ rfl)
      refine ⟨b, o, rfl, hb, fun j u hu => ?_⟩
      have g := (hf i hi).1 j u hu
      rw [add_at] at g
      show W.cell? ⟨b, o + i * 8 + j, none⟩ = some u
      rw [Nat.add_assoc]
      exact g
    · obtain ⟨i, hi, rfl⟩ := List.mem_map.1 hx
      exact (hf i (List.mem_range.1 hi)).2

theorem field_ranges {W : World} {fuel : Nat} {v : Value} {x : DataW H × List MemPlace} (hf : DataW.trod enc Tryz.prog W 0 (fun _ => true) true fuel 25 [v] = some x) :
    ∃ A c l, v = .slice A l.length c ∧ Rg W W.heap.size A l ∧ l.length ≤ maxLen := by
  rcases open_slice_pairs Tryz.underlying25 Tryz.underlying89 cellsR rfl rfl cellsA cellsA hf with ⟨hc, _⟩ | ⟨a, len, cap, m, k, V0, V1, D0, D1, P0, P1, hc, _, hl, hm, hmm, _, hall⟩
  · obtain rfl : v = .slice none 0 0 := by simpa using hc
    exact ⟨none, 0, [], rfl, ⟨fun x hx => by simp at hx, fun i x hx => by simp at hx⟩, Nat.zero_le _⟩
  · obtain rfl : v = .slice (some a) len cap := by simpa using hc
    simp at hmm
    subst hmm
    have each : ∀ i, i < len → ∃ x : Nat × Nat, (V0 i = .int .u32 x.1 ∧ V1 i = .int .u32 x.2) ∧ x.1 < 4294967296 ∧ x.2 < 4294967296 := by
      intro i hi
      obtain ⟨_, _, h3, h4⟩ := hall i (by omega)
      obtain ⟨n0, e0, _, w0⟩ := DataW.trod_int Tryz.underlying23 h3
      obtain ⟨n1, e1, _, w1⟩ := DataW.trod_int Tryz.underlying23 h4
      simp [Lit.wf, IntKind.min, IntKind.max, IntKind.bits, IntKind.signed] at w0 w1
      refine ⟨(n0.toNat, n1.toNat), ⟨?_, ?_⟩, ?_, ?_⟩
      · rw [List.singleton_inj.1 e0]; simp only; rw [Int.toNat_of_nonneg (by omega)]
      · rw [List.singleton_inj.1 e1]; simp only; rw [Int.toNat_of_nonneg (by omega)]
      · simp only; omega
      · simp only; omega
    obtain ⟨f, hf'⟩ := choose_lt each
    refine ⟨some a, m, (List.range len).map f, by simp, ⟨?_, ?_⟩, by simp; omega⟩
    · intro x hx
      obtain ⟨i, hi, rfl⟩ := List.mem_map.1 hx
      exact (hf' i (List.mem_range.1 hi)).2
    · intro i x hx
      have hi : i < len := by have := (List.getElem?_eq_some_iff.1 hx).1; simpa using this
      obtain rfl : f i = x := by simpa [hi] using hx
      obtain ⟨h1, _, _, _⟩ := hall 0 (by omega)
      obtain ⟨b, o, rfl, hb⟩ := spot_none h1
      obtain ⟨g1, g2, _, _⟩ := hall i (by omega)
      obtain ⟨⟨e0, e1⟩, _⟩ := hf' i hi
      rw [add_at, e0] at g1
      rw [add_at, e1, ← Nat.add_assoc] at g2
      exact ⟨b, o, rfl, hb, g1, g2⟩

theorem trod_flt {P : Program} {t : TypeId} {w : World} {base : Nat} {spare : Nat → Bool} {held : Bool} {fuel : Nat} {v : Value} {x : DataW H × List MemPlace} {k : FloatKind} (ht : P.underlying t = some (.float k)) (h : DataW.trod enc P w base spare held fuel t [v] = some x) : ∃ n, v = .float k n := by
  cases fuel with
  | zero => simp [DataW.trod] at h
  | succ n =>
    unfold DataW.trod at h
    rw [ht] at h
    split at h <;> simp_all

/-- The cells of a packet. -/
theorem packet_cells {W : World} {fuel : Nat} {cs : List Value} {x : DataW H × List MemPlace} (hc : cs.length = 10) (hf : DataW.trod enc Tryz.prog W 0 (fun _ => true) true fuel 32 cs = some x) :
    ∃ p : NO.PktV, cs = [.int .i64 p.op, .int .u32 (p.xid : Int), .int .i64 p.secs, .int .i64 p.flags, .int .u32 (p.ci : Int), .int .u32 (p.yi : Int), .int .u32 (p.si : Int), .int .u32 (p.gi : Int), .slice p.hwA p.hw.length p.hwC, .slice p.opA p.L.length p.opC] ∧ NO.Pk W W.heap.size p ∧ NO.PkR p ∧ p.L.length ≤ maxLen ∧ (∀ x ∈ p.L, x.data.length ≤ maxLen) ∧ p.hw.length ≤ maxLen := by
  match cs, hc with
  | [v0, v1, v2, v3, v4, v5, v6, v7, v8, v9], _ =>
    obtain ⟨xs, n, _, hx, _, hlen, hg⟩ := DataW.trod_struct Tryz.underlying32 hf
    match xs, hlen with
    | [y0, y1, y2, y3, y4, y5, y6, y7, y8, y9], _ =>
      have g0 := hg 0 _ rfl
      simp [cellsI] at g0
      have g1 := hg 1 _ rfl
      simp [cellsU] at g1
      have g2 := hg 2 _ rfl
      simp [cellsI] at g2
      have g3 := hg 3 _ rfl
      simp [cellsI] at g3
      have g4 := hg 4 _ rfl
      simp [cellsA] at g4
      have g5 := hg 5 _ rfl
      simp [cellsA] at g5
      have g6 := hg 6 _ rfl
      simp [cellsA] at g6
      have g7 := hg 7 _ rfl
      simp [cellsA] at g7
      have g8 := hg 8 _ rfl
      simp [cellsBy] at g8
      have g9 := hg 9 _ rfl
      simp [cellsOs] at g9
      obtain ⟨n0, rfl⟩ := open_i64 Tryz.underlying3 g0
      obtain ⟨n1, rfl, b1⟩ := open_u32 Tryz.underlying22 g1
      obtain ⟨n2, rfl⟩ := open_i64 Tryz.underlying3 g2
      obtain ⟨n3, rfl⟩ := open_i64 Tryz.underlying3 g3
      obtain ⟨n4, rfl, b4⟩ := open_u32 Tryz.underlying23 g4
      obtain ⟨n5, rfl, b5⟩ := open_u32 Tryz.underlying23 g5
      obtain ⟨n6, rfl, b6⟩ := open_u32 Tryz.underlying23 g6
      obtain ⟨n7, rfl, b7⟩ := open_u32 Tryz.underlying23 g7
      obtain ⟨A8, c8, l8, rfl, hby8, hl8, _⟩ := NO.open_bytes g8
      obtain ⟨A9, c9, L9, rfl, hop9, hl9, hd9⟩ := NO.open_options g9
      exact ⟨⟨n0, n1, n2, n3, n4, n5, n6, n7, A8, c8, l8, A9, c9, L9⟩, rfl, ⟨hby8, hop9⟩, ⟨b1, b4, b5, b6, b7⟩, hl9, hd9, hl8⟩

set_option maxRecDepth 100000 in
theorem open_case20 {W : World} {b0 : Nat} {r : Reach} {v : Value} {d : DataW H} {ps : List MemPlace} (hv : Value.okWide Tryz.prog W r b0 34 v) (h : DataW.Trod enc Tryz.prog W 0 (fun _ => true) true 34 v d ps) :
    ∃ c : CaseV, v = c.v ∧ NO.Pk W W.heap.size c.p ∧ NO.PkR c.p ∧ c.p.L.length ≤ maxLen ∧ (∀ x ∈ c.p.L, x.data.length ≤ maxLen) ∧ c.p.hw.length ≤ maxLen := by
  obtain ⟨cs, rfl, hsz⟩ := okWide_struct Tryz.underlying34 hv
  obtain ⟨l⟩ := cs
  obtain ⟨fuel, hf⟩ := h
  match l, hsz.trans cellsCa with
  | [v0, v1, v2, v3, v4, v5, v6, v7, v8, v9, v10, v11, v12], _ =>
    obtain ⟨xs, n, _, hx, _, hlen, hg⟩ := DataW.trod_struct Tryz.underlying34 hf
    match xs, hlen with
    | [y0, y1, y2, y3], _ =>
      have g0 := hg 0 _ rfl
      simp [Value.cells, cellsI] at g0
      have g1 := hg 1 _ rfl
      simp [Value.cells, cellsI] at g1
      have g2 := hg 2 _ rfl
      simp [Value.cells, cellsI] at g2
      have g3 := hg 3 _ rfl
      simp [Value.cells, cellsP] at g3
      obtain ⟨n0, rfl⟩ := open_i64 Tryz.underlying3 g0
      obtain ⟨n1, rfl⟩ := open_i64 Tryz.underlying3 g1
      obtain ⟨n2, rfl⟩ := open_i64 Tryz.underlying3 g2
      obtain ⟨p, he, h1, h2, h3, h4, h5⟩ := packet_cells rfl g3
      simp at he
      obtain ⟨rfl, rfl, rfl, rfl, rfl, rfl, rfl, rfl, rfl, rfl⟩ := he
      exact ⟨⟨n0, n1, n2, p⟩, rfl, h1, h2, h3, h4, h5⟩

set_option maxRecDepth 100000 in
theorem open_site {W : World} {b0 : Nat} {r : Reach} {v : Value} {d : DataW H} {ps : List MemPlace} (hv : Value.okWide Tryz.prog W r b0 27 v) (h : DataW.Trod enc Tryz.prog W 0 (fun _ => true) true 27 v d ps) :
    ∃ x : SiteV, v = x.v ∧ x.server < 4294967296 ∧ Rg W W.heap.size x.plA x.pl ∧ x.pl.length ≤ maxLen := by
  obtain ⟨cs, rfl, hsz⟩ := okWide_struct Tryz.underlying27 hv
  obtain ⟨l⟩ := cs
  obtain ⟨fuel, hf⟩ := h
  match l, hsz.trans cellsSi with
  | [v0, v1, v2, v3, v4, v5, v6, v7, v8, v9, v10, v11, v12], _ =>
    obtain ⟨xs, n, _, hx, _, hlen, hg⟩ := DataW.trod_struct Tryz.underlying27 hf
    match xs, hlen with
    | [y0, y1, y2, y3, y4, y5, y6, y7, y8, y9, y10, y11, y12], _ =>
      have g0 := hg 0 _ rfl
      simp [Value.cells, cellsI] at g0
      have g1 := hg 1 _ rfl
      simp [Value.cells, cellsI] at g1
      have g2 := hg 2 _ rfl
      simp [Value.cells, cellsI] at g2
      have g3 := hg 3 _ rfl
      simp [Value.cells, cellsA] at g3
      have g4 := hg 4 _ rfl
      simp [Value.cells, cellsI] at g4
      have g5 := hg 5 _ rfl
      simp [Value.cells, cellsI] at g5
      have g6 := hg 6 _ rfl
      simp [Value.cells, cellsI] at g6
      have g7 := hg 7 _ rfl
      simp [Value.cells, cellsFl] at g7
      have g8 := hg 8 _ rfl
      simp [Value.cells, cellsFl] at g8
      have g9 := hg 9 _ rfl
      simp [Value.cells, cellsFl] at g9
      have g10 := hg 10 _ rfl
      simp [Value.cells, cellsFl] at g10
      have g11 := hg 11 _ rfl
      simp [Value.cells, cellsRs] at g11
      have g12 := hg 12 _ rfl
      simp [Value.cells, cellsI] at g12
      obtain ⟨n0, rfl⟩ := open_i64 Tryz.underlying3 g0
      obtain ⟨n1, rfl⟩ := open_i64 Tryz.underlying3 g1
      obtain ⟨n2, rfl⟩ := open_i64 Tryz.underlying3 g2
      obtain ⟨n3, rfl, b3⟩ := open_u32 Tryz.underlying23 g3
      obtain ⟨n4, rfl⟩ := open_i64 Tryz.underlying3 g4
      obtain ⟨n5, rfl⟩ := open_i64 Tryz.underlying3 g5
      obtain ⟨n6, rfl⟩ := open_i64 Tryz.underlying3 g6
      obtain ⟨n7, rfl⟩ := trod_flt Tryz.underlying24 g7
      obtain ⟨n8, rfl⟩ := trod_flt Tryz.underlying24 g8
      obtain ⟨n9, rfl⟩ := trod_flt Tryz.underlying24 g9
      obtain ⟨n10, rfl⟩ := trod_flt Tryz.underlying24 g10
      obtain ⟨A11, c11, l11, rfl, hR, hlen11⟩ := field_ranges g11
      obtain ⟨n12, rfl⟩ := open_i64 Tryz.underlying3 g12
      exact ⟨⟨n0, n1, n2, n3, n4, n5, n6, n7, n8, n9, n10, A11, c11, l11, n12⟩, rfl, b3, hR, hlen11⟩
end
end Go.Proofs.YtmaohnbddlccdaaGreat
