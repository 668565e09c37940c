/- Arguments that are two floats, two numbers, or leases, opened. -/
import Derived.Test.YtablffjhipgfbaaMrgRowNum
import Derived.Test.YtablffjhipgfbaaMrgTriM
import Derived.Test.YtablffjhipgfbaaMrgPooL
import Derived.Test.YtablffjhipgfbaaMrgTabP
import Derived.Deep.SlicePairs
import Derived.Lib.SmallJoins
import Derived.SizedLaws
namespace Go.Proofs.Ytablffjhipgfbaa
open Go.Joins Go.ChangeShapes Go.WideShapes Go.ChangeAt Go.RowKit Go.Deep

theorem readLs : Try.prog.readableRec 24 = true ∧ 24 < Try.prog.types.size := ⟨by kernel_rfl, of_decide_eq_true (by kernel_rfl)⟩
theorem readF2 : Try.prog.readableRec 23 = true ∧ 23 < Try.prog.types.size := ⟨by kernel_rfl, of_decide_eq_true (by kernel_rfl)⟩
theorem cellsA : Try.prog.cellsOf 30 = 1 := by kernel_rfl
theorem cellsI : Try.prog.cellsOf 3 = 1 := by kernel_rfl
theorem cellsT : Try.prog.cellsOf 9 = 1 := by kernel_rfl
theorem cellsM : Try.prog.cellsOf 35 = 8 := by kernel_rfl
theorem cellsFl : Try.prog.cellsOf 22 = 1 := by kernel_rfl
theorem cells2f : Try.prog.cellsOf 23 = 2 := by kernel_rfl
instance : Inhabited LV := ⟨⟨0, 0, [], 0, 0, 0, 0, 0⟩⟩
theorem spot_none {W : World} {a : Addr} {v : Value} (h : W.cell? a = some v) : ∃ b o, a = ⟨b, o, none⟩ ∧ b < W.heap.size := by
  obtain ⟨ab, ao, asp⟩ := a
  cases asp with
  | none =>
    refine ⟨ab, ao, rfl, ?_⟩
    rcases Nat.lt_or_ge ab W.heap.size with hlt | hge
    · exact hlt
    · simp [World.cell?, Array.getElem?_eq_none hge] at h
  | some s => simp [World.cell?] at h; split at h <;> simp_all

section
variable {H : Type} {enc : TypeId × Value → H}

theorem open_u32 {W : World} {t : TypeId} (ht : Try.prog.underlying t = some (.int .u32)) {fuel : Nat} {v : Value} {x : DataW H × List MemPlace} (h : DataW.trod enc Try.prog W 0 (fun _ => true) true fuel t [v] = some x) : ∃ n : Nat, v = .int .u32 (n : Int) ∧ n < 4294967296 := by
  obtain ⟨n0, e0, _, w0⟩ := DataW.trod_int ht h
  simp [Lit.wf, IntKind.min, IntKind.max, IntKind.bits, IntKind.signed] at w0
  refine ⟨n0.toNat, ?_, by omega⟩
  rw [List.singleton_inj.1 e0, Int.toNat_of_nonneg w0.1]
theorem open_i64 {W : World} {t : TypeId} (ht : Try.prog.underlying t = some (.int .i64)) {fuel : Nat} {v : Value} {x : DataW H × List MemPlace} (h : DataW.trod enc Try.prog W 0 (fun _ => true) true fuel t [v] = some x) : ∃ n : Int, v = .int .i64 n := by
  obtain ⟨n0, e0, _, _⟩ := DataW.trod_int ht h
  exact ⟨n0, List.singleton_inj.1 e0⟩
theorem open_str {W : World} {t : TypeId} (ht : Try.prog.underlying t = some .string) {fuel : Nat} {v : Value} {x : DataW H × List MemPlace} (h : DataW.trod enc Try.prog W 0 (fun _ => true) true fuel t [v] = some x) : ∃ s : ByteArray, v = .string s := by
  obtain ⟨s, e0, _⟩ := DataW.trod_string ht h
  exact ⟨s, List.singleton_inj.1 e0⟩

/-- The cells of a lease. -/
theorem lease_cells {W : World} {fuel : Nat} {cs : List Value} {x : DataW H × List MemPlace} (hc : cs.length = 8) (hf : DataW.trod enc Try.prog W 0 (fun _ => true) true fuel 35 cs = some x) :
    ∃ m : LV, cs = m.cells.toList ∧ m.addr < 4294967296 := by
  match cs, hc with
  | [v0, v1, v2, v3, v4, v5, v6, v7], _ =>
    obtain ⟨xs, n, _, hx, _, hlen, hg⟩ := DataW.trod_struct Try.underlying35 hf
    match xs, hlen with
    | [y0, y1, y2, y3, y4, y5, y6, y7], _ =>
      have g0 := hg 0 _ rfl
      simp [cellsA] at g0
      have g1 := hg 1 _ rfl
      simp [cellsI] at g1
      have g2 := hg 2 _ rfl
      simp [cellsT] at g2
      have g3 := hg 3 _ rfl
      simp [cellsI] at g3
      have g4 := hg 4 _ rfl
      simp [cellsI] at g4
      have g5 := hg 5 _ rfl
      simp [cellsI] at g5
      have g6 := hg 6 _ rfl
      simp [cellsI] at g6
      have g7 := hg 7 _ rfl
      simp [cellsI] at g7
      obtain ⟨n0, rfl, b0⟩ := open_u32 Try.underlying30 g0
      obtain ⟨n1, rfl⟩ := open_i64 Try.underlying3 g1
      obtain ⟨n2, rfl⟩ := open_str Try.underlying9 g2
      obtain ⟨n3, rfl⟩ := open_i64 Try.underlying3 g3
      obtain ⟨n4, rfl⟩ := open_i64 Try.underlying3 g4
      obtain ⟨n5, rfl⟩ := open_i64 Try.underlying3 g5
      obtain ⟨n6, rfl⟩ := open_i64 Try.underlying3 g6
      obtain ⟨n7, rfl⟩ := open_i64 Try.underlying3 g7
      refine ⟨⟨n0, n1, n2.data.toList, n3, n4, n5, n6, n7⟩, ?_, b0⟩
      simp [LV.cb]

/-- Data of n leases. -/
def ManyL (d : DataW H) (n : Nat) : Prop := n = 0 ∨ ∃ es sp, d = .slice es sp ∧ es.length = n
theorem ManyL.small {d d0 : DataW H} {n : Nat} {t0 : TypeId} {ts : List TypeId} {ds : List (DataW H)} (h : ManyL d n) (hk : (DataW.weightsEach Try.prog (t0 :: 24 :: ts) (d0 :: d :: ds)).all (· ≤ reachBytes) = true) : n * 72 ≤ 140737488351232 := by
  rcases h with rfl | ⟨es, sp, rfl, rfl⟩
  · omega
  · have hb : Try.prog.bytesOf 35 = 72 := by kernel_rfl
    have h1 := of_decide_eq_true (List.all_eq_true.1 hk ((es.length + sp.length) * 72) (by simp [DataW.weightsEach, DataW.weights, Try.underlying24, hb]))
    exact Nat.le_trans (Nat.mul_le_mul_right 72 (Nat.le_add_right _ _)) h1

theorem open_leases {W : World} {fuel : Nat} {v : Value} {x : DataW H × List MemPlace} (h : DataW.trod enc Try.prog W 0 (fun _ => true) true fuel 24 [v] = some x) :
    ∃ A c L, v = .slice A L.length c ∧ El ElemL W W.heap.size A L ∧ L.length ≤ maxLen ∧ (∀ x ∈ L, x.addr < 4294967296) ∧ ManyL x.1 L.length := by
  rcases open_slice Try.underlying24 h with ⟨hc, _⟩ | ⟨a, len, cap, m, k, D, Pl, hc, _, hl, hm, hmm, hxx, hall⟩
  · obtain rfl : v = .slice none 0 0 := by simpa using hc
    exact ⟨none, 0, [], rfl, El.nil, Nat.zero_le _, fun x hx => by simp at hx, .inl rfl⟩
  · obtain rfl : v = .slice (some a) len cap := by simpa using hc
    simp at hmm
    subst hmm
    rw [cellsM] at hall
    have each : ∀ i, i < len → ∃ y : LV, (∀ (j : Nat) u, y.cells.toList[j]? = some u → W.cell? (a.add (i * 8 + j)) = some u) ∧ y.addr < 4294967296 := by
      intro i hi
      obtain ⟨cs', h1, h2⟩ := hall i (by omega)
      obtain ⟨_, hlen, hcell⟩ := World.cells?_some h1
      obtain ⟨y, rfl, hy⟩ := lease_cells hlen h2
      refine ⟨y, fun j u hu => ?_, hy⟩
      have e := hcell j (by have := (List.getElem?_eq_some_iff.1 hu).1; rw [hlen] at this; exact this)
      rw [add_add] at e
      rw [e]
      exact hu
    obtain ⟨f, hf⟩ := choose_lt each
    refine ⟨some a, m, (List.range len).map f, by simp, ⟨fun i x hx => ?_⟩, by simp; omega, fun x hx => ?_, .inr ⟨_, _, by rw [hxx], by simp⟩⟩
    · have hi : i < len := by have := (List.getElem?_eq_some_iff.1 hx).1; simpa using this
      obtain rfl : f i = x := by simpa [hi] using hx
      obtain ⟨h1, _⟩ := hf 0 (by omega)
      obtain ⟨b, o, rfl, hb⟩ := spot_none (h1 0 _ rfl)
      refine ⟨b, o, rfl, hb, fun j u hu => ?_⟩
      have g := (hf i hi).1 j u hu
      rw [add_at] at g
      show W.cell? ⟨b, o + i * 8 + j, none⟩ = some u
      rw [Nat.add_assoc]
      exact g
    · obtain ⟨i, hi, rfl⟩ := List.mem_map.1 hx
      exact (hf i (List.mem_range.1 hi)).2

theorem trod_flt {P : Program} {t : TypeId} {w : World} {base : Nat} {spare : Nat → Bool} {held : Bool} {fuel : Nat} {cs : List Value} {x : DataW H × List MemPlace} {k : FloatKind} (ht : P.underlying t = some (.float k)) (h : DataW.trod enc P w base spare held fuel t cs = some x) : ∃ n, cs = [.float k n] := by
  cases fuel with
  | zero => simp [DataW.trod] at h
  | succ n =>
    unfold DataW.trod at h
    rw [ht] at h
    split at h <;> simp_all
theorem open_i64s {W : World} {t : TypeId} (ht : Try.prog.underlying t = some (.int .i64)) {fuel : Nat} {v : Value} {x : DataW H × List MemPlace} (h : DataW.trod enc Try.prog W 0 (fun _ => true) true fuel t [v] = some x) : ∃ n : Int, v = .int .i64 n ∧ -9223372036854775808 ≤ n ∧ n < 9223372036854775808 := by
  obtain ⟨n0, e0, _, w0⟩ := DataW.trod_int ht h
  simp [Lit.wf, IntKind.min, IntKind.max, IntKind.bits, IntKind.signed] at w0
  exact ⟨n0, List.singleton_inj.1 e0, by omega, by omega⟩
set_option maxRecDepth 100000 in
theorem open_floats {W : World} {b0 : Nat} {r : Reach} {v : Value} {d : DataW H} {ps : List MemPlace} (hv : Value.okWide Try.prog W r b0 23 v) (h : DataW.Trod enc Try.prog W 0 (fun _ => true) true 23 v d ps) :
    ∃ p s : Nat, v = f2v p s := by
  simp only [Value.okWide, Try.underlying23] at hv
  obtain ⟨cs, rfl, hsz, _⟩ := hv
  obtain ⟨l⟩ := cs
  obtain ⟨fuel, hf⟩ := h
  match l, hsz.trans cells2f with
  | [v0, v1], _ =>
    obtain ⟨xs, n, _, _, _, hlen, hg⟩ := DataW.trod_array Try.underlying23 hf
    match xs, hlen with
    | [y0, y1], _ =>
      have g0 := hg 0 (by decide)
      have g1 := hg 1 (by decide)
      simp [Value.cells, cellsFl] at g0 g1
      obtain ⟨n0, e0⟩ := trod_flt Try.underlying22 g0
      obtain ⟨n1, e1⟩ := trod_flt Try.underlying22 g1
      simp at e0 e1
      subst e0 e1
      exact ⟨n0, n1, rfl⟩
end
end Go.Proofs.Ytablffjhipgfbaa
