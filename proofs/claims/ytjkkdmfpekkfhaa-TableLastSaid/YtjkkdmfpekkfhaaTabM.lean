/- The document's table in memory: rows of leases; find, Get, Count, First, Set. -/
import Derived.Test.YtjkkdmfpekkfhaaTabP
import Derived.Test.YtjkkdmfpekkfhaaGenR
import Derived.Test.YtjkkdmfpekkfhaaLeaQ
namespace Go.Proofs.Ytjkkdmfpekkfhaa
open Go.RowKit Go.Sort
attribute [local go_sem ↓] run_eqlL run_neqL run_guardL

/-- Leases as elements of slices. -/
def ElemL : Elem Try.prog LV where
  e := 34
  ty := 23
  m := 8
  bytes := 72
  zero := .agg #[.int .u32 0, .int .i64 0, .string ⟨#[]⟩, .int .i64 0, .int .i64 0, .int .i64 0, .int .i64 0, .int .i64 0]
  cells := fun x => x.cells.toList
  hm := by decide
  hb0 := by decide
  hb := by decide
  len := fun _ => rfl
  one := fun v u hu => by
    simp at hu
    rcases hu with rfl | rfl | rfl | rfl | rfl | rfl | rfl | rfl <;> rfl
  und := Try.underlying23
  info := by kernel_rfl
  hz := rfl
section
variable {w w' : World} {B : Nat} {A : Option Addr} {l : List LV}
/-- An element's cells. -/
theorem El.at8 (h : El ElemL w B A l) (i : Nat) (x : LV) (hx : l[i]? = some x) : ∃ b o, A = some ⟨b, o, none⟩ ∧ b < B ∧ w.cell? ⟨b, o + i * 8, none⟩ = some (.int .u32 (x.addr : Int)) ∧ w.cell? ⟨b, o + i * 8 + 1, none⟩ = some (.int .i64 x.bind) ∧ w.cell? ⟨b, o + i * 8 + 2, none⟩ = some (.string x.cb) ∧ w.cell? ⟨b, o + i * 8 + 3, none⟩ = some (.int .i64 x.unt) ∧ w.cell? ⟨b, o + i * 8 + 4, none⟩ = some (.int .i64 x.acked) ∧ w.cell? ⟨b, o + i * 8 + 5, none⟩ = some (.int .i64 x.told) ∧ w.cell? ⟨b, o + i * 8 + 6, none⟩ = some (.int .i64 x.at_) ∧ w.cell? ⟨b, o + i * 8 + 7, none⟩ = some (.int .i64 x.ver) := by
  obtain ⟨b, o, h1, h2, h3⟩ := h.at_ i x hx
  exact ⟨b, o, h1, h2, h3 0 _ rfl, h3 1 _ rfl, h3 2 _ rfl, h3 3 _ rfl, h3 4 _ rfl, h3 5 _ rfl, h3 6 _ rfl, h3 7 _ rfl⟩
end

/-- Block g is the document's table: its slice is v, its leases are L, in a row made since w0. -/
structure RT (w0 w : World) (g : Nat) (v : Value) (L : List LV) : Prop where
  box : w.heap[g]? = some (.cells #[v] 43 (0, 0))
  row : RowE ElemL w0 w v L
  lo : w0.heap.size ≤ g
section
variable {w0 w w' : World} {g : Nat} {v : Value} {L : List LV}
theorem RT.low (h : RT w0 w g v L) : Below w0.heap.size w0 w := h.row.low
theorem RT.lt (h : RT w0 w g v L) : g < w.heap.size := (Array.getElem?_eq_some_iff.1 h.box).1
theorem RT.apart (h : RT w0 w g v L) : v.ownBlock ≠ some g := h.row.apart h.box (by decide)
theorem RT.later (h : RT w0 w g v L) (hb : Below w.heap.size w w') : RT w0 w' g v L := ⟨(hb.block g h.lt).trans h.box, h.row.later hb, h.lo⟩
/-- What else is changed leaves it alone. -/
theorem RT.kept (h : RT w0 w g v L) {row : Option Nat} (hg : w.grownBy w' row) (h0 : ∀ k, row = some k → w0.heap.size ≤ k) (h1 : row ≠ some g) (h2 : row = none ∨ row ≠ v.ownBlock) : RT w0 w' g v L :=
  ⟨(hg.block g h.lt (fun e => h1 e.symm)).trans h.box, h.row.kept hg h0 h2, h.lo⟩
/-- What is read of it. -/
theorem RT.read (h : RT w0 w g v L) : ∃ A c, v = .slice A L.length c ∧ w.cell? ⟨g, 0, none⟩ = some (.slice A L.length c) ∧ L.length ≤ c ∧ El ElemL w w.heap.size A L := by
  obtain ⟨A, c, rfl, h3, h4⟩ := h.row.form
  have := cell_of_row w g 0 _ _ _ h.box
  exact ⟨A, c, rfl, by simpa using this, h3, h4⟩
end
def idxI (o : Option Nat) : Int := match o with | none => -1 | some k => (k : Int)

set_option maxRecDepth 100000 in
set_option maxHeartbeats 1000000 in
theorem rfind_any {w0 w : World} {g : Nat} {v : Value} {L : List LV} (a : Nat) (h : RT w0 w g v L) (hL : L.length ≤ 100000) :
    Calls Try.prog 30 #[.pointer (some ⟨g, 0, none⟩), .int .u32 (a : Int)] w fun e w' => e = .returned (.int .i64 (idxI (idxT L a))) ∧ w = w' := by
  obtain ⟨A, c, -, c0, hlc, HE⟩ := h.read
  have HE := Lib.hid HE
  clear h
  go_enter Try.func30, Try.ntmps30
  go_wp2
  go_loop [5] (fun i => ∃ j : Nat, j ≤ L.length ∧ i = .int .i64 j ∧ Hid (∀ x ∈ L.take j, x.addr ≠ a)) (fun i => L.length - (intOf i).toNat)
  case atStart => exact ⟨0, Nat.zero_le _, rfl, Lib.hid (by simp)⟩
  case round =>
    obtain ⟨j, hj, rfl, HN⟩ := hrel
    by_cases hlt : j < L.length
    · obtain ⟨x, hx⟩ : ∃ x, L[j]? = some x := ⟨_, List.getElem?_eq_getElem hlt⟩
      obtain ⟨b, o, rfl, hb, c00, -⟩ := HE.out.at8 j x hx
      have HX := Lib.hid hx
      clear hx
      by_cases he : x.addr = a
      · have HI : Hid (idxT L a = some j) := Lib.hid (by
          obtain ⟨h1, h2⟩ := List.getElem?_eq_some_iff.1 HX.out
          unfold idxT
          rw [List.findIdx?_eq_some_iff_getElem]
          refine ⟨h1, by rw [h2]; simpa using he, fun k hk => ?_⟩
          have := HN.out L[k] (List.mem_of_getElem? (by rw [List.getElem?_take, if_pos hk]; exact List.getElem?_eq_getElem (by omega)))
          simpa using this)
        have hq : ((x.addr : Int) == (a : Int)) = true := by simp [he]
        clear he
        go_wp2
        go_ret
        rw [HI.out]
        exact ⟨rfl, rfl⟩
      · have hq : ((x.addr : Int) == (a : Int)) = false := by simp; omega
        have HN2 : Hid (∀ y ∈ L.take (j + 1), y.addr ≠ a) := Lib.hid (by
          intro y hy
          rw [take_snoc_of L j x HX.out, List.mem_append, List.mem_singleton] at hy
          rcases hy with hy | rfl
          · exact HN.out y hy
          · exact he)
        clear he
        go_wp2
        go_round
        case rel => exact ⟨j + 1, by omega, by go_num, HN2⟩
        case measure => simp [intOf]; omega
    · have HI : Hid (idxT L a = none) := Lib.hid (by
        unfold idxT
        rw [List.findIdx?_eq_none_iff]
        intro x hx
        have := HN.out x (by rwa [List.take_of_length_le (by omega)])
        simpa using this)
      go_wp2
      go_ret
      rw [HI.out]
      exact ⟨rfl, rfl⟩

set_option maxRecDepth 100000 in
set_option maxHeartbeats 1000000 in
theorem rcnt_any {w0 w : World} {g : Nat} {v : Value} {L : List LV} (q : Int) (h : RT w0 w g v L) (hL : L.length ≤ 100000) :
    Calls Try.prog 20 #[.pointer (some ⟨g, 0, none⟩), .int .i64 q] w fun e w' => e = .returned (.int .i64 ((cntL L q : Nat) : Int)) ∧ w = w' := by
  obtain ⟨A, c, -, c0, hlc, HE⟩ := h.read
  have HE := Lib.hid HE
  clear h
  go_enter Try.func20, Try.ntmps20
  go_wp2
  go_loop [5, 6] (fun n i => ∃ j k : Nat, j ≤ L.length ∧ i = .int .i64 j ∧ n = .int .i64 k ∧ k ≤ j ∧ Hid (k = cntL (L.take j) q)) (fun _ i => L.length - (intOf i).toNat)
  case atStart => exact ⟨0, 0, Nat.zero_le _, rfl, rfl, Nat.le_refl _, Lib.hid rfl⟩
  case round =>
    obtain ⟨j, k, hj, rfl, rfl, hk, HK⟩ := hrel
    by_cases hlt : j < L.length
    · obtain ⟨x, hx⟩ : ∃ x, L[j]? = some x := ⟨_, List.getElem?_eq_getElem hlt⟩
      obtain ⟨b, o, rfl, hb, -, c01, -⟩ := HE.out.at8 j x hx
      have HS : Hid (cntL (L.take (j + 1)) q = cntL (L.take j) q + if x.bind == q then 1 else 0) := Lib.hid (by
        rw [take_snoc_of L j x hx]
        unfold cntL
        rw [List.countP_append, List.countP_singleton])
      clear hx
      by_cases he : x.bind = q
      · have hq : (x.bind == q) = true := by simp [he]
        clear he
        go_wp2
        go_round
        case rel => exact ⟨j + 1, k + 1, by omega, by go_num, by go_num, by omega, Lib.hid (by rw [HS.out, HK.out, hq]; rfl)⟩
        case measure => simp [intOf]; omega
      · have hq : (x.bind == q) = false := by simp [he]
        clear he
        go_wp2
        go_round
        case rel => exact ⟨j + 1, k, by omega, by go_num, rfl, by omega, Lib.hid (by rw [HS.out, HK.out, hq]; rfl)⟩
        case measure => simp [intOf]; omega
    · obtain rfl : j = L.length := by omega
      have HK2 : Hid (cntL L q = k) := Lib.hid (by rw [HK.out, List.take_of_length_le (Nat.le_refl _)])
      go_wp2
      go_ret
      rw [HK2.out]
      exact ⟨rfl, rfl⟩

/-- What First answers. -/
def fstV (o : Option Nat) : Value := match o with | none => .tuple #[.int .u32 0, .bool false] | some a => .tuple #[.int .u32 (a : Int), .bool true]
set_option maxRecDepth 100000 in
set_option maxHeartbeats 1000000 in
theorem rfst_any {w0 w : World} {g : Nat} {v : Value} {L : List LV} (q : Int) (h : RT w0 w g v L) (hL : L.length ≤ 100000) :
    Calls Try.prog 14 #[.pointer (some ⟨g, 0, none⟩), .int .i64 q] w fun e w' => e = .returned (fstV (fstL L q)) ∧ w = w' := by
  obtain ⟨A, c, -, c0, hlc, HE⟩ := h.read
  have HE := Lib.hid HE
  clear h
  go_enter Try.func14, Try.ntmps14
  go_wp2
  go_loop [6] (fun i => ∃ j : Nat, j ≤ L.length ∧ i = .int .i64 j ∧ Hid (∀ x ∈ L.take j, x.bind ≠ q)) (fun i => L.length - (intOf i).toNat)
  case atStart => exact ⟨0, Nat.zero_le _, rfl, Lib.hid (by simp)⟩
  case round =>
    obtain ⟨j, hj, rfl, HN⟩ := hrel
    by_cases hlt : j < L.length
    · obtain ⟨x, hx⟩ : ∃ x, L[j]? = some x := ⟨_, List.getElem?_eq_getElem hlt⟩
      obtain ⟨b, o, rfl, hb, c00, c01, -⟩ := HE.out.at8 j x hx
      have HX := Lib.hid hx
      clear hx
      by_cases he : x.bind = q
      · have HI : Hid (fstL L q = some x.addr) := Lib.hid (by
          obtain ⟨h1, h2⟩ := List.getElem?_eq_some_iff.1 HX.out
          unfold fstL
          rw [List.find?_eq_some_iff_getElem.2 ⟨by simpa using he, j, h1, h2, fun k hk => ?_⟩]
          · rfl
          have := HN.out L[k] (List.mem_of_getElem? (by rw [List.getElem?_take, if_pos hk]; exact List.getElem?_eq_getElem (by omega)))
          simpa using this)
        have hq : (x.bind == q) = true := by simp [he]
        clear he
        go_wp2
        go_ret2
        rw [HI.out]
        exact ⟨rfl, rfl⟩
      · have hq : (x.bind == q) = false := by simp [he]
        have HN2 : Hid (∀ y ∈ L.take (j + 1), y.bind ≠ q) := Lib.hid (by
          intro y hy
          rw [take_snoc_of L j x HX.out, List.mem_append, List.mem_singleton] at hy
          rcases hy with hy | rfl
          · exact HN.out y hy
          · exact he)
        clear he
        go_wp2
        go_round
        case rel => exact ⟨j + 1, by omega, by go_num, HN2⟩
        case measure => simp [intOf]; omega
    · have HI : Hid (fstL L q = none) := Lib.hid (by
        unfold fstL
        rw [List.find?_eq_none.2 fun x hx => ?_]
        · rfl
        have := HN.out x (by rwa [List.take_of_length_le (by omega)])
        simpa using this)
      go_wp2
      go_ret2
      rw [HI.out]
      exact ⟨rfl, rfl⟩
end Go.Proofs.Ytjkkdmfpekkfhaa
