/- slices.Sort at a row of addresses of the call's own: it holds the same ones behind it, rising. -/
import Derived.Test.YtiapmnedbjmmhaaPooA
import Derived.Test.YtiapmnedbjmmhaaSrtG
namespace Go.Proofs.Ytiapmnedbjmmhaa
open Go.Shelf Go.RowKit Go.Lib Go.Sort

/-- Addresses as the library's sort holds them. -/
def ints (l : List Nat) : Array Int := (l.map fun x : Nat => (x : Int)).toArray
theorem ints_size (l : List Nat) : (ints l).size = l.length := by simp [ints]
theorem ints_at (l : List Nat) (t : Nat) (h : t < l.length) : (ints l)[t]! = ((l[t] : Nat) : Int) := by
  rw [getElem!_pos _ t (by rw [ints_size]; exact h)]
  simp [ints]
theorem RowE.holdsU {w0 w : World} {p : Option Addr} {c : Nat} {l : List Nat} (h : RowE ElemA w0 w (.slice p l.length c) l) (hl : 0 < l.length) : ∃ g, p = some ⟨g, 0, none⟩ ∧ w0.heap.size ≤ g ∧ RowU w g 0 (ints l) := by
  obtain ⟨hx, h2⟩ := h.own
  rcases h2 with ⟨h3, h4⟩ | ⟨g, cap, cur, he, hb, hh, hn, hc, hs, ht⟩
  · omega
  · injection he with he1 he2 he3
    subst he1
    refine ⟨g, rfl, hb, fun t hlt => ?_, (Array.getElem?_eq_some_iff.1 hh).1⟩
    have hlt2 : t < l.length := by rw [ints_size] at hlt; exact hlt
    have e1 : (ecells ElemA l)[t]? = some (.int .u32 ((l[t] : Nat) : Int)) := by
      rw [ecellsA, List.getElem?_map, List.getElem?_eq_getElem hlt2]
      rfl
    rw [← ht, List.getElem?_take, if_pos (by show t < l.length * 1; omega), Array.getElem?_toList] at e1
    rw [Nat.zero_add, ints_at l t hlt2]
    refine ⟨(cell_of_row w g t _ _ _ hh).trans e1, ?_⟩
    simp [World.frozen?, hh]
theorem RowE.sortedU {w0 w w' : World} {g c : Nat} {l l' : List Nat} (h : RowE ElemA w0 w (.slice (some ⟨g, 0, none⟩) l.length c) l) (hl : l'.length = l.length) (S : SW enU w g 0 (ints l') w') : RowE ElemA w0 w' (.slice (some ⟨g, 0, none⟩) l'.length c) l' := by
  obtain ⟨n, os, rfl⟩ := S
  obtain ⟨hx, h2⟩ := h.own
  rcases h2 with ⟨h3, _⟩ | ⟨g', cap, cur, he, hb, hh, hn, hc, hs, ht⟩
  · cases h3
  · injection he with he1 he2 he3
    injection he1 with he1
    injection he1 with he1 _ _
    subst he1 he3
    have hg := (Array.getElem?_eq_some_iff.1 hh).1
    have hheap : ∀ j, j < w.heap.size → (sortWorld enU w g 0 n (ints l') os).heap[j]? = (w.heap.modify g (onCells (Go.Sort.putCells enU 0 (ints l'))))[j]? := by
      intro j hj
      show ((w.heap.modify g _) ++ os)[j]? = _
      rw [Array.getElem?_append_left (by simpa using hj)]
    have hcs : cur.size = c := by rw [hs]; exact Nat.mul_one c
    refine ⟨⟨by rw [ecells_length], .inr ⟨g, c, Go.Sort.putCells enU 0 (ints l') cur, rfl, hb, ?_, by rw [hl]; exact hn, hc, by unfold Go.Sort.putCells; rw [Array.size_mapIdx, hs], ?_⟩⟩, ?_⟩
    · rw [hheap g hg, Array.getElem?_modify, if_pos rfl, hh]
      rfl
    · rw [ecellsA]
      apply List.ext_getElem
      · unfold Go.Sort.putCells
        simp only [List.length_take, Array.length_toList, Array.size_mapIdx, hcs, List.length_map]
        show min (l'.length * 1) c = l'.length
        omega
      · intro t h1 h2
        rw [List.length_map] at h2
        rw [List.getElem_take, Array.getElem_toList, List.getElem_map]
        unfold Go.Sort.putCells
        rw [Array.getElem_mapIdx, if_pos ⟨Nat.zero_le _, by rw [Nat.zero_add, ints_size]; exact h2⟩, Nat.sub_zero, ints_at l' t h2]
    · refine h.low.trans ⟨rfl, rfl, rfl, ?_, fun j hj => ?_⟩
      · simp [sortWorld, grow, putRow, mapBlock]
      · rw [hheap j (Nat.lt_of_lt_of_le hj h.low.size), Array.getElem?_modify, if_neg (by omega)]
/-- What is in order, and the same, is the row as the document's order has it. -/
theorem sorted_ints {l : List Nat} {d : Array Int} (hp : PermIn 0 (ints l).size (ints l) d) (hs : SortedIn ltInt 0 (ints l).size d) : d = ints (srtA l) := by
  have hz : d.size = l.length := by rw [hp.1, ints_size]
  have hperm : d.toList.Perm (l.map fun x : Nat => (x : Int)) := by
    have h2 := hp.2.2
    rw [ints_size] at h2
    have e1 : (d.extract 0 l.length).toList = d.toList := by rw [← hz]; simp
    have e2 : ((ints l).extract 0 l.length).toList = l.map fun x : Nat => (x : Int) := by
      rw [← ints_size l]
      simp [ints]
      exact List.take_of_length_le (by simp)
    rwa [e1, e2] at h2
  have e : d.toList = (srtA l).map fun x : Nat => (x : Int) := by
    refine List.Perm.eq_of_pairwise (le := fun x y : Int => x ≤ y) (fun _ _ _ _ h1 h2 => by omega) ?_ ?_ (hperm.trans ((srtA_perm l).symm.map _))
    · rw [List.pairwise_iff_getElem]
      intro i j hi hj hij
      have hi2 : i < d.size := by simpa using hi
      have hj2 : j < d.size := by simpa using hj
      have h3 := hs i j (Nat.zero_le _) hij (by rw [ints_size]; omega)
      rw [getElem!_pos d j hj2, getElem!_pos d i hi2] at h3
      simp only [ltInt, decide_eq_false_iff_not] at h3
      simp only [Array.getElem_toList]
      omega
    · exact (srtA_up l).map _ (fun a b h => by omega)
  apply Array.ext'
  rw [e]
  simp [ints]

theorem uinsert_nil (p : Option Addr) (c : Nat) (w : World) : Calls Try.prog 34 #[.slice p 0 c, .int .i64 0, .int .i64 0] w fun e w' => e = .returned (.tuple #[]) ∧ w' = w := by
  go_enter Try.func34, Try.ntmps34
  go_wp2
  go_loopw [6] (fun vi wr => vi = .int .i64 1 ∧ wr = w) (fun _ _ => 0)
  case atStart => exact ⟨rfl, rfl⟩
  case round =>
    obtain ⟨rfl, rfl⟩ := hrel
    go_wp2
    go_end0
    exact ⟨rfl, rfl⟩
theorem upd_nil (p : Option Addr) (c : Nat) (w : World) : Calls Try.prog 31 #[.slice p 0 c, .int .i64 0, .int .i64 0, .int .i64 0] w fun e w' => e = .returned (.tuple #[]) ∧ w' = w := by
  have HI := hid (fun V => uinsert_nil p c V)
  go_enter Try.func31, Try.ntmps31
  go_wp2
  go_loopw [1, 2, 3, 8, 9] (fun s1 s2 s3 s8 s9 wr => s1 = .int .i64 0 ∧ s2 = .int .i64 0 ∧ s3 = .int .i64 0 ∧ s8 = .bool true ∧ s9 = .bool true ∧ wr = w) (fun _ _ _ _ _ _ => 0)
  case atStart => exact ⟨rfl, rfl, rfl, rfl, rfl, rfl⟩
  case round =>
    obtain ⟨rfl, rfl, rfl, rfl, rfl, rfl⟩ := hrel
    go_wp2_with (go_at_call 34; refine (HI.out _).mono ?_; rintro e w1 ⟨rfl, hw1⟩)
    (try simp only [Exit.inBlock, Exit.then])
    refine bodyPost_ret (results_none rfl _ _ _) rfl ?_
    exact ⟨rfl, by first | rfl | exact hw1⟩

theorem ulen_any (n : Nat) (hn : n < 4611686018427387904) (w : World) : Calls Try.prog 32 #[.int .u64 (n : Int)] w fun e w' => e = .returned (.int .i64 (bitsLen n : Nat)) ∧ w' = w := by
  have h := Any.bits_Len (SlLaysF0.n15.bits Try.layLen) (n : Int) w (by omega) (by omega)
  rwa [Int.toNat_natCast, bitLen_eq _ (by omega)] at h

set_option maxHeartbeats 2000000 in
set_option maxRecDepth 100000 in
theorem sortA_any {w0 w : World} {p : Option Addr} {c : Nat} {l : List Nat} (h : RowE ElemA w0 w (.slice p l.length c) l) (hl : l.length ≤ 100000) :
    Calls Try.prog 25 #[.slice p l.length c] w fun e w' => e = .returned (.tuple #[]) ∧ RowE ElemA w0 w' (.slice p (srtA l).length c) (srtA l) := by
  have hu := fun V => ulen_any l.length (by omega) V
  have hw : IntKind.u64.wrap (l.length : Int) = (l.length : Int) := by simp [IntKind.wrap, IntKind.bits, IntKind.signed]; omega
  have HU := hid hu
  clear hu
  by_cases h0 : l = []
  · subst h0
    have HN := hid (fun V => upd_nil p c V)
    have HR := hid h
    clear h hw
    have e0 : bitsLen ([] : List Nat).length = 0 := rfl
    go_enter Try.func25, Try.ntmps25
    go_wp2_with fail
    refine (HU.out _).mono ?_
    rintro e w1 ⟨rfl, hw1⟩
    rw [e0, hw1]
    go_wp2_with fail
    refine (HN.out _).mono ?_
    rintro e w2 ⟨rfl, hw2⟩
    rw [hw2]
    go_wp2
    go_end0
    exact ⟨rfl, HR.out⟩
  · have hpos : 0 < l.length := List.length_pos_iff.2 h0
    obtain ⟨g, rfl, hlo, R⟩ := h.holdsU hpos
    have hb : bitsLen l.length ≤ 62 := (bitsLen_le_iff l.length 62).2 (by omega)
    have hc := upd_any (c := c) (N := l.length) R (ints_size l) (by omega) (l.length + 1) 0 l.length (bitsLen l.length) (ints l) w (by omega) (Nat.zero_le _) (Nat.le_refl _) (ints_size l) (by omega) (SW.start R.holds) (.inl rfl)
    have hlen : (srtA l).length = l.length := (srtA_perm l).length_eq
    have HC := hid hc
    have HH := hid h
    have HE := hid hlen
    clear hc h h0 R hlo hlen
    go_enter Try.func25, Try.ntmps25
    go_wp2_with fail
    refine (HU.out _).mono ?_
    rintro e w1 ⟨rfl, hw1⟩
    rw [hw1]
    go_wp2_with fail
    refine HC.out.mono ?_
    rintro e w2 ⟨rfl, d', s2, p2, q2⟩
    have hd := sorted_ints (l := l) (d := d') (by rw [ints_size]; exact p2) (by rw [ints_size]; exact q2)
    rw [hd] at s2
    go_wp2
    go_end0
    exact ⟨rfl, HH.out.sortedU HE.out s2⟩
end Go.Proofs.Ytiapmnedbjmmhaa
