/- What addr.Parse calls, in the forms that its walk meets. -/
import Derived.Test.YtfddngpjaoffgaaDoorAddrT
import Derived.Test.YtfddngpjaoffgaaDoorShelfP
import Derived.Test.YtfddngpjaoffgaaDoorAddrG
namespace Go.Proofs.YtfddngpjaoffgaaDoor
open Go.RowKit

/-- The library's variables that the calls read. -/
structure Env (w : World) : Prop where
  tab : Tab w
  syn : ∃ ev, w.cell? ⟨0, 0, none⟩ = some ev ∧ (ev = .nilIface ∨ ∃ te pe, ev = .iface te pe)
  rng : ∃ ev, w.cell? ⟨1, 0, none⟩ = some ev ∧ (ev = .nilIface ∨ ∃ te pe, ev = .iface te pe)

theorem cell_kept {B : Nat} {w w' : World} (h : Below B w w') {a : Addr} {v : Value} (hc : w.cell? a = some v) (hB : w.heap.size ≤ B) : w'.cell? a = some v := by
  rw [h.cell (Nat.lt_of_lt_of_le (World.block_lt_of_cell? w a hc) hB)]
  exact hc

theorem Env.below {w w' : World} {B : Nat} (h : Env w) (hb : Below B w w') (hB : w.heap.size ≤ B) : Env w' :=
  ⟨h.tab.below hb hB, h.syn.imp fun _ hm => ⟨cell_kept hb hm.1 hB, hm.2⟩, h.rng.imp fun _ hm => ⟨cell_kept hb hm.1 hB, hm.2⟩⟩

/-- A part's number. -/
def octet (p : ByteArray) : Option Nat :=
  match Lib.parseUintB 8 p.data.toList with
  | .ok u => some u
  | _ => none

theorem puM_le (M : Nat) : ∀ (l : List UInt8) (acc u : Nat), acc ≤ M → Lib.parseUintM M acc l = .ok u → u ≤ M
  | [], acc, u, h, e => by
    unfold Lib.parseUintM at e
    cases e
    exact h
  | c :: r, acc, u, h, e => by
    unfold Lib.parseUintM at e
    split at e
    · split at e
      · cases e
      · split at e
        · cases e
        · exact puM_le M r _ u (by omega) e
    · cases e

theorem octet_lt {p : ByteArray} {u : Nat} (h : octet p = some u) : u < 256 := by
  unfold octet at h
  split at h
  · rename_i v hv
    cases h
    unfold Lib.parseUintB at hv
    split at hv
    · cases hv
    · have := puM_le _ _ _ _ (Nat.zero_le _) hv
      have : (2 : Nat) ^ 8 - 1 = 255 := rfl
      omega
  · cases h

theorem pu_any (p : ByteArray) (hs : p.size ≤ 281474976710656) (w : World) (hE : Env w) :
    Calls Tryd.prog 23 #[.string p, .int .i64 10, .int .i64 8] w fun e w' => Below w.heap.size w w' ∧
      ((∃ u : Nat, octet p = some u ∧ e = .returned (.tuple #[.int .u64 u, .nilIface])) ∨ (octet p = none ∧ ∃ n t x, e = .returned (.tuple #[.int .u64 n, .iface t x]))) := by
  cases h : Lib.parseUintB 8 p.data.toList with
  | ok u =>
    refine (Any.strconv_ParseUint_10_at8_ok Tryd.laysPu14 p (by omega) u h w).mono fun e w' ⟨he, hw⟩ => ⟨?_, .inl ⟨u, by unfold octet; rw [h], he⟩⟩
    rcases hw with rfl | rfl
    · exact Below.refl _ _
    · exact Lib.bytesWorld_below _ _ _
  | _ =>
    first
    | (obtain ⟨ev, hv, hev⟩ := hE.syn
       exact (Any.strconv_ParseUint_10_at8_syntax Tryd.laysPu14 p hs h ev w hv hev).mono fun e w' ⟨N, he, _, _, hB⟩ => ⟨hB, .inr ⟨by unfold octet; rw [h], _, _, _, he⟩⟩)
    | (obtain ⟨ev, hv, hev⟩ := hE.rng
       exact (Any.strconv_ParseUint_10_at8_range Tryd.laysPu14 p hs h ev w hv hev).mono fun e w' ⟨N, he, _, _, hB⟩ => ⟨hB, .inr ⟨by unfold octet; rw [h], _, _, _, he⟩⟩)

theorem split_sizes (sep : ByteArray) : ∀ (k : Nat) (s : ByteArray), ∀ p ∈ Lib.splitB sep 0 k s, p.size ≤ s.size
  | 0, s, p, hp => by
    rw [Lib.splitB_zero] at hp
    simp at hp
    rw [hp]
    exact Nat.le_refl _
  | k + 1, s, p, hp => by
    unfold Lib.splitB at hp
    split at hp
    · simp at hp
      rw [hp]
      exact Nat.le_refl _
    · rcases List.mem_cons.1 hp with h | h
      · rw [h, ByteArray.size_extract]
        omega
      · have := split_sizes sep k _ p h
        rw [ByteArray.size_extract] at this
        omega

theorem cuts_length (s : ByteArray) : (cuts s).length ≤ min 5 (s.size + 1) := by
  have := Lib.splitB_length_le point 0 (min 5 (s.size + 1) - 1) s
  unfold cuts
  omega

theorem split_any (s : ByteArray) (hs : s.size ≤ 140737488351232) (w : World) :
    Calls Tryd.prog 22 #[.string s, .string ⟨#[46]⟩, .int .i64 5] w fun e w' => e = .returned (.slice (some ⟨w.heap.size, 0, none⟩) (cuts s).length (min 5 (s.size + 1))) ∧ (∀ k p, (cuts s)[k]? = some p → w'.cell? ⟨w.heap.size, k, none⟩ = some (.string p)) ∧ w.heap.size < w'.heap.size ∧ Below w.heap.size w w' := by
  refine (splitn_any s hs w).mono fun e w' ⟨he, hw⟩ => ⟨he, ?_, ?_, ?_⟩
  · intro k p hp
    have hk := (List.getElem?_eq_some_iff.1 hp).1
    rw [hw]
    simp only [World.cell?, World.alloc_heap_new]
    show (Lib.cellsOf (cuts s) _)[k]? = _
    unfold Lib.cellsOf
    rw [List.getElem?_toArray, List.getElem?_append_left (by simpa using hk), List.getElem?_map, hp]
    rfl
  · rw [hw]; simp
  · rw [hw]; exact (Below.refl _ _).alloc (Nat.le_refl _) _
end Go.Proofs.YtfddngpjaoffgaaDoor
