/- The document's record of what was seen: pure (takeS, noteS), and in memory (DSn); News, Take. -/
import Derived.Test.YtekladmddfibaaaBoxC
import Derived.Deep.RegionHeld3
import Derived.Deep.RegionLaw
import Derived.Deep.DeepCutAuto
namespace Go.Proofs.Ytekladmddfibaaa
open Go.RowKit Go.Sort

structure NtV where
  addr : Nat
  xid : Int
  ok : Bool
def takeS (S : List NtV) (a : Nat) (x : Int) : Bool × Bool × Bool :=
  match S.find? fun n => n.addr == a with
  | none => (decide (0 < x), false, false)
  | some n => (decide (n.xid < x), (x == n.xid) && n.ok, x == n.xid)
def noteS (S : List NtV) (a : Nat) (x : Int) (ok : Bool) : List NtV :=
  if (takeS S a x).1 = true then
    match S.findIdx? fun n => n.addr == a with
    | none => S ++ [⟨a, x, ok⟩]
    | some i => S.set i ⟨a, x, ok⟩
  else S
theorem note_len (S : List NtV) (a : Nat) (x : Int) (ok : Bool) : (noteS S a x ok).length ≤ S.length + 1 := by
  unfold noteS
  split
  · split
    · simp
    · rw [List.length_set]; omega
  · omega
theorem found_at {S : List NtV} {j a : Nat} {n : NtV} (h : ∀ y ∈ S.take j, y.addr ≠ a) (hx : S[j]? = some n) (ha : n.addr = a) : (S.find? fun n => n.addr == a) = some n ∧ (S.findIdx? fun n => n.addr == a) = some j := by
  obtain ⟨hj, he⟩ := List.getElem?_eq_some_iff.1 hx
  have hS : S = S.take j ++ n :: S.drop (j + 1) := by rw [← he, ← List.drop_eq_getElem_cons hj, List.take_append_drop]
  have hl : (S.take j).length = j := by rw [List.length_take]; omega
  have hn : (S.take j).find? (fun n => n.addr == a) = none := List.find?_eq_none.2 fun y hy => by simpa using h y hy
  have hi : (S.take j).findIdx? (fun n => n.addr == a) = none := List.findIdx?_eq_none_iff.2 fun y hy => by simpa using h y hy
  constructor
  · rw [hS, List.find?_append, hn, List.find?_cons_of_pos (by simpa using ha)]
    rfl
  · rw [hS, List.findIdx?_append, hi, List.findIdx?_cons, if_pos (by simpa using ha), hl]
    simp
theorem found_no {S : List NtV} {a : Nat} (h : ∀ y ∈ S, y.addr ≠ a) : (S.find? fun n => n.addr == a) = none ∧ (S.findIdx? fun n => n.addr == a) = none :=
  ⟨List.find?_eq_none.2 fun y hy => by simpa using h y hy, List.findIdx?_eq_none_iff.2 fun y hy => by simpa using h y hy⟩

abbrev NtV.cells (n : NtV) : Array Value := #[.int .u32 (n.addr : Int), .int .i64 n.xid, .bool n.ok]
def ElemN : Elem Try.prog NtV where
  e := 81
  ty := 74
  m := 3
  bytes := 24
  zero := .agg #[.int .u32 0, .int .i64 0, .bool false]
  cells := fun x => x.cells.toList
  hm := by decide
  hb0 := by decide
  hb := by decide
  len := fun _ => rfl
  one := fun v u hu => by
    simp at hu
    rcases hu with rfl | rfl | rfl <;> rfl
  und := Try.underlying74
  info := by kernel_rfl
  hz := rfl
theorem El.at3 {w : World} {B : Nat} {A : Option Addr} {l : List NtV} (h : El ElemN w B A l) (i : Nat) (x : NtV) (hx : l[i]? = some x) : ∃ b o, A = some ⟨b, o, none⟩ ∧ b < B ∧ w.cell? ⟨b, o + i * 3, none⟩ = some (.int .u32 (x.addr : Int)) ∧ w.cell? ⟨b, o + i * 3 + 1, none⟩ = some (.int .i64 x.xid) ∧ w.cell? ⟨b, o + i * 3 + 2, none⟩ = some (.bool x.ok) := by
  obtain ⟨b, o, h1, h2, h3⟩ := h.at_ i x hx
  exact ⟨b, o, h1, h2, h3 0 _ rfl, h3 1 _ rfl, h3 2 _ rfl⟩

/-- Block r is the document's record: its slice is v. -/
structure DSn (w : World) (r : Nat) (v : Value) (S : List NtV) : Prop where
  box : w.heap[r]? = some (.cells #[v] 76 (0, 0))
  row : w.ownsRow (r + 1) ElemN.e ElemN.m v S.length (ecells ElemN S)
def SQ (r : Nat) (v : Value) (b : Nat) : Prop := b = r ∨ v.ownBlock = some b
section
variable {w w' : World} {r : Nat} {v : Value} {S : List NtV}
theorem DSn.rlt (h : DSn w r v S) : r < w.heap.size := (Array.getElem?_eq_some_iff.1 h.box).1
theorem DSn.lt (h : DSn w r v S) : ∀ b, SQ r v b → b < w.heap.size := by
  rintro b (rfl | hb)
  · exact h.rlt
  · exact (h.row.lt b hb).2
theorem DSn.ge (h : DSn w r v S) : ∀ b, SQ r v b → r ≤ b := by
  rintro b (rfl | hb)
  · exact Nat.le_refl _
  · have := (h.row.lt b hb).1; omega
theorem DSn.keep (h : DSn w r v S) (hk : KpT (SQ r v) w w') : DSn w' r v S :=
  ⟨(hk.block r (.inl rfl)).trans h.box, own_keep h.row fun b hb => hk.block b (.inr hb)⟩
theorem DSn.later (h : DSn w r v S) (hb : Below w.heap.size w w') : DSn w' r v S := h.keep (KpT.of_below hb h.lt)
theorem DSn.free (h : DSn w r v S) (i : Nat) : w.frozen? ⟨r, i, none⟩ = false := by
  simp [World.frozen?, h.box]
theorem DSn.read (h : DSn w r v S) : ∃ A c, v = .slice A S.length c ∧ w.cell? ⟨r, 0, none⟩ = some (.slice A S.length c) ∧ S.length ≤ c ∧ El ElemN w w.heap.size A S := by
  obtain ⟨A, c, rfl, hc⟩ := own_form h.row
  have := cell_of_row w r 0 _ _ _ h.box
  exact ⟨A, c, rfl, by simpa using this, hc, El.of_own h.row⟩
end

theorem rnews_any (w : World) : Calls Try.prog 18 #[] w fun e w' => ∃ v r, e = .returned (.pointer (some ⟨r, 0, none⟩)) ∧ DSn w' r v [] ∧ Below w.heap.size w w' ∧ ∀ b, SQ r v b → w.heap.size ≤ b := by
  go_enter Try.func18, Try.ntmps18
  go_wp2
  go_ret
  have h : DSn (w.alloc (.cells #[.slice none 0 0] 76)) w.heap.size (.slice none 0 0) [] := ⟨heap_alloc_new w _, World.ownsRow_nil _ _ _ _⟩
  exact ⟨_, _, rfl, h, (Below.refl _ _).alloc (Nat.le_refl _) _, h.ge⟩

set_option maxRecDepth 100000 in
set_option maxHeartbeats 4000000 in
theorem rtake_any {w : World} {r : Nat} {v : Value} {S : List NtV} (m : MsgV) (h : DSn w r v S) (hl : S.length ≤ 1000000) :
    Calls Try.prog 20 #[.pointer (some ⟨r, 0, none⟩), m.v] w fun e w' => e = .returned (.tuple #[.bool (takeS S m.addr m.xid).1, .bool (takeS S m.addr m.xid).2.1, .bool (takeS S m.addr m.xid).2.2]) ∧ Below w.heap.size w w' := by
  obtain ⟨w1, hw1⟩ : ∃ w1, w1 = w.alloc (mbox m) := ⟨_, rfl⟩
  have hB1 : Below w.heap.size w w1 := by rw [hw1]; exact (Below.refl _ _).alloc (Nat.le_refl _) _
  have HM := Lib.hid (show MBox w1 w.heap.size m by rw [hw1]; exact MBox.new w m)
  have HB1 := Lib.hid hB1
  have HD1 := Lib.hid (h.later hB1)
  have HW1 := Lib.hid hw1
  clear h hB1 hw1
  go_enter Try.func20, Try.ntmps20
  go_upto_region 1 with fail
  rw [← HW1.out]
  go_wp2
  go_loopw [7] (fun i wr => ∃ j n : Nat, j ≤ S.length ∧ i = .int .i64 j ∧ wr = w1.drewN n ∧ Hid (∀ y ∈ S.take j, y.addr ≠ m.addr)) (fun i _ => S.length - (intOf i).toNat)
  case atStart => exact ⟨0, 0, Nat.zero_le _, rfl, rfl, Lib.hid (by simp)⟩
  case round =>
    obtain ⟨j, n, hj, rfl, rfl, HN⟩ := hrel
    obtain ⟨A, c, hv, c0, hlc, hE⟩ := HD1.out.read
    have HE := Lib.hid hE
    have HV := Lib.hid hv
    have c3 := HM.out.at_ 3
    have c5 := HM.out.at_ 5
    clear hE hv
    by_cases hlt : j < S.length
    · obtain ⟨x, hx⟩ : ∃ x, S[j]? = some x := ⟨_, List.getElem?_eq_getElem hlt⟩
      obtain ⟨b, o, rfl, hb, x0, x1, x2⟩ := HE.out.at3 j x hx
      have HX := Lib.hid hx
      clear hx
      by_cases he : x.addr = m.addr
      · have HI : Hid (takeS S m.addr m.xid = (decide (x.xid < m.xid), (m.xid == x.xid) && x.ok, m.xid == x.xid)) := Lib.hid (by unfold takeS; rw [(found_at HN.out HX.out he).1])
        have hq : ((x.addr : Int) == (m.addr : Int)) = true := by simp [he]
        clear he
        by_cases hs : m.xid = x.xid
        · have hsz : (m.xid == x.xid) = true := by simp [hs]
          rw [hsz] at HI
          clear hs
          go_wp2_with fail
          go_quiet (fail)
          go_wp2_with fail
          go_quiet (fail)
          go_wp2_with fail
          go_quiet (fail)
          go_wp2
          refine bodyPost_ret (results_tmp3 rfl _ _ _) rfl ?_
          rw [HI.out]
          exact ⟨rfl, HB1.out.trans ⟨rfl, rfl, rfl, Nat.le_refl _, fun _ _ => rfl⟩⟩
        · have hsz : (m.xid == x.xid) = false := by simpa using hs
          rw [hsz] at HI
          clear hs
          go_wp2_with fail
          go_quiet (fail)
          go_wp2_with fail
          go_quiet (fail)
          go_wp2_with fail
          go_quiet (fail)
          go_wp2
          refine bodyPost_ret (results_tmp3 rfl _ _ _) rfl ?_
          rw [HI.out]
          exact ⟨rfl, HB1.out.trans ⟨rfl, rfl, rfl, Nat.le_refl _, fun _ _ => rfl⟩⟩
      · have hq : ((x.addr : Int) == (m.addr : Int)) = false := by simp; omega
        have HN2 : Hid (∀ y ∈ S.take (j + 1), y.addr ≠ m.addr) := Lib.hid (by
          intro y hy
          rw [take_snoc_of S j x HX.out, List.mem_append, List.mem_singleton] at hy
          rcases hy with hy | rfl
          · exact HN.out y hy
          · exact he)
        clear he
        go_wp2_with fail
        go_quiet (fail)
        go_wp2
        go_roundw
        case rel => exact ⟨j + 1, n + nq, by omega, by go_num, rfl, HN2⟩
        case measure => simp [intOf]; omega
    · have HI : Hid (takeS S m.addr m.xid = (decide (0 < m.xid), false, false)) := Lib.hid (by unfold takeS; rw [(found_no (fun y hy => HN.out y (by rwa [List.take_of_length_le (by omega)]))).1])
      go_wp2
      refine bodyPost_ret (results_tmp3 rfl _ _ _) rfl ?_
      rw [HI.out]
      exact ⟨rfl, HB1.out.trans ⟨rfl, rfl, rfl, Nat.le_refl _, fun _ _ => rfl⟩⟩
end Go.Proofs.Ytekladmddfibaaa
