/- Joined texts: OptD, RefD, OptF, OptN. -/
import Derived.Test.YtmaohnbddlccdaaGreatMrgOptM
import Derived.Laws.BitsAllLaws
import Derived.Laws.BitsLemmas

/- Plain mathematics of decoding options. -/
section
namespace Go.Proofs.YtmaohnbddlccdaaGreat.NO

theorem splitL_lt {l d b : List UInt8} (h : splitL l = some (d, b)) : b.length < l.length := by
  match l, h with
  | x :: y :: r, h =>
    simp only [splitL] at h
    split at h
    · simp only [Option.some.injEq, Prod.mk.injEq] at h
      obtain ⟨_, rfl⟩ := h
      simp
      omega
    · cases h

/-- The options that bytes stand for. -/
def decL (l : List UInt8) : Option (List (Int × List UInt8)) :=
  match _hs : skipL l with
  | [] => none
  | x :: r =>
    if x = 255 then (if (skipL r).isEmpty then some [] else none)
    else
      match _hp : splitL (x :: r) with
      | none => none
      | some (d, b) => (decL b).map (((x.toNat : Int), d) :: ·)
termination_by l.length
decreasing_by
  have h1 := splitL_lt _hp
  have h2 := skipL_length l
  rw [_hs] at h2
  omega

theorem decL_nil {l : List UInt8} (h : skipL l = []) : decL l = none := by
  rw [decL]; split
  · rfl
  · rename_i x r hs; rw [h] at hs; cases hs
theorem decL_end {l r : List UInt8} (h : skipL l = 255 :: r) : decL l = if (skipL r).isEmpty then some [] else none := by
  rw [decL]; split
  · rename_i hs; rw [h] at hs; cases hs
  · rename_i x r' hs
    rw [h] at hs
    obtain ⟨rfl, rfl⟩ := List.cons.inj hs
    rw [if_pos rfl]
theorem decL_cut {l r : List UInt8} {x : UInt8} (h : skipL l = x :: r) (hx : x ≠ 255) (hp : splitL (x :: r) = none) : decL l = none := by
  rw [decL]; split
  · rfl
  · rename_i x' r' hs
    rw [h] at hs
    obtain ⟨rfl, rfl⟩ := List.cons.inj hs
    rw [if_neg hx]
    split
    · rfl
    · rename_i d b hp'; rw [hp] at hp'; cases hp'
theorem decL_one {l r d b : List UInt8} {x : UInt8} (h : skipL l = x :: r) (hx : x ≠ 255) (hp : splitL (x :: r) = some (d, b)) : decL l = (decL b).map (((x.toNat : Int), d) :: ·) := by
  rw [decL]; split
  · rename_i hs; rw [h] at hs; cases hs
  · rename_i x' r' hs
    rw [h] at hs
    obtain ⟨rfl, rfl⟩ := List.cons.inj hs
    rw [if_neg hx]
    split
    · rename_i hp'; rw [hp] at hp'; cases hp'
    · rename_i d' b' hp'
      rw [hp] at hp'
      simp only [Option.some.injEq, Prod.mk.injEq] at hp'
      obtain ⟨rfl, rfl⟩ := hp'
      rfl
theorem decL_skip (r : List UInt8) : decL (0 :: r) = decL r := by
  have e := skipL_zero r
  match hs : skipL r with
  | [] => rw [decL_nil hs, decL_nil (e.trans hs)]
  | x :: t =>
    by_cases hx : x = 255
    · subst hx; rw [decL_end hs, decL_end (e.trans hs)]
    · match hp : splitL (x :: t) with
      | none => rw [decL_cut hs hx hp, decL_cut (e.trans hs) hx hp]
      | some (d, b) => rw [decL_one hs hx hp, decL_one (e.trans hs) hx hp]

/-- What is answered: options, and the error's number. -/
def decR (b : List UInt8) : List (Int × List UInt8) × Int :=
  if 1024 < b.length then ([], 2) else match decL b with
    | some l => (l, 0)
    | none => ([], 2)
theorem decR_big {b : List UInt8} (h : 1024 < b.length) : decR b = ([], 2) := by simp [decR, h]
theorem decR_none {b : List UInt8} (h : decL b = none) : decR b = ([], 2) := by
  unfold decR; split
  · rfl
  · rw [h]
theorem decR_some {b : List UInt8} {l : List (Int × List UInt8)} (hb : ¬ 1024 < b.length) (h : decL b = some l) : decR b = (l, 0) := by
  unfold decR; rw [if_neg hb, h]

end Go.Proofs.YtmaohnbddlccdaaGreat.NO
end

/- lessorref02.Decode. -/
section
namespace Go.Proofs.YtmaohnbddlccdaaGreat.NO
open Go.RowKit

/-- Options and an error's number are answered; nothing that lay has turned. -/
def GivesO (w : World) (l : List (Int × List UInt8)) (k : Int) (e : Ending) (w' : World) : Prop :=
  ∃ A c L, e = .returned (.tuple #[.slice A L.length c, .int .i64 k]) ∧ absL L = l ∧ Op w' w'.heap.size A L ∧ Below w.heap.size w w'

/-- Each option's data lies in a row of its own, from block lo on. -/
def OwnAll (w : World) (lo : Nat) (L : List OptV) : Prop := ∀ x ∈ L, Own8 w lo (.slice x.ad x.data.length x.cap) x.data

theorem own_apart {w : World} {b1 b2 : Nat} {e1 e2 : TypeId} {s1 s2 n1 n2 : Nat} {v1 v2 : Value} {x1 x2 : List Value} (h1 : w.ownsRow b1 e1 s1 v1 n1 x1) (h2 : w.ownsRow b2 e2 s2 v2 n2 x2) (hne : e1 ≠ e2) : v1.ownBlock = none ∨ v1.ownBlock ≠ v2.ownBlock := by
  rcases h1.2 with ⟨rfl, _⟩ | ⟨g1, _, _, rfl, _, hh1, _⟩
  · exact .inl rfl
  · rcases h2.2 with ⟨rfl, _⟩ | ⟨g2, _, _, rfl, _, hh2, _⟩
    · exact .inr (by simp [Value.ownBlock])
    · right
      intro e
      simp [Value.ownBlock] at e
      subst e
      rw [hh1] at hh2
      injection hh2 with hh2
      injection hh2 with _ ht
      exact hne ht

theorem OwnAll.kept {w w' : World} {lo : Nat} {L : List OptV} (h : OwnAll w lo L) {b : Nat} {s n : Nat} {v : Value} {xs : List Value} (hv : w.ownsRow b 68 s v n xs) (hg : w.grownBy w' v.ownBlock) : OwnAll w' lo L :=
  fun x hx => (h x hx).kept hg (own_apart (h x hx) hv (by decide))
theorem OwnAll.alloc {w : World} {lo : Nat} {L : List OptV} (h : OwnAll w lo L) (o : Obj) : OwnAll (w.alloc o) lo L := fun x hx => (h x hx).alloc o
theorem OwnAll.drew {w : World} {lo : Nat} {L : List OptV} (h : OwnAll w lo L) : OwnAll w.drew lo L := fun x hx => (h x hx).drew
theorem OwnAll.none_ (w : World) (lo : Nat) : OwnAll w lo [] := fun x hx => by simp at hx
theorem OwnAll.snoc {w : World} {lo : Nat} {L : List OptV} {x : OptV} (h : OwnAll w lo L) (hx : Own8 w lo (.slice x.ad x.data.length x.cap) x.data) : OwnAll w lo (L ++ [x]) := by
  intro y hy
  rcases List.mem_append.1 hy with hy | hy
  · exact h y hy
  · simp at hy; subst hy; exact hx
theorem OwnAll.op {w : World} {lo base : Nat} {A : Option Addr} {n c : Nat} {L : List OptV} (h : OwnAll w lo L) (hv : w.ownsRow base 68 2 (.slice A n c) n (ocells L)) : Op w w.heap.size A L :=
  Op.of_own hv fun x hx => By.of_own (h x hx)
/-- Byte rows of the call's own stay where a row of bytes that is laid later grows. -/
theorem OwnAll.grown8 {w w' : World} {lo : Nat} {L : List OptV} (h : OwnAll w lo L) {row : Option Nat} (hg : w.grownBy w' row) (hr : ∀ x ∈ L, (Value.slice x.ad x.data.length x.cap).ownBlock = none ∨ (Value.slice x.ad x.data.length x.cap).ownBlock ≠ row) : OwnAll w' lo L :=
  fun x hx => (h x hx).kept hg (hr x hx)

theorem own_ne2 {w : World} {base : Nat} {e : TypeId} {size n : Nat} {v : Value} {xs : List Value} (h : w.ownsRow base e size v n xs) {v2 : Value} (hg : v2.ownBlock = some w.heap.size) : v.ownBlock = none ∨ v.ownBlock ≠ v2.ownBlock :=
  .inr fun e => by rw [hg] at e; have := (h.lt _ e).2; omega

/-- Where decoding stands: what has been read, and what is left. -/
def Left (b : List UInt8) (i : Nat) (L : List OptV) : Prop := decL b = (decL (b.drop i)).map (absL L ++ ·)

theorem Left.start (b : List UInt8) : Left b 0 [] := by
  unfold Left
  rw [List.drop_zero]
  cases decL b <;> simp [absL]
theorem drop_cons {b : List UInt8} {i : Nat} {x : UInt8} (h : b[i]? = some x) : b.drop i = x :: b.drop (i + 1) := by
  obtain ⟨h1, h2⟩ := List.getElem?_eq_some_iff.1 h
  rw [List.drop_eq_getElem_cons h1, h2]
theorem Left.skip {b : List UInt8} {i : Nat} {L : List OptV} (h : Left b i L) (hx : b[i]? = some 0) : Left b (i + 1) L := by
  unfold Left at *
  rw [h, drop_cons hx, decL_skip]

theorem Left.more {b : List UInt8} {i j : Nat} {L : List OptV} (h : Left b i L) {x : UInt8} {r d : List UInt8} {A2 : Option Addr} {c2 : Nat} (e1 : skipL (b.drop i) = x :: r) (hx : x ≠ 255) (hp : splitL (x :: r) = some (d, b.drop j)) : Left b j (L ++ [⟨(x.toNat : Int), A2, c2, d⟩]) := by
  unfold Left at *
  rw [h, decL_one e1 hx hp]
  cases decL (b.drop j) <;> simp [absL, OptV.abs]

end Go.Proofs.YtmaohnbddlccdaaGreat.NO
end

/- option.first and option.Find; lessorref02.Find. -/
section
namespace Go.Proofs.YtmaohnbddlccdaaGreat.NO
open Go.RowKit

/-- Where the first option with a code is, or -1. -/
def firstL : List (Int × List UInt8) → Int → Int
  | [], _ => -1
  | x :: r, c => if x.1 = c then 0 else if firstL r c < 0 then -1 else firstL r c + 1
theorem first_none (l : List (Int × List UInt8)) (c : Int) (h : ∀ x ∈ l, x.1 ≠ c) : firstL l c = -1 := by
  induction l with
  | nil => rfl
  | cons x r ih => rw [firstL, if_neg (h x (by simp)), ih (fun y hy => h y (by simp [hy])), if_pos (by omega)]
theorem first_at (l : List (Int × List UInt8)) (c : Int) (k : Nat) (x : Int × List UInt8) (hx : l[k]? = some x) (hc : x.1 = c) (h : ∀ y ∈ l.take k, y.1 ≠ c) : firstL l c = k := by
  induction l generalizing k with
  | nil => simp at hx
  | cons y r ih =>
    cases k with
    | zero => simp at hx; subst hx; rw [firstL, if_pos hc]; rfl
    | succ k =>
      rw [firstL, if_neg (h y (by simp)), ih k (by simpa using hx) (fun z hz => h z (by simp [hz])), if_neg (by omega)]
      omega
/-- The data of the first option with a code. -/
def findL : List (Int × List UInt8) → Int → List UInt8 × Bool
  | [], _ => ([], false)
  | x :: r, c => if x.1 = c then (x.2, true) else findL r c
theorem find_none (l : List (Int × List UInt8)) (c : Int) (h : ∀ x ∈ l, x.1 ≠ c) : findL l c = ([], false) := by
  induction l with
  | nil => rfl
  | cons x r ih => rw [findL, if_neg (h x (by simp)), ih (fun y hy => h y (by simp [hy]))]
theorem find_at (l : List (Int × List UInt8)) (c : Int) (k : Nat) (x : Int × List UInt8) (hx : l[k]? = some x) (hc : x.1 = c) (h : ∀ y ∈ l.take k, y.1 ≠ c) : findL l c = (x.2, true) := by
  induction l generalizing k with
  | nil => simp at hx
  | cons y r ih =>
    cases k with
    | zero => simp at hx; subst hx; rw [findL, if_pos hc]
    | succ k => rw [findL, if_neg (h y (by simp)), ih k (by simpa using hx) (fun z hz => h z (by simp [hz]))]
theorem first_cases (l : List (Int × List UInt8)) (c : Int) : (firstL l c = -1 ∧ ∀ x ∈ l, x.1 ≠ c) ∨ ∃ k x, firstL l c = (k : Nat) ∧ l[k]? = some x ∧ x.1 = c ∧ ∀ y ∈ l.take k, y.1 ≠ c := by
  induction l with
  | nil => exact .inl ⟨rfl, fun x h => by simp at h⟩
  | cons x r ih =>
    by_cases hx : x.1 = c
    · exact .inr ⟨0, x, by rw [firstL, if_pos hx]; rfl, rfl, hx, fun y h => by simp at h⟩
    · rcases ih with ⟨h1, h2⟩ | ⟨k, y, h1, h2, h3, h4⟩
      · refine .inl ⟨by rw [firstL, if_neg hx, h1, if_pos (by omega)], fun y hy => ?_⟩
        rcases List.mem_cons.1 hy with rfl | hy
        · exact hx
        · exact h2 y hy
      · refine .inr ⟨k + 1, y, by rw [firstL, if_neg hx, h1, if_neg (by omega)]; omega, by simpa using h2, h3, fun z hz => ?_⟩
        rw [List.take_succ_cons] at hz
        rcases List.mem_cons.1 hz with rfl | hz
        · exact hx
        · exact h4 z hz

theorem first1_any (x : OptV) (Bc : Nat) (code : Int) (w : World) (hc : w.cell? ⟨Bc, 0, none⟩ = some (.int .i64 code)) (hB : Bc < w.heap.size) :
    Calls Tryz.prog 150 #[x.v, .pointer (some ⟨Bc, 0, none⟩)] w fun e w' => e = .returned (.bool (x.code == code)) ∧ w' = w.alloc (obox x) := by
  have hc' : (w.alloc (obox x)).cell? ⟨Bc, 0, none⟩ = some (.int .i64 code) := (World.cell?_alloc_lt w _ ⟨Bc, 0, none⟩ hB).trans hc
  go_enter Tryz.func150, Tryz.ntmps150
  go_wp2
  go_ret
  exact ⟨rfl, rfl⟩

set_option maxRecDepth 100000 in
set_option maxHeartbeats 1000000 in
theorem indexFunc_any (A : Option Addr) (c : Nat) (L : List OptV) (Bc : Nat) (code : Int) (w : World) (hr : Op w w.heap.size A L) (hL : L.length ≤ 9223372036854775807) (hc : w.cell? ⟨Bc, 0, none⟩ = some (.int .i64 code)) (hBc : Bc < w.heap.size) :
    Calls Tryz.prog 149 #[.slice A L.length c, .func (.func 150) #[] #[.pointer (some ⟨Bc, 0, none⟩)]] w fun e w' => e = .returned (.int .i64 (firstL (absL L) code)) ∧ Below w.heap.size w w' := by
  go_enter Tryz.func149, Tryz.ntmps149
  go_wp2
  go_loopw [8] (fun i wr => ∃ k : Nat, k ≤ L.length ∧ i = .int .i64 k ∧ (∀ y ∈ (absL L).take k, y.1 ≠ code) ∧ Below w.heap.size w wr) (fun i _ => L.length - (intOf i).toNat)
  case atStart => exact ⟨0, Nat.zero_le _, rfl, fun y h => by simp at h, Below.refl _ _⟩
  case round =>
    obtain ⟨k, hk, rfl, hno, hB⟩ := hrel
    have HN := Lib.hid hno
    clear hno
    by_cases hlt : k < L.length
    · obtain ⟨x, hx⟩ : ∃ x, L[k]? = some x := ⟨_, List.getElem?_eq_getElem hlt⟩
      obtain ⟨b, o, rfl, hb, hc1, hc2⟩ := (hr.below hB).at_ k x hx
      have HX := Lib.hid (absL_at hx)
      have HF := Lib.hid (first1_any x Bc code wr ((hB.cell (p := ⟨Bc, 0, none⟩) hBc).trans hc) (Nat.lt_of_lt_of_le hBc hB.size))
      clear hx
      cases hq : (x.code == code)
      · rw [hq] at HF
        have HQ := Lib.hid (show x.code ≠ code by simpa using hq)
        clear hq
        go_wp2_with fail
        refine HF.out.mono ?_
        rintro e w' ⟨rfl, rfl⟩
        go_wp2
        go_roundw
        case rel =>
          refine ⟨k + 1, by omega, by go_num, fun y hy => ?_, hB.alloc hB.size _⟩
          rw [take_snoc_of _ _ _ HX.out] at hy
          rcases List.mem_append.1 hy with hy | hy
          · exact HN.out y hy
          · simp at hy; subst hy; exact HQ.out
        case measure => simp [intOf]; omega
      · rw [hq] at HF
        have HQ := Lib.hid (show x.code = code by simpa using hq)
        clear hq
        go_wp2_with fail
        refine HF.out.mono ?_
        rintro e w' ⟨rfl, rfl⟩
        go_wp2
        go_ret
        rw [first_at _ _ k _ HX.out HQ.out HN.out]
        exact ⟨rfl, hB.alloc hB.size _⟩
    · go_wp2
      go_ret
      rw [first_none _ _ (fun y hy => HN.out y (by rw [List.take_of_length_le (by rw [absL_length]; omega)]; exact hy))]
      exact ⟨rfl, hB⟩

set_option maxRecDepth 100000 in
set_option maxHeartbeats 1000000 in
theorem first_any (A : Option Addr) (c : Nat) (L : List OptV) (code : Int) (w : World) (hr : Op w w.heap.size A L) (hL : L.length ≤ 9223372036854775807) :
    Calls Tryz.prog 100 #[.slice A L.length c, .int .i64 code] w fun e w' => e = .returned (.int .i64 (firstL (absL L) code)) ∧ Below w.heap.size w w' := by
  have hB0 : Below w.heap.size w (w.alloc (.cells #[.int .i64 code] 3)) := (Below.refl _ _).alloc (Nat.le_refl _) _
  have HI := Lib.hid (indexFunc_any A c L w.heap.size code (w.alloc (.cells #[.int .i64 code] 3)) (hr.later hB0) hL (by simp) (by simp))
  clear hr
  go_enter Tryz.func100, Tryz.ntmps100
  go_wp2_with fail
  refine HI.out.mono ?_
  rintro e w1 ⟨rfl, hB1⟩
  go_wp2
  go_ret
  exact ⟨rfl, hB0.trans (hB1.mono hB0.size)⟩

/-- Bytes and a yes or no are answered. -/
def GivesF (w : World) (r : List UInt8 × Bool) (e : Ending) (w' : World) : Prop :=
  ∃ A c, e = .returned (.tuple #[.slice A r.1.length c, .bool r.2]) ∧ By w' w'.heap.size A r.1 ∧ Below w.heap.size w w'

set_option maxRecDepth 100000 in
set_option maxHeartbeats 1000000 in
theorem find_any (A : Option Addr) (c : Nat) (L : List OptV) (code : Int) (w : World) (hr : Op w w.heap.size A L) (hL : L.length ≤ 9223372036854775807) (hd : ∀ x ∈ L, x.data.length ≤ 1000) :
    Calls Tryz.prog 54 #[.slice A L.length c, .int .i64 code] w (GivesF w (findL (absL L) code)) := by
  have HF := Lib.hid (first_any A c L code w hr hL)
  have HR := Lib.hid hr
  have HDL := Lib.hid hd
  clear hr hd
  rcases first_cases (absL L) code with ⟨h1, h2⟩ | ⟨k, y, h1, h2, h3, h4⟩
  · rw [h1] at HF
    have HN := Lib.hid (find_none _ _ h2)
    clear h1 h2
    go_enter Tryz.func54, Tryz.ntmps54
    go_wp2_with fail
    refine HF.out.mono ?_
    rintro e w1 ⟨rfl, hB1⟩
    go_wp2
    go_ret2
    rw [HN.out]
    exact ⟨none, 0, rfl, By.nil, hB1⟩
  · rw [h1] at HF
    have HN := Lib.hid (find_at _ _ k y h2 h3 h4)
    have hlt : k < L.length := by have := (List.getElem?_eq_some_iff.1 h2).1; rwa [absL_length] at this
    obtain ⟨x, hx⟩ : ∃ x, L[k]? = some x := ⟨_, List.getElem?_eq_getElem hlt⟩
    have hyx : y = x.abs := by rw [absL_at hx] at h2; exact (Option.some.inj h2).symm
    subst hyx
    clear h1 h2 h3 h4
    have hxm := List.mem_of_getElem? hx
    have hdl := HDL.out x hxm
    obtain ⟨b, o, rfl, hb, hc1, hc2⟩ := HR.out.at_ k x hx
    have HD := Lib.hid (HR.out.data x hxm)
    clear hx hxm
    go_enter Tryz.func54, Tryz.ntmps54
    go_wp2_with fail
    refine HF.out.mono ?_
    rintro e w1 ⟨rfl, hB1⟩
    have hc3 := (hB1.cell (p := ⟨b, o + k * 2 + 1, none⟩) hb).trans hc2
    have HC := Lib.hid (clone_any x.ad x.cap x.data w1 (HD.out.later hB1) (by omega))
    go_wp2_with fail
    refine HC.out.mono ?_
    rintro e w2 ⟨A', c', rfl, hown, hB2⟩
    go_wp2
    go_ret2
    rw [HN.out]
    exact ⟨A', c', rfl, By.of_own hown, hB1.trans (hB2.mono hB1.size)⟩

set_option maxRecDepth 100000 in
set_option maxHeartbeats 1000000 in
theorem rfind_any (A : Option Addr) (c : Nat) (L : List OptV) (code : Int) (w : World) (hr : Op w w.heap.size A L) (hL : L.length ≤ 9223372036854775807) :
    Calls Tryz.prog 18 #[.slice A L.length c, .int .i64 code] w (GivesF w (findL (absL L) code)) := by
  go_enter Tryz.func18, Tryz.ntmps18
  go_wp2
  go_loop [6] (fun i => ∃ k : Nat, k ≤ L.length ∧ i = .int .i64 k ∧ (∀ y ∈ (absL L).take k, y.1 ≠ code)) (fun i => L.length - (intOf i).toNat)
  case atStart => exact ⟨0, Nat.zero_le _, rfl, fun y h => by simp at h⟩
  case round =>
    obtain ⟨k, hk, rfl, hno⟩ := hrel
    have HN := Lib.hid hno
    clear hno
    by_cases hlt : k < L.length
    · obtain ⟨x, hx⟩ : ∃ x, L[k]? = some x := ⟨_, List.getElem?_eq_getElem hlt⟩
      obtain ⟨b, o, rfl, hb, hc1, hc2⟩ := hr.at_ k x hx
      have HX := Lib.hid (absL_at hx)
      have HD := Lib.hid (hr.data x (List.mem_of_getElem? hx))
      clear hx
      cases hq : (x.code == code)
      · have HQ := Lib.hid (show x.code ≠ code by simpa using hq)
        go_wp2
        go_round
        case rel =>
          refine ⟨k + 1, by omega, by go_num, fun y hy => ?_⟩
          rw [take_snoc_of _ _ _ HX.out] at hy
          rcases List.mem_append.1 hy with hy | hy
          · exact HN.out y hy
          · simp at hy; subst hy; exact HQ.out
        case measure => simp [intOf]; omega
      · have HQ := Lib.hid (show x.code = code by simpa using hq)
        go_wp2
        go_ret2
        rw [find_at _ _ k _ HX.out HQ.out HN.out]
        exact ⟨x.ad, x.cap, rfl, HD.out, Below.refl _ _⟩
    · go_wp2
      go_ret2
      rw [find_none _ _ (fun y hy => HN.out y (by rw [List.take_of_length_le (by rw [absL_length]; omega)]; exact hy))]
      exact ⟨none, 0, rfl, By.nil, Below.refl _ _⟩
end Go.Proofs.YtmaohnbddlccdaaGreat.NO
end

/- option.sized, option.Number, option.Bytes, and the document's own. -/
section
namespace Go.Proofs.YtmaohnbddlccdaaGreat.NO
open Go.RowKit

def sizedB (n : Int) : Bool := n == 1 || n == 2 || n == 4
theorem sized_any (n : Int) (w : World) : Calls Tryz.prog 148 #[.int .i64 n] w fun e w' => e = .returned (.bool (sizedB n)) ∧ w = w' := by
  unfold sizedB
  cases h1 : (n == 1)
  · cases h2 : (n == 2)
    · go_enter Tryz.func148, Tryz.ntmps148
      go_wp2
      go_ret
      exact ⟨by simp, rfl⟩
    · go_enter Tryz.func148, Tryz.ntmps148
      go_wp2
      go_ret
      exact ⟨by simp, rfl⟩
  · go_enter Tryz.func148, Tryz.ntmps148
    go_wp2
    go_ret
    exact ⟨by simp, rfl⟩

/-- The number that bytes stand for. -/
def numL (l : List UInt8) : Nat := l.foldl (fun n c => n * 256 + c.toNat) 0
theorem numL_snoc (l : List UInt8) (c : UInt8) : numL (l ++ [c]) = numL l * 256 + c.toNat := by simp [numL]
theorem numL_lt (l : List UInt8) : numL l < 256 ^ l.length := by
  rw [← l.reverse_reverse]
  generalize l.reverse = r
  induction r with
  | nil => simp [numL]
  | cons x r ih =>
    rw [List.reverse_cons, numL_snoc, List.length_append, List.length_singleton, Nat.pow_succ]
    have := x.toNat_lt
    omega

/-- A number and an error's number. -/
def numR (l : List UInt8) : Int × Int := if sizedB l.length then (((numL l : Nat) : Int), 0) else (0, 2)

theorem or_nat (m x : Nat) (hx : x < 256) : (m * 256) ||| x = m * 256 + x := by
  have h := Nat.shiftLeft_add_eq_or_of_lt (i := 8) (b := x) (by omega) m
  rw [Nat.shiftLeft_eq] at h
  exact h.symm
theorem or_i64 (m x : Nat) (hm : m < 16777216) (hx : x < 256) : bits .or .i64 ((m : Int) * 256) (x : Int) = ((m * 256 + x : Nat) : Int) := by
  show IntKind.i64.wrap ((BitVec.ofInt 64 ((m : Int) * 256) ||| BitVec.ofInt 64 (x : Int)).toNat : Int) = _
  have e1 : (BitVec.ofInt 64 ((m : Int) * 256)).toNat = m * 256 := by
    rw [show ((m : Int) * 256) = ((m * 256 : Nat) : Int) by omega, BitVec.ofInt_natCast, BitVec.toNat_ofNat]
    exact Nat.mod_eq_of_lt (by omega)
  have e2 : (BitVec.ofInt 64 (x : Int)).toNat = x := by
    rw [BitVec.ofInt_natCast, BitVec.toNat_ofNat]
    exact Nat.mod_eq_of_lt (by omega)
  rw [BitVec.toNat_or, e1, e2, or_nat m x hx, IntKind.wrap_i64]
  omega

set_option maxRecDepth 100000 in
set_option maxHeartbeats 1000000 in
theorem number_any (A : Option Addr) (c : Nat) (l : List UInt8) (w : World) (h : By w w.heap.size A l) (hl : l.length ≤ 1000) :
    Calls Tryz.prog 99 #[.slice A l.length c] w fun e w' => e = .returned (.tuple #[.int .i64 (numR l).1, .int .i64 (numR l).2]) ∧ w = w' := by
  have HS := Lib.hid (fun W => sized_any (l.length : Int) W)
  cases hz : sizedB (l.length : Int)
  · rw [hz] at HS
    have HR := Lib.hid (show numR l = (0, 2) by unfold numR; rw [hz]; rfl)
    clear hz
    go_enter Tryz.func99, Tryz.ntmps99
    go_wp2_with (go_at_call 148; refine (HS.out _).mono ?_; rintro e w' ⟨rfl, rfl⟩)
    go_ret2
    rw [HR.out]
    exact ⟨rfl, rfl⟩
  · rw [hz] at HS
    have HR := Lib.hid (show numR l = (((numL l : Nat) : Int), 0) by unfold numR; rw [hz]; rfl)
    have hl4 : l.length ≤ 4 := by simp [sizedB] at hz; omega
    clear hz
    go_enter Tryz.func99, Tryz.ntmps99
    go_wp2_with (go_at_call 148; refine (HS.out _).mono ?_; rintro e w' ⟨rfl, rfl⟩)
    go_loop [4, 13] (fun n i => ∃ k m : Nat, k ≤ l.length ∧ i = .int .i64 k ∧ n = .int .i64 (m : Int) ∧ m = numL (l.take k)) (fun _ i => l.length - (intOf i).toNat)
    case atStart => exact ⟨0, 0, Nat.zero_le _, rfl, rfl, rfl⟩
    case round =>
      obtain ⟨k, m, hk, rfl, rfl, hm⟩ := hrel
      have HM := Lib.hid hm
      have hml : m < 256 ^ k := by rw [hm]; have := numL_lt (l.take k); rwa [List.length_take, Nat.min_eq_left hk] at this
      clear hm
      by_cases hlt : k < l.length
      · obtain ⟨x, hx⟩ : ∃ x, l[k]? = some x := ⟨_, List.getElem?_eq_getElem hlt⟩
        obtain ⟨b, o, rfl, hb, hc⟩ := h.at_ k x hx
        have hml2 : m < 16777216 := Nat.lt_of_lt_of_le hml (Nat.pow_le_pow_right (by omega) (show k ≤ 3 by omega))
        have hxx := x.toNat_lt
        go_wp2
        rw [or_i64 m x.toNat hml2 hxx]
        go_round
        case rel => exact ⟨k + 1, m * 256 + x.toNat, by omega, by go_num, rfl, by rw [take_snoc_of l k x hx, numL_snoc, ← HM.out]⟩
        case measure => simp [intOf]; omega
      · go_wp2
        go_ret2
        rw [HR.out, HM.out, List.take_of_length_le (by omega)]
        exact ⟨rfl, rfl⟩

/-- The bytes of a number, the greatest first. -/
def beL (n m : Nat) : List UInt8 := (List.range m).map fun i => UInt8.ofNat (n / 256 ^ (m - 1 - i))
def bytR (n many : Int) : List UInt8 × Int := if sizedB many && decide (0 ≤ n) && decide (n < 256 ^ many.toNat) then (beL n.toNat many.toNat, 0) else ([], 1)

theorem run_makeF (s : Nat) (hs : s ≤ 1048576) (W : World) : (Instr.makeSlice 29 (.int .i64 (s : Int)) (.int .i64 (s : Int))).run Tryz.prog W = .ok (.slice (some ⟨W.heap.size, 0, none⟩) s s) (W.alloc (.cells (madeCells #[.int .u8 0] s) 5)) := by
  obtain ⟨i, hi, hz0, hz1, hz2⟩ := info_parts Tryz.infoB
  have h := run_make (P := Tryz.prog) W 29 5 i (.int .u8 0) Tryz.underlying29 hi hz0 .i64 .i64 (s : Int) (s : Int) (by omega) (by omega) (by rw [hz2]; omega) (by omega)
  rw [hz1] at h
  simp only [Int.toNat_natCast, Nat.mul_one] at h
  exact h
theorem madeF_own (W : World) (B s : Nat) (hB : B ≤ W.heap.size) (hs : s ≤ 1048576) : (W.alloc (.cells (madeCells #[.int .u8 0] s) 5)).ownsRow B 5 1 (.slice (some ⟨W.heap.size, 0, none⟩) s s) s (bcells (List.replicate s 0)) := by
  have h := World.ownsRow_lit (base := B) (e := 5) (size := 1) W (madeCells #[.int .u8 0] s) s hB (by unfold maxLen; omega) (by rw [size_madeCells]; omega)
  rw [toList_madeCells_one] at h
  have e : bV 0 = .int .u8 0 := rfl
  simp only [bcells, List.map_replicate, e]
  exact h

theorem be_at (n m k : Nat) (hk : k < m) : (beL n m)[k]? = some (UInt8.ofNat (n / 256 ^ (m - 1 - k))) := by simp [beL, hk]
theorem beL_length (n m : Nat) : (beL n m).length = m := by simp [beL]
/-- The first k bytes are there. -/
def part (n m k : Nat) : List UInt8 := (beL n m).take k ++ List.replicate (m - k) 0
theorem part_length (n m k : Nat) (hk : k ≤ m) : (part n m k).length = m := by simp [part, beL_length]; omega
theorem part_zero (n m : Nat) : part n m 0 = List.replicate m 0 := by simp [part]
theorem part_all (n m : Nat) : part n m m = beL n m := by simp [part, List.take_of_length_le, beL_length]
theorem part_set (n m k : Nat) (hk : k < m) : (part n m k).set k (UInt8.ofNat (n / 256 ^ (m - 1 - k))) = part n m (k + 1) := by
  unfold part
  rw [take_snoc_of _ _ _ (be_at n m k hk), List.set_append_right _ _ (by simp [beL_length]; omega), show m - k = (m - (k + 1)) + 1 by omega, List.replicate_succ]
  simp [beL_length, Nat.min_eq_left (Nat.le_of_lt hk)]
theorem bcells_set (l : List UInt8) (k : Nat) (x : UInt8) : (bcells l).set k (bV x) = bcells (l.set k x) := by simp [bcells, List.map_set]
theorem byte_at (n j : Nat) : (n : Int) / 2 ^ (8 * j) % 256 = ((UInt8.ofNat (n / 256 ^ j)).toNat : Int) := by
  rw [UInt8.toNat_ofNat', show (256 : Nat) ^ j = 2 ^ (8 * j) by rw [Nat.pow_mul]]
  have : (n : Int) / 2 ^ (8 * j) % 256 = ((n / 2 ^ (8 * j) % 256 : Nat) : Int) := by rw [Int.natCast_emod, Int.natCast_ediv, Int.natCast_pow]; rfl
  rw [this]
theorem u8_of (n : Nat) : IntKind.u8.wrap (n : Int) = ((UInt8.ofNat n).toNat : Int) := by
  rw [UInt8.toNat_ofNat']
  simp [IntKind.wrap, IntKind.bits, IntKind.signed]

set_option maxRecDepth 100000 in
set_option maxHeartbeats 1000000 in
theorem bytes_ok (n m : Nat) (hm : m ≤ 4) (hs : sizedB (m : Int) = true) (hn : n < 256 ^ m) (w : World) :
    Calls Tryz.prog 128 #[.int .i64 (n : Int), .int .i64 (m : Int)] w (GivesB w (beL n m) 0) := by
  have HS := Lib.hid (fun W => sized_any (m : Int) W)
  rw [hs] at HS
  clear hs
  have hp : (256 : Nat) ^ m = 2 ^ (8 * m) := by rw [Nat.pow_mul]
  have hd0 : decide ((n : Int) < 0) = false := by simp
  have hd1 : ((n : Int) / 2 ^ (8 * m) != 0) = false := by
    have : n / 2 ^ (8 * m) = 0 := Nat.div_eq_of_lt (by rw [← hp]; exact hn)
    have h2 : (n : Int) / 2 ^ (8 * m) = 0 := by exact_mod_cast this
    simp [h2]
  have HN := Lib.hid hn
  have hmk := run_makeF m (by omega)
  clear hp hn
  go_enter Tryz.func128, Tryz.ntmps128
  go_wp2_with (go_at_call 148; refine (HS.out _).mono ?_; rintro e w' ⟨rfl, rfl⟩)
  clear hmk hd1
  have hown0 := madeF_own w w.heap.size m (Nat.le_refl _) (by omega)
  have hB0 : Below w.heap.size w (w.alloc (.cells (madeCells #[.int .u8 0] m) 5)) := (Below.refl _ _).alloc (Nat.le_refl _) _
  go_loopw [26] (fun i wr => ∃ k : Nat, k ≤ m ∧ i = .int .i64 k ∧ wr.ownsRow w.heap.size 5 1 (.slice (some ⟨w.heap.size, 0, none⟩) m m) m (bcells (part n m k)) ∧ Below w.heap.size w wr) (fun i _ => m - (intOf i).toNat)
  case atStart => exact ⟨0, Nat.zero_le _, rfl, by rw [part_zero]; exact hown0, hB0⟩
  case round =>
    obtain ⟨k, hk, rfl, hown, hB⟩ := hrel
    by_cases hlt : k < m
    · have hcell := hown.cellAt k (by omega)
      obtain ⟨y, hy⟩ : ∃ y, (bcells (part n m k))[k]? = some y := ⟨_, List.getElem?_eq_getElem (by rw [bcells_length, part_length _ _ _ hk]; exact hlt)⟩
      rw [hy] at hcell
      have hfr := hown.frozenAt k
      clear hy
      go_wp2
      rw [byte_at]
      have hst := hown.stored k (bV (UInt8.ofNat (n / 256 ^ (m - 1 - k))))
      rw [bcells_set, part_set n m k hlt] at hst
      go_roundw
      case rel => exact ⟨k + 1, by omega, by go_num, hst.1, own_below hB hB.size hown hst.2⟩
      case measure => simp [intOf]; omega
    · obtain rfl : k = m := by omega
      rw [part_all] at hown
      have hby := By.of_own hown
      go_wp2
      go_ret2
      exact ⟨some ⟨w.heap.size, 0, none⟩, k, by rw [beL_length]; rfl, hby, by rw [beL_length]; exact Nat.le_refl _, hB⟩

theorem bytR_bad_many {n many : Int} (h : sizedB many = false) : bytR n many = ([], 1) := by simp [bytR, h]
theorem bytR_neg {n many : Int} (h : n < 0) : bytR n many = ([], 1) := by
  unfold bytR
  rw [if_neg]
  simp
  omega
theorem lt_pow (n m : Nat) : decide ((n : Int) < 256 ^ (m : Int).toNat) = decide (n < 256 ^ m) := by
  rw [Int.toNat_natCast, show (256 : Int) ^ m = ((256 ^ m : Nat) : Int) by rw [Int.natCast_pow]; rfl]
  exact decide_eq_decide.2 Int.ofNat_lt
theorem bytR_big {n m : Nat} (h : 256 ^ m ≤ n) : bytR n m = ([], 1) := by
  unfold bytR
  rw [lt_pow, decide_eq_false (Nat.not_lt.2 h), Bool.and_false]
  rfl
theorem bytR_ok {n m : Nat} (hs : sizedB (m : Int) = true) (h : n < 256 ^ m) : bytR n m = (beL n m, 0) := by
  unfold bytR
  rw [lt_pow, decide_eq_true h, hs, decide_eq_true (Int.natCast_nonneg n), Int.toNat_natCast, Int.toNat_natCast]
  rfl

set_option maxRecDepth 100000 in
set_option maxHeartbeats 1000000 in
theorem bytes_any (n many : Int) (w : World) :
    Calls Tryz.prog 128 #[.int .i64 n, .int .i64 many] w (GivesB w (bytR n many).1 (bytR n many).2) := by
  cases hs : sizedB many
  · have HS := Lib.hid (fun W => sized_any many W)
    rw [hs] at HS
    have HR := Lib.hid (bytR_bad_many (n := n) hs)
    clear hs
    go_enter Tryz.func128, Tryz.ntmps128
    go_wp2_with (go_at_call 148; refine (HS.out _).mono ?_; rintro e w' ⟨rfl, rfl⟩)
    go_ret2
    rw [HR.out]
    exact ⟨none, 0, rfl, By.nil, Nat.le_refl _, Below.refl _ _⟩
  · obtain ⟨m, rfl⟩ : ∃ m : Nat, many = m := ⟨many.toNat, by simp [sizedB] at hs; omega⟩
    have hm4 : m ≤ 4 := by simp [sizedB] at hs; omega
    by_cases hn : n < 0
    · have HS := Lib.hid (fun W => sized_any (m : Int) W)
      rw [hs] at HS
      have HR := Lib.hid (bytR_neg (many := m) hn)
      have hd : decide (n < 0) = true := by simpa using hn
      clear hs
      go_enter Tryz.func128, Tryz.ntmps128
      go_wp2_with (go_at_call 148; refine (HS.out _).mono ?_; rintro e w' ⟨rfl, rfl⟩)
      go_ret2
      rw [HR.out]
      exact ⟨none, 0, rfl, By.nil, Nat.le_refl _, Below.refl _ _⟩
    · obtain ⟨q, rfl⟩ : ∃ q : Nat, n = q := ⟨n.toNat, by omega⟩
      by_cases hb : q < 256 ^ m
      · rw [bytR_ok hs hb]
        exact bytes_ok q m hm4 hs hb w
      · have HS := Lib.hid (fun W => sized_any (m : Int) W)
        rw [hs] at HS
        have HR := Lib.hid (bytR_big (n := q) (m := m) (by omega))
        have hd0 : decide ((q : Int) < 0) = false := by simp
        have hd1 : ((q : Int) / 2 ^ (8 * m) != 0) = true := by
          have h1 : 0 < q / 2 ^ (8 * m) := Nat.div_pos (by rw [Nat.pow_mul]; exact Nat.le_of_not_lt hb) (Nat.pow_pos (by omega))
          have h2 : (q : Int) / 2 ^ (8 * m) = ((q / 2 ^ (8 * m) : Nat) : Int) := by rw [Int.natCast_ediv, Int.natCast_pow]; rfl
          rw [h2]
          simp
          omega
        clear hs hb hn
        go_enter Tryz.func128, Tryz.ntmps128
        go_wp2_with (go_at_call 148; refine (HS.out _).mono ?_; rintro e w' ⟨rfl, rfl⟩)
        go_ret2
        rw [HR.out]
        exact ⟨none, 0, rfl, By.nil, Nat.le_refl _, Below.refl _ _⟩
end Go.Proofs.YtmaohnbddlccdaaGreat.NO
end
