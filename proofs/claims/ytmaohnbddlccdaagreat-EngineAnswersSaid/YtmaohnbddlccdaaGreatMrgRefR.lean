/- Joined texts: RefR, RefP, RefQ, RefC, RefA. -/
import Derived.Test.YtmaohnbddlccdaaGreatMrgAddrN
import Derived.BigQuiet
import Derived.Deep.QuietTactic
import Derived.Laws.AppendOwnNone

/- lessorref01's readers: has, next, Count, At, Index: walks. -/
section
namespace Go.Proofs.YtmaohnbddlccdaaGreat
open Go.RowKit

def hasB (l : List (Nat × Nat)) (a : Nat) : Bool := decide (a ∈ addrsOf l)

theorem not_mem_snoc {l : List (Nat × Nat)} {k : Nat} {x : Nat × Nat} {a : Nat} (hx : l[k]? = some x) (h : a ∉ addrsOf (l.take k)) (hn : ¬ (x.1 ≤ a ∧ a ≤ x.2)) : a ∉ addrsOf (l.take (k + 1)) := by
  rw [addrsOf_take l k x hx, List.mem_append, mem_seg]
  rintro (h1 | h1)
  · exact h h1
  · exact hn ⟨h1.1, by omega⟩

set_option maxRecDepth 100000 in
set_option maxHeartbeats 1000000 in
theorem has_any (A : Option Addr) (c : Nat) (l : List (Nat × Nat)) (a : Nat) (w : World) (hr : Rg w w.heap.size A l) (hl : l.length ≤ 1000) :
    Calls Tryz.prog 98 #[.slice A l.length c, .int .i64 (a : Int)] w fun e w' => e = .returned (.bool (hasB l a)) ∧ w = w' := by
  go_enter Tryz.func98, Tryz.ntmps98
  go_wp2
  go_loop [5] (fun i => ∃ k : Nat, k ≤ l.length ∧ i = .int .i64 k ∧ a ∉ addrsOf (l.take k)) (fun i => l.length - (intOf i).toNat)
  case atStart => exact ⟨0, Nat.zero_le _, rfl, by simp [addrsOf]⟩
  case round =>
    obtain ⟨k, hk, rfl, hno⟩ := hrel
    have HN := Lib.hid hno
    clear hno
    by_cases hlt : k < l.length
    · obtain ⟨x, hx⟩ : ∃ x, l[k]? = some x := ⟨_, List.getElem?_eq_getElem hlt⟩
      have hxx := hr.w32 x (List.mem_of_getElem? hx)
      obtain ⟨b, o, rfl, hb, hc1, hc2⟩ := hr.at_ k x hx
      have HX := Lib.hid hx
      clear hr hx
      by_cases h1 : x.1 ≤ a
      · by_cases h2 : a ≤ x.2
        · go_wp2
          go_ret
          refine ⟨?_, rfl⟩
          have : a ∈ addrsOf l := mem_addrs.2 ⟨x, List.mem_of_getElem? HX.out, h1, h2⟩
          simp [hasB, this]
        · go_wp2
          go_round
          case rel => exact ⟨k + 1, by omega, by go_num, not_mem_snoc HX.out HN.out (fun h => h2 h.2)⟩
          case measure => simp [intOf]; omega
      · have hd : decide (x.1 ≤ a) = false := by simpa using h1
        go_wp2
        go_round
        case rel => exact ⟨k + 1, by omega, by go_num, not_mem_snoc HX.out HN.out (fun h => h1 h.1)⟩
        case measure => simp [intOf]; omega
    · obtain rfl : k = l.length := by omega
      clear hr
      go_wp2
      go_ret
      refine ⟨?_, rfl⟩
      have := HN.out
      rw [List.take_length] at this
      simp [hasB, this]

/-- b is the least address from t on; -1: there is none. -/
def Least (l : List (Nat × Nat)) (t : Nat) (b : Int) : Prop :=
  (b = -1 ∧ ∀ a, a ∈ addrsOf l → a < t) ∨ ∃ n : Nat, b = n ∧ t ≤ n ∧ n ∈ addrsOf l ∧ ∀ a, a ∈ addrsOf l → t ≤ a → n ≤ a

theorem least_nil (t : Nat) : Least [] t (-1) := .inl ⟨rfl, by simp [addrsOf]⟩

/-- One range more. -/
theorem least_snoc {l : List (Nat × Nat)} {x : Nat × Nat} {t : Nat} {b : Int} (h : Least l t b) :
    (max x.1 t ≤ x.2 ∧ (b < 0 ∨ ((max x.1 t : Nat) : Int) < b) → Least (l ++ [x]) t ((max x.1 t : Nat) : Int)) ∧ (¬ (max x.1 t ≤ x.2 ∧ (b < 0 ∨ ((max x.1 t : Nat) : Int) < b)) → Least (l ++ [x]) t b) := by
  have mem : ∀ a, a ∈ addrsOf (l ++ [x]) ↔ a ∈ addrsOf l ∨ (x.1 ≤ a ∧ a ≤ x.2) := by
    intro a
    rw [addrsOf_snoc, List.mem_append, mem_seg]
    constructor
    · rintro (h | h)
      · exact .inl h
      · exact .inr ⟨h.1, by omega⟩
    · rintro (h | h)
      · exact .inl h
      · exact .inr ⟨h.1, by omega⟩
  constructor
  · rintro ⟨h1, h2⟩
    refine .inr ⟨max x.1 t, rfl, by omega, (mem _).2 (.inr ⟨by omega, h1⟩), fun a ha hta => ?_⟩
    rcases (mem a).1 ha with ha | ha
    · rcases h with ⟨_, h⟩ | ⟨n, rfl, _, _, h⟩
      · have := h a ha; omega
      · have := h a ha hta
        rcases h2 with h2 | h2
        · omega
        · omega
    · omega
  · intro hn
    rcases h with ⟨rfl, h⟩ | ⟨n, rfl, h1, h2, h3⟩
    · refine .inl ⟨rfl, fun a ha => ?_⟩
      rcases (mem a).1 ha with ha | ha
      · exact h a ha
      · have : ¬ max x.1 t ≤ x.2 := fun hm => hn ⟨hm, .inl (by omega)⟩
        omega
    · refine .inr ⟨n, rfl, h1, (mem n).2 (.inl h2), fun a ha hta => ?_⟩
      rcases (mem a).1 ha with ha | ha
      · exact h3 a ha hta
      · have : ¬ ((max x.1 t : Nat) : Int) < n := fun hm => hn ⟨by omega, .inr hm⟩
        omega

set_option maxRecDepth 100000 in
set_option maxHeartbeats 1000000 in
theorem next_any (A : Option Addr) (c : Nat) (l : List (Nat × Nat)) (t : Nat) (w : World) (hr : Rg w w.heap.size A l) (hl : l.length ≤ 1000) :
    Calls Tryz.prog 97 #[.slice A l.length c, .int .i64 (t : Int)] w fun e w' => ∃ b : Int, e = .returned (.int .i64 b) ∧ Least l t b ∧ w = w' := by
  go_enter Tryz.func97, Tryz.ntmps97
  go_wp2
  go_loop [5, 6] (fun bv i => ∃ (k : Nat) (b : Int), k ≤ l.length ∧ i = .int .i64 k ∧ bv = .int .i64 b ∧ Least (l.take k) t b) (fun _ i => l.length - (intOf i).toNat)
  case atStart => exact ⟨0, -1, Nat.zero_le _, rfl, rfl, least_nil t⟩
  case round =>
    obtain ⟨k, b, hk, rfl, rfl, hle⟩ := hrel
    have HN := Lib.hid hle
    clear hle
    by_cases hlt : k < l.length
    · obtain ⟨x, hx⟩ : ∃ x, l[k]? = some x := ⟨_, List.getElem?_eq_getElem hlt⟩
      have hxx := hr.w32 x (List.mem_of_getElem? hx)
      obtain ⟨b0, o, rfl, hb, hc1, hc2⟩ := hr.at_ k x hx
      have HX := Lib.hid hx
      clear hr hx
      have hs := least_snoc (x := x) HN.out
      rw [← take_snoc_of l k x HX.out] at hs
      have HS := Lib.hid hs
      clear hs
      go_wp2
      all_goals
        go_round
        case rel =>
          refine ⟨k + 1, _, by omega, by go_num, rfl, ?_⟩
          first
            | exact HS.out.2 (by omega)
            | (rw [show max (x.1 : Int) (t : Int) = ((max x.1 t : Nat) : Int) by omega]; exact HS.out.1 ⟨by omega, by omega⟩)
        case measure => simp [intOf]; omega
    · obtain rfl : k = l.length := by omega
      clear hr
      go_wp2
      go_ret
      have := HN.out
      rw [List.take_length] at this
      exact ⟨b, rfl, this, rfl⟩

end Go.Proofs.YtmaohnbddlccdaaGreat
end

/- lessorref01.Pool: a walk, and what it answers. -/
section
namespace Go.Proofs.YtmaohnbddlccdaaGreat
open Go.RowKit

theorem has_int (A : Option Addr) (c : Nat) (l : List (Nat × Nat)) (z : Int) (hz : 0 ≤ z) (w : World) (hr : Rg w w.heap.size A l) (hl : l.length ≤ 1000) :
    Calls Tryz.prog 98 #[.slice A l.length c, .int .i64 z] w fun e w' => e = .returned (.bool (hasB l z.toNat)) ∧ w = w' := by
  obtain ⟨a, rfl⟩ := Int.eq_ofNat_of_zero_le hz
  exact has_any A c l a w hr hl

theorem next_int (A : Option Addr) (c : Nat) (l : List (Nat × Nat)) (z : Int) (hz : 0 ≤ z) (w : World) (hr : Rg w w.heap.size A l) (hl : l.length ≤ 1000) :
    Calls Tryz.prog 97 #[.slice A l.length c, .int .i64 z] w fun e w' => ∃ b : Int, e = .returned (.int .i64 b) ∧ Least l z.toNat b ∧ w = w' := by
  obtain ⟨a, rfl⟩ := Int.eq_ofNat_of_zero_le hz
  exact next_any A c l a w hr hl

/-- What was found below t. -/
structure Inv (l ol : List (Nat × Nat)) (t : Nat) : Prop where
  can : Canon ol
  mem : ∀ b, b ∈ addrsOf ol ↔ b ∈ addrsOf l ∧ b < t
  gap : ol ≠ [] → t ∉ addrsOf l
  top : ∀ x ∈ ol, x.2 + 1 ≤ t

theorem inv_start (l : List (Nat × Nat)) : Inv l [] 0 := ⟨Canon.nil, fun b => by simp [addrsOf], fun h => absurd rfl h, by simp⟩

theorem inv_next {l ol : List (Nat × Nat)} {t a h : Nat} (hi : Inv l ol t) (hta : t ≤ a) (hah : a ≤ h) (hin : ∀ b, a ≤ b → b ≤ h → b ∈ addrsOf l) (hle : ∀ b, b ∈ addrsOf l → t ≤ b → a ≤ b) (hout : h + 1 ∉ addrsOf l) : Inv l (ol ++ [(a, h)]) (h + 1) := by
  have hat : ∀ x ∈ ol, x.2 + 1 < a := by
    intro x hx
    have h1 := hi.top x hx
    have h2 : t ≠ a := by
      rintro rfl
      exact hi.gap (List.ne_nil_of_mem hx) (hin t (Nat.le_refl _) hah)
    omega
  refine ⟨⟨?_, ?_⟩, ?_, fun _ => hout, ?_⟩
  · intro x hx
    rcases List.mem_append.1 hx with hx | hx
    · exact hi.can.val x hx
    · simp at hx; subst hx; exact hah
  · rw [List.pairwise_append]
    refine ⟨hi.can.sep, by simp, fun x hx y hy => ?_⟩
    simp at hy; subst hy; exact hat x hx
  · intro b
    rw [addrsOf_snoc, List.mem_append, mem_seg, hi.mem]
    constructor
    · rintro (⟨h1, h2⟩ | ⟨h1, h2⟩)
      · exact ⟨h1, by omega⟩
      · exact ⟨hin b h1 (by simp at h2; omega), by simp at h2; omega⟩
    · rintro ⟨h1, h2⟩
      by_cases hbt : b < t
      · exact .inl ⟨h1, hbt⟩
      · exact .inr ⟨hle b h1 (by omega), by simp; omega⟩
  · intro x hx
    rcases List.mem_append.1 hx with hx | hx
    · have := hat x hx; omega
    · simp at hx; subst hx; exact Nat.le_refl _

/-- More than 256 addresses. -/
def Many (l : List (Nat × Nat)) : Prop := ∃ L : List Nat, L.Pairwise (· < ·) ∧ 256 < L.length ∧ ∀ a ∈ L, a ∈ addrsOf l

theorem many_of {l ol : List (Nat × Nat)} {t a h : Nat} (hi : Inv l ol t) (hta : t ≤ a) (hin : ∀ b, a ≤ b → b ≤ h → b ∈ addrsOf l) (hn : 256 < (addrsOf ol).length + (h + 1 - a)) : Many l := by
  refine ⟨addrsOf ol ++ seg a (h + 1), ?_, by rw [List.length_append, seg_length]; exact hn, ?_⟩
  · rw [List.pairwise_append]
    refine ⟨hi.can.sorted, seg_sorted _ _, fun x hx y hy => ?_⟩
    have := ((hi.mem x).1 hx).2
    have := (mem_seg.1 hy).1
    omega
  · intro b hb
    rcases List.mem_append.1 hb with hb | hb
    · exact ((hi.mem b).1 hb).1
    · have := mem_seg.1 hb
      exact hin b this.1 (by omega)

def RefRes (l ol : List (Nat × Nat)) (code : Int) : Prop :=
  ((∃ x ∈ l, x.2 < x.1) ∧ ol = [] ∧ code = 1) ∨
  ((∀ x ∈ l, x.1 ≤ x.2) ∧ ((Many l ∧ ol = [] ∧ code = 3) ∨ (Canon ol ∧ (∀ a, a ∈ addrsOf ol ↔ a ∈ addrsOf l) ∧ (addrsOf ol).length ≤ 256 ∧ code = 0)))

theorem sorted_sub : ∀ (L M : List Nat), L.Pairwise (· < ·) → M.Pairwise (· < ·) → (∀ a ∈ L, a ∈ M) → L.length ≤ M.length := by
  intro L
  induction L with
  | nil => intro M _ _ _; simp
  | cons x L ih =>
    intro M hL hM hs
    obtain ⟨h1, h2⟩ := List.pairwise_cons.1 hL
    have hx := hs x (by simp)
    obtain ⟨s, r, rfl⟩ := List.append_of_mem hx
    have hM' := List.pairwise_append.1 hM
    have hr := List.pairwise_cons.1 hM'.2.1
    have := ih r h2 hr.2 fun a ha => by
      have hxa := h1 a ha
      rcases List.mem_append.1 (hs a (by simp [ha])) with hm | hm
      · have := hM'.2.2 a hm x (by simp); omega
      · rcases List.mem_cons.1 hm with rfl | hm
        · omega
        · exact hm
    simp
    omega

theorem res_agree {l ol om : List (Nat × Nat)} {c d : Int} (h : PoolRes l ol c) (k : RefRes l om d) : ol = om ∧ c = d := by
  rcases h with ⟨⟨x, hx, hb⟩, rfl, rfl⟩ | ⟨l', hv, hp, hs, h⟩
  · rcases k with ⟨_, rfl, rfl⟩ | ⟨hv, _⟩
    · exact ⟨rfl, rfl⟩
    · exact absurd (hv x hx) (by omega)
  · obtain ⟨c1, c2⟩ := join_canon (fun x hx => hv x (hp.mem_iff.1 hx)) hs
    have hmem : ∀ a, a ∈ addrsOf (joinL l') ↔ a ∈ addrsOf l := fun a => by
      rw [c2, mem_addrs, mem_addrs]
      constructor
      · rintro ⟨x, hx, hh⟩; exact ⟨x, hp.mem_iff.1 hx, hh⟩
      · rintro ⟨x, hx, hh⟩; exact ⟨x, hp.mem_iff.2 hx, hh⟩
    rcases k with ⟨⟨x, hx, hb⟩, _⟩ | ⟨_, k⟩
    · exact absurd (hv x hx) (by omega)
    · rcases k with ⟨⟨L, L1, L2, L3⟩, rfl, rfl⟩ | ⟨k1, k2, k3, rfl⟩
      · have := sorted_sub L _ L1 c1.sorted (fun a ha => (hmem a).2 (L3 a ha))
        rcases h with ⟨_, rfl, rfl⟩ | ⟨h1, _, _⟩
        · exact ⟨rfl, rfl⟩
        · omega
      · have e : joinL l' = om := canon_unique _ _ c1 k1 fun a => (hmem a).trans (k2 a).symm
        rw [e] at h
        rcases h with ⟨h1, _, _⟩ | ⟨_, rfl, rfl⟩
        · omega
        · exact ⟨rfl, rfl⟩

end Go.Proofs.YtmaohnbddlccdaaGreat
end

/- lessorref01.Pool: the walk. -/
section
namespace Go.Proofs.YtmaohnbddlccdaaGreat
open Go.RowKit

theorem drewN_add (w : World) (a b : Nat) : (w.drewN a).drewN b = w.drewN (a + b) := World.drewN_drewN w a b

theorem rg_move {w wn w3 : World} {A : Option Addr} {l : List (Nat × Nat)} (hR : Rg wn w.heap.size A l) (h0 : Below w.heap.size w wn) (h3 : Below w.heap.size w w3) : Rg w3 w.heap.size A l :=
  hR.keep fun _ hp => (h3.cell hp).trans (h0.cell hp).symm

theorem canon_len : ∀ (ol : List (Nat × Nat)), Canon ol → ol.length ≤ (addrsOf ol).length := by
  intro ol
  induction ol with
  | nil => intro _; simp
  | cons x r ih =>
    intro h
    have h1 := ih h.tail
    have h2 := h.val x (by simp)
    show r.length + 1 ≤ (seg x.1 (x.2 + 1) ++ addrsOf r).length
    rw [List.length_append, seg_length]
    omega

set_option maxRecDepth 100000 in
set_option maxHeartbeats 2000000 in
theorem rpool_any (A : Option Addr) (c : Nat) (l : List (Nat × Nat)) (w : World) (hr : Rg w w.heap.size A l) (hl : l.length ≤ 1000) :
    Calls Tryz.prog 52 #[.slice A l.length c] w fun e w' => ∃ ol code p cap, e = .returned (.tuple #[.slice p ol.length cap, .int .i64 code]) ∧ RefRes l ol code ∧ Rg w' w'.heap.size p ol ∧ Below w.heap.size w w' := by
  obtain ⟨i0, hi, hz0, hz1, hz2⟩ := info_parts Tryz.infoR
  go_enter Tryz.func52, Tryz.ntmps52
  go_wp2
  go_loopw [4] (fun i wr => ∃ k : Nat, k ≤ l.length ∧ i = .int .i64 k ∧ (∀ x ∈ l.take k, x.1 ≤ x.2) ∧ ∃ n, wr = w.drewN n) (fun i _ => l.length - (intOf i).toNat)
  case atStart => exact ⟨0, Nat.zero_le _, rfl, by simp, 0, rfl⟩
  case round =>
    obtain ⟨k, hk, rfl, hval, n, rfl⟩ := hrel
    by_cases hlt : k < l.length
    · obtain ⟨x, hx⟩ : ∃ x, l[k]? = some x := ⟨_, List.getElem?_eq_getElem hlt⟩
      obtain ⟨b, o, rfl, hb, hc1, hc2⟩ := hr.at_ k x hx
      have HX := Lib.hid hx
      have HV := Lib.hid hval
      have hk1 : (k : Int) < (l.length : Int) := by omega
      clear hx hr hval
      by_cases hle : x.2 < x.1
      · go_wp2
        go_quiet (fail)
        go_wp2
        go_ret2
        exact ⟨[], 1, none, 0, rfl, .inl ⟨⟨x, List.mem_of_getElem? HX.out, hle⟩, rfl, rfl⟩, ⟨fun y hy => by simp at hy, fun i y h => by simp at h⟩, by first | exact (Below.refl _ _).drewN' _ | exact ((Below.refl _ _).drewN' _).drewN' _⟩
      · go_wp2
        go_quiet (fail)
        go_wp2
        go_roundw
        case rel =>
          refine ⟨k + 1, by omega, by go_num, ?_, _, rfl⟩
          rw [take_snoc_of l k x HX.out]
          intro y hy
          rcases List.mem_append.1 hy with hy | hy
          · exact HV.out y hy
          · simp at hy; subst hy; omega
        case measure => simp [intOf]; omega
    · obtain rfl : k = l.length := by omega
      rw [List.take_length] at hval
      have HV := Lib.hid hval
      have HR := Lib.hid (hr.keep (w' := w.drewN n) (fun _ _ => rfl))
      have h32 := hr.w32
      have H32 := Lib.hid h32
      have hB0 : Below w.heap.size w (w.drewN n) := (Below.refl _ _).drewN' _
      have hsz0 : w.heap.size = (w.drewN n).heap.size := rfl
      have HZ0 := Lib.hid hsz0
      clear hval hr h32 hsz0
      generalize w.drewN n = wn at *
      go_wp2_with fail
      refine (next_int A c l 0 (by decide) wn (by rw [← HZ0.out]; exact HR.out) hl).mono ?_
      rintro e w1 ⟨b0, rfl, hleast, rfl⟩
      have hleast' : Least l 0 b0 := hleast
      dsimp only
      go_wp2
      go_loopw [5, 6, 7, 8] (fun v nv av _ wr => ∃ (ol : List (Nat × Nat)) (t : Nat) (b : Int), nv = .int .i64 ((addrsOf ol).length : Nat) ∧ av = .int .i64 b ∧ Least l t b ∧ Inv l ol t ∧ (addrsOf ol).length ≤ 256 ∧ W32 ol ∧ wr.ownsRow w.heap.size 89 2 v ol.length (rcells ol) ∧ Below w.heap.size w wr) (fun _ nv _ _ _ => 257 - (intOf nv).toNat)
      case atStart => exact ⟨[], 0, b0, rfl, rfl, hleast', inv_start l, by simp [addrsOf], by intro x hx; simp at hx, ⟨rfl, .inl ⟨rfl, rfl⟩⟩, hB0⟩
      case round =>
        obtain ⟨ol, t, b, rfl, rfl, hle, hinv, h256, ho32, hown, hBr⟩ := hrel
        have hcl := canon_len ol hinv.can
        have HI := Lib.hid hinv
        have HO := Lib.hid ho32
        have hsr := hBr.size
        have HRr := Lib.hid ((rg_move HR.out hB0 hBr).more hsr)
        rcases hle with ⟨rfl, hnone⟩ | ⟨a, rfl, hta, hain, hmin⟩
        · have hres : RefRes l ol 0 := .inr ⟨HV.out, .inr ⟨hinv.can, fun b => by rw [hinv.mem]; exact ⟨fun h => h.1, fun h => ⟨h, hnone b h⟩⟩, h256, rfl⟩⟩
          have HE := Lib.hid hres
          clear hinv ho32 hnone hres
          rcases hown.2 with ⟨rfl, h0⟩ | ⟨g, cap', cur, rfl, _⟩
          · have hown' := hown
            rw [h0] at hown'
            go_wp2
            go_ret2
            exact ⟨ol, 0, none, 0, by rw [h0]; rfl, HE.out, Rg.of_own (n := 0) HO.out hown', hBr⟩
          · go_wp2
            go_ret2
            exact ⟨ol, 0, _, _, rfl, HE.out, Rg.of_own HO.out hown, hBr⟩
        · have ha32 : a < 4294967296 := by
            obtain ⟨x, hx, h1, h2⟩ := mem_addrs.1 hain
            have := H32.out x hx
            omega
          have HMIN := Lib.hid hmin
          have HIN := Lib.hid hain
          clear hinv ho32 hmin hain
          generalize hN : (addrsOf ol).length = N at *
          have HN := Lib.hid hN
          clear hN
          go_wp2
          go_loop [6, 8] (fun nv hv => ∃ h : Nat, a ≤ h ∧ h < 4294967296 ∧ hv = .int .i64 h ∧ nv = .int .i64 ((N + (h + 1 - a) : Nat) : Int) ∧ N + (h + 1 - a) ≤ 257 ∧ ∀ b, a ≤ b → b ≤ h → b ∈ addrsOf l) (fun nv _ => 300 - (intOf nv).toNat)
          case atStart => exact ⟨a, Nat.le_refl _, ha32, rfl, by rw [show a + 1 - a = 1 by omega]; rfl, by omega, fun b h1 h2 => by rw [show b = a by omega]; exact HIN.out⟩
          case round =>
            obtain ⟨h, hah, hh32, rfl, rfl, hn257, hall⟩ := hrel
            have HALL := Lib.hid hall
            have HMANY : Hid (256 < N + (h + 1 - a) → Many l) := fun hbig => many_of HI.out hta HALL.out (by rw [HN.out]; exact hbig)
            have hcon := has_int A c l ((h : Int) + 1) (by omega) wr HRr.out hl
            rw [show ((h : Int) + 1).toNat = h + 1 by omega] at hcon
            have HC := Lib.hid hcon
            clear hall hcon
            generalize hnn : N + (h + 1 - a) = nn at *
            have HNN := Lib.hid hnn
            clear hnn
            by_cases hin : h + 1 ∈ addrsOf l
            · have hb : hasB l (h + 1) = true := by simp [hasB, hin]
              have hh33 : h + 1 < 4294967296 := by
                obtain ⟨x, hx, h1, h2⟩ := mem_addrs.1 hin
                have := H32.out x hx
                omega
              have HINN := Lib.hid hin
              rw [hb] at HC
              clear hin hb
              by_cases hbig : nn ≤ 256
              · have hd : decide ((nn : Int) ≤ 256) = true := by simp; omega
                go_wp2_with fail
                refine HC.out.mono ?_
                rintro e w2 ⟨rfl, rfl⟩
                go_wp2
                go_round
                case rel =>
                  have h1 := HNN.out
                  refine ⟨h + 1, by omega, hh33, by go_num, ?_, by omega, fun b g1 g2 => ?_⟩
                  · rw [show N + (h + 1 + 1 - a) = nn + 1 by omega]; go_num
                  · by_cases hb : b ≤ h
                    · exact HALL.out b g1 hb
                    · rw [show b = h + 1 by omega]; exact HINN.out
                case measure => simp [intOf]; omega
              · have hd : decide ((nn : Int) ≤ 256) = false := by simp; omega
                have hd2 : decide ((256 : Int) < (nn : Int)) = true := by simp; omega
                go_wp2_with fail
                refine HC.out.mono ?_
                rintro e w2 ⟨rfl, rfl⟩
                go_wp2
                go_ret2
                exact ⟨[], 3, none, 0, rfl, .inr ⟨HV.out, .inl ⟨HMANY.out (by omega), rfl, rfl⟩⟩, ⟨fun y hy => by simp at hy, fun i y h => by simp at h⟩, hBr⟩
            · have hb : hasB l (h + 1) = false := by simp [hasB, hin]
              have HINN := Lib.hid hin
              rw [hb] at HC
              clear hin hb
              by_cases hbig : nn ≤ 256
              · have hd2 : decide ((256 : Int) < (nn : Int)) = false := by simp; omega
                have hwa : IntKind.u32.wrap (a : Int) = a := by simp [IntKind.wrap, IntKind.bits, IntKind.signed]; omega
                have hwh : IntKind.u32.wrap (h : Int) = h := by simp [IntKind.wrap, IntKind.bits, IntKind.signed]; omega
                go_wp2_with fail
                refine HC.out.mono ?_
                rintro e w2 ⟨rfl, rfl⟩
                go_wp2_with (at_builtin; refine wpList_append_own _ rfl _ _ 25 rfl w.heap.size 89 i0 _ 2 8 Tryz.underlying25 hi hz0 hz1 hz2 rfl (by decide) _ ol.length (rcells ol) rfl (hown.alloc _) ⟨wr.heap.size, 0, none⟩ 1 1 [.int .u32 a, .int .u32 h] rfl rfl (atwo_new _ _ _ _ (by simp)) (by simp [Value.oneCell']) (by unfold maxLen; omega) (by omega) (by simp; omega) ?_; intro v2 w3 hown3 hgrow3 _)
                have hg0 : ∀ k, u5.ownBlock = some k → w.heap.size ≤ k := by
                  intro k e
                  rcases hown.2 with ⟨h0, _⟩ | ⟨g, cap', cur, h0, hg, _⟩
                  · rw [h0] at e; cases e
                  · rw [h0] at e; cases e; exact hg
                have hB3 : Below w.heap.size w w3 := (hBr.alloc hsr _).grown hgrow3 (by simp; omega) hg0
                clear hwa hwh hg0
                refine (next_int A c l _ (by omega) w3 ((rg_move HR.out hB0 hB3).more hB3.size) hl).mono ?_
                rintro e w4 ⟨b', rfl, hl', rfl⟩
                rw [show ((h : Int) + 1).toNat = h + 1 by omega] at hl'
                have HL' := Lib.hid hl'
                clear hl'
                dsimp only
                go_wp2
                go_roundw
                case rel =>
                  have h1 := HNN.out
                  have h2 := HN.out
                  have e1 : (addrsOf (ol ++ [(a, h)])).length = nn := by rw [addrsOf_snoc, List.length_append, seg_length, h2]; exact h1
                  refine ⟨ol ++ [(a, h)], h + 1, b', by rw [e1], rfl, HL'.out, inv_next HI.out hta hah HALL.out HMIN.out HINN.out, by rw [e1]; exact hbig, ?_, push_row (out := ol) (x := (a, h)) rfl rfl hown3 rfl, hB3⟩
                  intro x hx
                  rcases List.mem_append.1 hx with hx | hx
                  · exact HO.out x hx
                  · simp at hx; subst hx; exact ⟨ha32, hh32⟩
                case measure =>
                  have h1 := HNN.out
                  simp [intOf]
                  omega
              · have hd2 : decide ((256 : Int) < (nn : Int)) = true := by simp; omega
                go_wp2_with fail
                refine HC.out.mono ?_
                rintro e w2 ⟨rfl, rfl⟩
                go_wp2
                go_ret2
                exact ⟨[], 3, none, 0, rfl, .inr ⟨HV.out, .inl ⟨HMANY.out (by omega), rfl, rfl⟩⟩, ⟨fun y hy => by simp at hy, fun i y h => by simp at h⟩, hBr⟩
end Go.Proofs.YtmaohnbddlccdaaGreat
end

/- lessorref01.Count: a walk. -/
section
namespace Go.Proofs.YtmaohnbddlccdaaGreat
open Go.RowKit

theorem wr_small (z : Int) (h1 : -1000000000000 ≤ z) (h2 : z ≤ 1000000000000) : wrap64 z = z := IntWalk.wrap64_in _ ⟨by omega, by omega⟩

theorem seg_count {x : Nat × Nat} (h : x.1 ≤ x.2) : ((seg x.1 (x.2 + 1)).length : Int) = (x.2 : Int) - (x.1 : Int) + 1 := by
  rw [seg_length]; omega

theorem addrs_take_le (l : List (Nat × Nat)) (k : Nat) : (addrsOf (l.take k)).length ≤ (addrsOf l).length := (addrsOf_take_prefix l k).length_le

set_option maxRecDepth 100000 in
set_option maxHeartbeats 1000000 in
theorem rcount_any (A : Option Addr) (c : Nat) (l : List (Nat × Nat)) (w : World) (hr : Rg w w.heap.size A l) (hv : ∀ x ∈ l, x.1 ≤ x.2) (hl : l.length ≤ 1000) (hn : (addrsOf l).length ≤ 256) :
    Calls Tryz.prog 64 #[.slice A l.length c] w fun e w' => e = .returned (.int .i64 ((addrsOf l).length : Nat)) ∧ ∃ n, w' = w.drewN n := by
  go_enter Tryz.func64, Tryz.ntmps64
  go_wp2
  go_loopw [3, 4] (fun nv i wr => ∃ k : Nat, k ≤ l.length ∧ i = .int .i64 k ∧ nv = .int .i64 ((addrsOf (l.take k)).length : Nat) ∧ ∃ n, wr = w.drewN n) (fun _ i _ => l.length - (intOf i).toNat)
  case atStart => exact ⟨0, Nat.zero_le _, rfl, rfl, 0, rfl⟩
  case round =>
    obtain ⟨k, hk, rfl, rfl, n, rfl⟩ := hrel
    by_cases hlt : k < l.length
    · obtain ⟨x, hx⟩ : ∃ x, l[k]? = some x := ⟨_, List.getElem?_eq_getElem hlt⟩
      have hxx := hr.w32 x (List.mem_of_getElem? hx)
      have hxv := hv x (List.mem_of_getElem? hx)
      obtain ⟨b, o, rfl, hb, hc1, hc2⟩ := hr.at_ k x hx
      have hm := addrs_take_le l k
      have hm1 := addrs_take_le l (k + 1)
      have he : ((addrsOf (l.take (k + 1))).length : Int) = ((addrsOf (l.take k)).length : Int) + (x.2 : Int) - (x.1 : Int) + 1 := by
        rw [addrsOf_take l k x hx, List.length_append, Int.natCast_add, seg_count hxv]; omega
      have HE := Lib.hid he
      clear hr hx hv he
      generalize hmm : (addrsOf (l.take k)).length = m at *
      have hk1 : (k : Int) < (l.length : Int) := by omega
      have hw : wrap64 ((m : Int) + (x.2 : Int)) = (m : Int) + (x.2 : Int) ∧ wrap64 ((m : Int) + (x.2 : Int) - (x.1 : Int)) = (m : Int) + (x.2 : Int) - (x.1 : Int) := ⟨wr_small _ (by omega) (by omega), wr_small _ (by omega) (by omega)⟩
      obtain ⟨hw1, hw2⟩ := hw
      clear hmm
      go_wp2
      go_quiet (fail)
      clear hw1 hw2
      go_wp2
      go_roundw
      case rel => exact ⟨k + 1, by omega, by go_num, by rw [HE.out], _, rfl⟩
      case measure => simp [intOf]; omega
    · obtain rfl : k = l.length := by omega
      clear hr hv
      go_wp2
      go_ret
      rw [List.take_length]
      exact ⟨rfl, n, rfl⟩
end Go.Proofs.YtmaohnbddlccdaaGreat
end

/- lessorref01.At and Index: walks. -/
section
namespace Go.Proofs.YtmaohnbddlccdaaGreat
open Go.RowKit

theorem seg_get {lo hi j : Nat} (h : j < hi - lo) : (seg lo hi)[j]? = some (lo + j) := by
  simp [seg, h]

theorem addrs_get {l : List (Nat × Nat)} {k j : Nat} {x : Nat × Nat} (hx : l[k]? = some x) (hj : x.1 + j ≤ x.2) : (addrsOf l)[(addrsOf (l.take k)).length + j]? = some (x.1 + j) := by
  obtain ⟨r, hr⟩ := addrsOf_take_prefix l (k + 1)
  rw [← hr, addrsOf_take l k x hx, List.append_assoc, List.getElem?_append_right (by omega), List.getElem?_append_left (by rw [seg_length]; omega)]
  rw [show (addrsOf (l.take k)).length + j - (addrsOf (l.take k)).length = j by omega]
  exact seg_get (by omega)

theorem atL_hit {l : List (Nat × Nat)} {k : Nat} {x : Nat × Nat} {q : Int} (hx : l[k]? = some x) (h1 : ((addrsOf (l.take k)).length : Int) ≤ q) (h2 : q - ((addrsOf (l.take k)).length : Int) < (x.2 : Int) - (x.1 : Int) + 1) :
    atL (addrsOf l) q = ((x.1 + (q - ((addrsOf (l.take k)).length : Int)).toNat), 0) := by
  have h := addrs_get (j := (q - ((addrsOf (l.take k)).length : Int)).toNat) hx (by omega)
  unfold atL
  rw [if_neg (by omega), show q.toNat = (addrsOf (l.take k)).length + (q - ((addrsOf (l.take k)).length : Int)).toNat by omega, h]

theorem atL_over {av : List Nat} {q : Int} (h : (av.length : Int) ≤ q) : atL av q = (0, 4) := by
  unfold atL
  rw [if_neg (by omega), List.getElem?_eq_none (by omega)]

theorem atL_under {av : List Nat} {q : Int} (h : q < 0) : atL av q = (0, 4) := by
  unfold atL
  rw [if_pos h]

set_option maxRecDepth 100000 in
set_option maxHeartbeats 1000000 in
theorem rat_any (A : Option Addr) (c : Nat) (l : List (Nat × Nat)) (q : Int) (w : World) (hr : Rg w w.heap.size A l) (hv : ∀ x ∈ l, x.1 ≤ x.2) (hl : l.length ≤ 1000) (hn : (addrsOf l).length ≤ 256) (hq : q ≤ 9223372036854775807) :
    Calls Tryz.prog 65 #[.slice A l.length c, .int .i64 q] w fun e w' => e = .returned (.tuple #[.int .u32 ((atL (addrsOf l) q).1 : Nat), .int .i64 (atL (addrsOf l) q).2]) ∧ ∃ n, w' = w.drewN n := by
  go_enter Tryz.func65, Tryz.ntmps65
  go_wp2
  go_loopw [1, 6] (fun nv i wr => ∃ k : Nat, k ≤ l.length ∧ i = .int .i64 k ∧ nv = .int .i64 (q - ((addrsOf (l.take k)).length : Int)) ∧ (((addrsOf (l.take k)).length : Int) ≤ q ∨ k = 0) ∧ ∃ n, wr = w.drewN n) (fun _ i _ => l.length - (intOf i).toNat)
  case atStart => exact ⟨0, Nat.zero_le _, rfl, by simp [addrsOf], .inr rfl, 0, rfl⟩
  case round =>
    obtain ⟨k, hk, rfl, rfl, hor, n, rfl⟩ := hrel
    by_cases hlt : k < l.length
    · obtain ⟨x, hx⟩ : ∃ x, l[k]? = some x := ⟨_, List.getElem?_eq_getElem hlt⟩
      have hxx := hr.w32 x (List.mem_of_getElem? hx)
      have hxv := hv x (List.mem_of_getElem? hx)
      obtain ⟨b, o, rfl, hb, hc1, hc2⟩ := hr.at_ k x hx
      have hm := addrs_take_le l k
      have hm1 := addrs_take_le l (k + 1)
      have he : ((addrsOf (l.take (k + 1))).length : Int) = ((addrsOf (l.take k)).length : Int) + ((x.2 : Int) - (x.1 : Int) + 1) := by
        rw [addrsOf_take l k x hx, List.length_append, Int.natCast_add, seg_count hxv]
      have HE := Lib.hid he
      have HX := Lib.hid hx
      have hmk : k = 0 → (addrsOf (l.take k)).length = 0 := fun h => by subst h; simp [addrsOf]
      by_cases hneg : q < 0
      · have HZ := Lib.hid (atL_under (av := addrsOf l) hneg)
        have hlt' : q - ((addrsOf (l.take k)).length : Int) < 0 := by omega
        clear hr hx hv he hmk hor hm hm1
        generalize (addrsOf (l.take k)).length = m at *
        go_wp2
        go_ret2
        refine ⟨?_, n, rfl⟩
        rw [HZ.out]
        rfl
      · have hge : ((addrsOf (l.take k)).length : Int) ≤ q := by
          rcases hor with h | h
          · exact h
          · have := hmk h; omega
        have HH := Lib.hid (atL_hit (q := q) hx hge)
        have hk1 : (k : Int) < (l.length : Int) := by omega
        clear hr hx hv he hmk hor
        generalize (addrsOf (l.take k)).length = m at *
        obtain ⟨d, hd⟩ : ∃ d : Nat, q - (m : Int) = d := ⟨(q - (m : Int)).toNat, by omega⟩
        have HD := Lib.hid hd
        rw [hd]
        have hdb : (d : Int) ≤ 9223372036854775807 := by omega
        clear hd hge
        have hw : wrap64 ((x.2 : Int) - (x.1 : Int)) = (x.2 : Int) - (x.1 : Int) ∧ 0 ≤ (x.2 : Int) - (x.1 : Int) := ⟨wr_small _ (by omega) (by omega), by omega⟩
        by_cases hhit : (d : Int) < (x.2 : Int) - (x.1 : Int) + 1
        · obtain ⟨hw1, hw2⟩ := hw
          go_wp2
          go_quiet (fail)
          clear hw1
          have hdx : (d : Int) ≤ (x.2 : Int) - (x.1 : Int) := by omega
          have hd32 : d < 4294967296 := by omega
          have hsum : (x.1 : Int) + (d : Int) < 4294967296 := by omega
          have hH := HH.out (by have := HD.out; omega)
          rw [HD.out, Int.toNat_natCast] at hH
          have HF := Lib.hid hH
          clear hH
          go_wp2
          go_ret2
          refine ⟨?_, _, rfl⟩
          rw [HF.out]
          rfl
        · obtain ⟨hw1, hw2⟩ := hw
          go_wp2
          go_quiet (fail)
          clear hw1
          have hnn : 0 ≤ (d : Int) - ((x.2 : Int) - (x.1 : Int) + 1) := by omega
          go_wp2
          go_roundw
          case rel =>
            have h1 := HD.out
            have h2 := HE.out
            refine ⟨k + 1, by omega, by go_num, ?_, .inl (by omega), _, rfl⟩
            rw [h2, show q - ((m : Int) + ((x.2 : Int) - (x.1 : Int) + 1)) = (d : Int) - ((x.2 : Int) - (x.1 : Int) + 1) by omega]
          case measure => simp [intOf]; omega
    · obtain rfl : k = l.length := by omega
      rw [List.take_length] at *
      clear hr hv
      have HZ : Hid (atL (addrsOf l) q = (0, 4)) := by
        rcases hor with h | h
        · exact atL_over h
        · have hl0 : l = [] := List.eq_nil_of_length_eq_zero h
          subst hl0
          rcases Int.lt_or_le q 0 with hq0 | hq0
          · exact atL_under hq0
          · exact atL_over (by simpa [addrsOf] using hq0)
      go_wp2
      go_ret2
      refine ⟨?_, n, rfl⟩
      rw [HZ.out]
      rfl

end Go.Proofs.YtmaohnbddlccdaaGreat
end
