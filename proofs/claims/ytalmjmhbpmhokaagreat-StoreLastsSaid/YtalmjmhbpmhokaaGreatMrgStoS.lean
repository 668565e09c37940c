/- What stage 13's laws need: calls upon stores as a whole; two stores side by side; steps in memory; pool, long. -/
import Derived.Test.YtalmjmhbpmhokaaGreatMrgStoC
import Derived.Test.YtalmjmhbpmhokaaGreatMrgStoF
import Derived.Test.YtalmjmhbpmhokaaGreatMrgStoP
namespace Go.Proofs.YtalmjmhbpmhokaaGreat
open Go.RowKit Go.Sort

/-! ## The code's store -/
section
variable {T : TabT} {w : World} {Q : Nat → Prop} {S D : Nat} {s : DS} {k : Kn}
theorem sd_put (K : TabK T) (h : Sd T StT LT DT w Q S D s k) (x : LV) (ha : x.addr < 4294967296) : Calls Tryz.prog 29 #[ptr S, x.v] w (AnsS T StT LT DT w Q S D (putS s k x)) := by
  obtain ⟨P, L, g, v, h, rfl⟩ := h
  exact sput_any K h x ha
theorem sd_setstate (F : TFr T) (h : Sd T StT LT DT w Q S D s k) (n : Int) : Calls Tryz.prog 32 #[ptr S, .int .i64 n] w (AnsS T StT LT DT w Q S D (setSS s k n)) := by
  obtain ⟨P, L, g, v, h, rfl⟩ := h
  exact setstate_any F h n
theorem sd_setlife (F : TFr T) (h : Sd T StT LT DT w Q S D s k) (n : Int) : Calls Tryz.prog 30 #[ptr S, .int .i64 n] w (AnsS T StT LT DT w Q S D (setFS s k n)) := by
  obtain ⟨P, L, g, v, h, rfl⟩ := h
  exact setlife_any F h n
theorem sd_sync (F : TFr T) (h : Sd T StT LT DT w Q S D s k) : Calls Tryz.prog 31 #[ptr S] w (AnsS T StT LT DT w Q S D ((syncD s).1, (syncD s).2, k)) := by
  obtain ⟨P, L, g, v, h, rfl⟩ := h
  exact ssync_any F h
theorem sd_compact (K : TabK T) (h : Sd T StT LT DT w Q S D s k) : Calls Tryz.prog 25 #[ptr S] w (AnsS T StT LT DT w Q S D ((compW s (recsK k)).1, (compW s (recsK k)).2, k)) := by
  obtain ⟨P, L, g, v, h, rfl⟩ := h
  exact scompact_any K h
theorem sd_state (h : Sd T StT LT DT w Q S D s k) : Calls Tryz.prog 23 #[ptr S] w fun e w' => e = .returned (.int .i64 k.st) ∧ w = w' := by
  obtain ⟨P, L, g, v, h, rfl⟩ := h
  exact state_any h
theorem sd_life (h : Sd T StT LT DT w Q S D s k) : Calls Tryz.prog 24 #[ptr S] w fun e w' => e = .returned (.int .i64 k.lf) ∧ w = w' := by
  obtain ⟨P, L, g, v, h, rfl⟩ := h
  exact life_any h
theorem sd_len (h : Sd T StT LT DT w Q S D s k) : Calls Tryz.prog 27 #[ptr S] w fun e w' => e = .returned (.int .i64 ((scanL s.bs).length : Int)) ∧ Below w.heap.size w w' := by
  obtain ⟨P, L, g, v, h, rfl⟩ := h
  exact slen_any h
/-- What a store's table is, and where: it outlasts what leaves the store alone. -/
theorem sd_table (F : TFr T) (h : Sd T StT LT DT w Q S D s k) : ∃ (P : Nat → Prop) (g : Nat), T w P g k.L ∧ (∀ b, P b → Q b) ∧ ∀ W, KpT Q w W → (T W P g k.L ∧ Calls Tryz.prog 21 #[ptr S] W fun e w' => e = .returned (ptr g) ∧ W = w') := by
  obtain ⟨P, L, g, v, h, rfl⟩ := h
  exact ⟨P, g, h.t, fun b hb => .inr (.inr (.inr hb)), fun W hW => ⟨(h.keep F hW).t, table_any' (h.keep F hW)⟩⟩
theorem sd_fail (F : TFr T) (h : Sd T StT LT DT w Q S D s k) (n : Int) (hn : n ≤ 9223372036854775807) : Calls Tryz.prog 46 #[ptr D, .int .i64 n] w fun e w' => e = .returned (.tuple #[]) ∧ Upd T StT LT DT w Q S D w' (failD s n) k := by
  obtain ⟨P, L, g, v, h, rfl⟩ := h
  refine (fail_any h.d n).mono ?_
  rintro e w' ⟨rfl, hd⟩
  obtain ⟨v1, h1, hw1⟩ := h.did F hd (fail_ok h.ok n hn)
  exact ⟨rfl, _, Sd.at_ h1, hw1⟩
/-- What changes a disk. -/
theorem Did.upd {ty : TypeId} {v : Value} {w' : World} {s' : DS} (hd : Did ty (D + 1) w D v w' s') (ho : s'.Ok) : UpdD ty w (DF D v) D w' s' := by
  obtain ⟨v1, h1, hw⟩ := did_way hd
  exact ⟨_, ⟨v1, h1, ho, rfl⟩, hw⟩
theorem dk_crash (h : Dk DT w Q D s) (n : Int) : Calls Tryz.prog 20 #[ptr D, .int .i64 n] w fun e w' => e = .returned (.tuple #[]) ∧ UpdD DT w Q D w' (crashD s n) := by
  obtain ⟨v, h, ho, rfl⟩ := h
  refine (crash_any h ho n).mono ?_
  rintro e w' ⟨rfl, hd⟩
  exact ⟨rfl, hd.upd (crash_ok ho n)⟩
theorem rdk_crash (h : Dk RT w Q D s) (n : Int) : Calls Tryz.prog 48 #[ptr D, .int .i64 n] w fun e w' => e = .returned (.tuple #[]) ∧ UpdD RT w Q D w' (crashD s n) := by
  obtain ⟨v, h, ho, rfl⟩ := h
  refine (rcrash_any h ho n).mono ?_
  rintro e w' ⟨rfl, hd⟩
  exact ⟨rfl, hd.upd (crash_ok ho n)⟩
/-- A new disk. -/
theorem dk_new (w : World) (n : Int) (h0 : 1 ≤ n) (h1 : n ≤ 1048576) : Calls Tryz.prog 10 #[.int .i64 n] w fun e w' => e = .returned (.tuple #[ptr w.heap.size, .int .i64 0]) ∧ Dk DT w' (· = w.heap.size) w.heap.size ⟨n.toNat, [], 0, -1⟩ ∧ Below w.heap.size w w' := by
  refine (new_any w n).mono ?_
  rintro e w' (⟨k, hk, hk0, hk1, rfl, h2, hb, hz⟩ | ⟨hno, _⟩)
  · subst hk
    refine ⟨rfl, ⟨_, h2, ok_new hk0 hk1, ?_⟩, hb⟩
    funext b
    simp [DF, Value.ownBlock]
  · exact absurd ⟨by omega, by omega⟩ hno
theorem rdk_new (w : World) (n : Int) (h0 : 1 ≤ n) (h1 : n ≤ 1048576) : Calls Tryz.prog 11 #[.int .i64 n] w fun e w' => e = .returned (.tuple #[ptr w.heap.size, .int .i64 0]) ∧ Dk RT w' (· = w.heap.size) w.heap.size ⟨n.toNat, [], 0, -1⟩ ∧ Below w.heap.size w w' := by
  refine (rnew_any w n).mono ?_
  rintro e w' (⟨k, hk, hk0, hk1, rfl, h2, hb, hz⟩ | ⟨hno, _⟩)
  · subst hk
    refine ⟨rfl, ⟨_, h2, ok_new hk0 hk1, ?_⟩, hb⟩
    funext b
    simp [DF, Value.ownBlock]
  · exact absurd ⟨by omega, by omega⟩ hno

/-! ## The document's store -/
theorem rsd_put (h : Sd TR StR MT RT w Q S D s k) (x : LV) (ha : x.addr < 4294967296) : Calls Tryz.prog 41 #[ptr S, x.v] w (AnsS TR StR MT RT w Q S D (putS s k x)) := by
  obtain ⟨P, L, g, v, h, rfl⟩ := h
  exact rsput_any h x ha
theorem rsd_setstate (h : Sd TR StR MT RT w Q S D s k) (n : Int) : Calls Tryz.prog 42 #[ptr S, .int .i64 n] w (AnsS TR StR MT RT w Q S D (setSS s k n)) := by
  obtain ⟨P, L, g, v, h, rfl⟩ := h
  exact rsetstate_any h n
theorem rsd_setlife (h : Sd TR StR MT RT w Q S D s k) (n : Int) : Calls Tryz.prog 43 #[ptr S, .int .i64 n] w (AnsS TR StR MT RT w Q S D (setFS s k n)) := by
  obtain ⟨P, L, g, v, h, rfl⟩ := h
  exact rsetlife_any h n
theorem rsd_sync (h : Sd TR StR MT RT w Q S D s k) : Calls Tryz.prog 44 #[ptr S] w (AnsS TR StR MT RT w Q S D ((syncD s).1, (syncD s).2, k)) := by
  obtain ⟨P, L, g, v, h, rfl⟩ := h
  exact rssync_any h
theorem rsd_compact (h : Sd TR StR MT RT w Q S D s k) : Calls Tryz.prog 45 #[ptr S] w (AnsS TR StR MT RT w Q S D ((compW s (recsK k)).1, (compW s (recsK k)).2, k)) := by
  obtain ⟨P, L, g, v, h, rfl⟩ := h
  exact rscompact_any h
theorem rsd_fail (h : Sd TR StR MT RT w Q S D s k) (n : Int) (hn : n ≤ 9223372036854775807) : Calls Tryz.prog 47 #[ptr D, .int .i64 n] w fun e w' => e = .returned (.tuple #[]) ∧ Upd TR StR MT RT w Q S D w' (failD s n) k := by
  obtain ⟨P, L, g, v, h, rfl⟩ := h
  refine (rfail_any h.d n).mono ?_
  rintro e w' ⟨rfl, hd⟩
  obtain ⟨v1, h1, hw1⟩ := h.did tr_fr hd (fail_ok h.ok n hn)
  exact ⟨rfl, _, Sd.at_ h1, hw1⟩
end

/-! ## Two stores side by side -/
/-- The code's store, or its disk alone, in the blocks Q; the document's in the blocks Q2; none below B. -/
structure Apt (B : Nat) (Q Q2 : Nat → Prop) : Prop where
  a : ∀ b, Q b → ¬ Q2 b
  l1 : ∀ b, Q b → B ≤ b
  l2 : ∀ b, Q2 b → B ≤ b
section
variable {B : Nat} {Q Q' Q2 Q2' : Nat → Prop} {w w' : World}
/-- The first is changed. -/
theorem Apt.first (h : Apt B Q Q2) (hw : Way Q w Q' w') (hB : B ≤ w.heap.size) (lt2 : ∀ b, Q2 b → b < w.heap.size) : Apt B Q' Q2 ∧ KpT Q2 w w' ∧ Below B w w' :=
  ⟨⟨fun b h1 h2 => hw.apart lt2 (fun b hb hq => h.a b hq hb) b h2 h1, hw.low hB h.l1, h.l2⟩, hw.kp lt2 (fun b hb hq => h.a b hq hb), hw.below hB h.l1⟩
/-- The second is changed. -/
theorem Apt.second (h : Apt B Q Q2) (hw : Way Q2 w Q2' w') (hB : B ≤ w.heap.size) (lt1 : ∀ b, Q b → b < w.heap.size) : Apt B Q Q2' ∧ KpT Q w w' ∧ Below B w w' :=
  ⟨⟨hw.apart lt1 h.a, h.l1, hw.low hB h.l2⟩, hw.kp lt1 h.a, hw.below hB h.l2⟩
theorem Apt.sub {R R2 : Nat → Prop} (h : Apt B Q Q2) (h1 : ∀ b, R b → Q b) (h2 : ∀ b, R2 b → Q2 b) : Apt B R R2 := ⟨fun b a c => h.a b (h1 b a) (h2 b c), fun b hb => h.l1 b (h1 b hb), fun b hb => h.l2 b (h2 b hb)⟩
end
/-- Both stores, of one state. -/
structure TwoS (T : TabT) (B D R S M : Nat) (s : DS) (k : Kn) (w : World) : Prop where
  two : ∃ Q Q2, Sd T StT LT DT w Q S D s k ∧ Sd TR StR MT RT w Q2 M R s k ∧ Apt B Q Q2
theorem TwoS.size {T : TabT} {B D R S M : Nat} {s : DS} {k : Kn} {w : World} (h : TwoS T B D R S M s k w) : B ≤ w.heap.size := by
  obtain ⟨Q, Q2, ⟨P, L, g, v, h, rfl⟩, -, ha⟩ := h.two
  have := ha.l1 S (.inl rfl)
  have := h.slt
  omega
theorem TwoS.later {T : TabT} (F : TFr T) {B D R S M : Nat} {s : DS} {k : Kn} {w w' : World} (h : TwoS T B D R S M s k w) (hb : Below w.heap.size w w') : TwoS T B D R S M s k w' := by
  obtain ⟨Q, Q2, h1, h2, ha⟩ := h.two
  exact ⟨Q, Q2, h1.later F hb, h2.later tr_fr hb, ha⟩

/-! ## Pools -/
theorem pool_call (w : World) : Calls Tryz.prog 13 #[] w fun e w' => e = .returned (.slice (some ⟨w.heap.size, 0, none⟩) 1 1) ∧ Below w.heap.size w w' ∧ Rg w' w'.heap.size (some ⟨w.heap.size, 0, none⟩) [(1, 6)] := by
  obtain ⟨w1, hw1⟩ : ∃ w1, w1 = w.alloc (.cells #[.int .u32 1, .int .u32 6] 83) := ⟨_, rfl⟩
  have hB1 : Below w.heap.size w w1 := by rw [hw1]; exact (Below.refl _ _).alloc (Nat.le_refl _) _
  have hRg : Rg w1 w1.heap.size (some ⟨w.heap.size, 0, none⟩) [(1, 6)] := by
    have hh : w1.heap[w.heap.size]? = some (.cells #[.int .u32 1, .int .u32 6] 83 (0, 0)) := by rw [hw1]; exact heap_alloc_new w _
    refine ⟨fun x hx => by simp at hx; subst hx; decide, fun i x hx => ?_⟩
    match i, hx with
    | 0, hx =>
      simp at hx
      subst hx
      exact ⟨w.heap.size, 0, rfl, (Array.getElem?_eq_some_iff.1 hh).1, (cell_of_row _ _ 0 _ _ _ hh).trans rfl, (cell_of_row _ _ 1 _ _ _ hh).trans rfl⟩
    | i + 1, hx => simp at hx
  have HB1 := Lib.hid hB1
  have HR := Lib.hid hRg
  have HW := Lib.hid hw1
  clear hB1 hRg hw1
  go_enter Tryz.func13, Tryz.ntmps13
  go_wp2
  go_ret
  rw [← HW.out]
  exact ⟨rfl, HB1.out, HR.out⟩
theorem pool_six {ol : List (Nat × Nat)} {code : Int} (h : PoolRes [(1, 6)] ol code) : code = 0 ∧ addrsOf ol = [1, 2, 3, 4, 5, 6] := by
  have hc : code = 0 := by
    rcases h with ⟨⟨x, hx, hb⟩, _⟩ | ⟨l', hv, hp, hs, ⟨hm, _, _⟩ | ⟨_, _, hc⟩⟩
    · simp at hx
      subst hx
      omega
    · exfalso
      have h1 : l' = [(1, 6)] := List.perm_singleton.1 hp
      subst h1
      revert hm
      decide
    · exact hc
  subst hc
  refine ⟨rfl, ?_⟩
  obtain ⟨hcan, _, hmem⟩ := pool_ok h
  have h3 : addrsOf [(1, 6)] = [1, 2, 3, 4, 5, 6] := by decide
  have hs := hcan.sorted
  have hle : (addrsOf ol).Perm [1, 2, 3, 4, 5, 6] := by
    refine (List.perm_ext_iff_of_nodup (hs.imp fun h => Nat.ne_of_lt h) (by decide)).2 fun a => ?_
    rw [hmem a, h3]
  exact rise_unique (lt := fun a b : Nat => a < b) (fun _ _ h k => by omega) hle hs (by decide)
abbrev six : List Nat := [1, 2, 3, 4, 5, 6]
theorem six_up : six.Pairwise (· < ·) := by decide
theorem six_32 : ∀ a ∈ six, a < 4294967296 := by decide
/-- The six addresses have one pool alone. -/
theorem pool_some : ∃ ol, PoolRes [(1, 6)] ol 0 := ⟨joinL [(1, 6)], .inr ⟨[(1, 6)], by simp, List.Perm.refl _, by simp [SortedLow], .inr ⟨by decide, rfl, rfl⟩⟩⟩
theorem rpool_six {ol : List (Nat × Nat)} {code : Int} (h : RefRes [(1, 6)] ol code) : code = 0 ∧ addrsOf ol = [1, 2, 3, 4, 5, 6] := by
  obtain ⟨om, hm⟩ := pool_some
  obtain ⟨rfl, rfl⟩ := res_agree hm h
  exact pool_six hm

/-! ## Steps -/
def StS.cells (x : StS) : Array Value := #[.int .i64 x.do_, .int .i64 x.n] ++ x.l.cells
abbrev StS.v (x : StS) : Value := .agg #[.int .i64 x.do_, .int .i64 x.n, .int .u32 (x.l.addr : Int), .int .i64 x.l.bind, .string x.l.cb, .int .i64 x.l.unt, .int .i64 x.l.acked, .int .i64 x.l.told, .int .i64 x.l.at_, .int .i64 x.l.ver]
/-- The slice at A reads as the steps l, and lies below block B. -/
structure Ss (w : World) (B : Nat) (A : Option Addr) (l : List StS) : Prop where
  at_ : ∀ i x, l[i]? = some x → ∃ b o, A = some ⟨b, o, none⟩ ∧ b < B ∧ w.cell? ⟨b, o + i * 10, none⟩ = some (.int .i64 x.do_) ∧ w.cell? ⟨b, o + i * 10 + 1, none⟩ = some (.int .i64 x.n) ∧ w.cell? ⟨b, o + i * 10 + 2, none⟩ = some (.int .u32 (x.l.addr : Int)) ∧ w.cell? ⟨b, o + i * 10 + 3, none⟩ = some (.int .i64 x.l.bind) ∧ w.cell? ⟨b, o + i * 10 + 4, none⟩ = some (.string x.l.cb) ∧ w.cell? ⟨b, o + i * 10 + 5, none⟩ = some (.int .i64 x.l.unt) ∧ w.cell? ⟨b, o + i * 10 + 6, none⟩ = some (.int .i64 x.l.acked) ∧ w.cell? ⟨b, o + i * 10 + 7, none⟩ = some (.int .i64 x.l.told) ∧ w.cell? ⟨b, o + i * 10 + 8, none⟩ = some (.int .i64 x.l.at_) ∧ w.cell? ⟨b, o + i * 10 + 9, none⟩ = some (.int .i64 x.l.ver)
  addr : ∀ x ∈ l, x.l.addr < 4294967296
  num : ∀ x ∈ l, x.n ≤ 9223372036854775807
section
variable {w w' : World} {B : Nat} {A : Option Addr} {l : List StS}
theorem Ss.below (h : Ss w B A l) (hb : Below B w w') : Ss w' B A l := by
  refine ⟨fun i x hx => ?_, h.addr, h.num⟩
  obtain ⟨b, o, rfl, hlt, c0, c1, c2, c3, c4, c5, c6, c7, c8, c9⟩ := h.at_ i x hx
  have hk : ∀ p : Addr, p.block < B → w'.cell? p = w.cell? p := fun _ hp => hb.cell hp
  exact ⟨b, o, rfl, hlt, (hk _ hlt).trans c0, (hk _ hlt).trans c1, (hk _ hlt).trans c2, (hk _ hlt).trans c3, (hk _ hlt).trans c4, (hk _ hlt).trans c5, (hk _ hlt).trans c6, (hk _ hlt).trans c7, (hk _ hlt).trans c8, (hk _ hlt).trans c9⟩
end
/-- Have steps more than a test should? -/
def bigS (x : StS) : Bool := decide (200 < x.l.client.length)
def longS (l : List StS) : Bool := l.any bigS || decide (80 < l.length)

set_option maxRecDepth 100000 in
set_option maxHeartbeats 1000000 in
theorem slong_any {A : Option Addr} {c : Nat} {l : List StS} {w : World} {B : Nat} (h : Ss w B A l) (hl : l.length ≤ 9223372036854775807) :
    Calls Tryz.prog 9 #[.slice A l.length c] w fun e w' => e = .returned (.bool (longS l)) ∧ w = w' := by
  have H := Lib.hid h
  clear h
  go_enter Tryz.func9, Tryz.ntmps9
  go_wp2
  go_loop [3] (fun i => ∃ k : Nat, k ≤ l.length ∧ i = .int .i64 k ∧ Hid (∀ x ∈ l.take k, ¬ bigS x)) (fun i => l.length - (intOf i).toNat)
  case atStart => exact ⟨0, Nat.zero_le _, rfl, fun x hx => by simp at hx⟩
  case round =>
    obtain ⟨k, hk, rfl, hall⟩ := hrel
    by_cases hlt : k < l.length
    · obtain ⟨x, hx⟩ : ∃ x, l[k]? = some x := ⟨_, List.getElem?_eq_getElem hlt⟩
      obtain ⟨b, o, rfl, _, c0, c1, c2, c3, c4, c5, c6, c7, c8, c9⟩ := H.out.at_ k x hx
      have HX := Lib.hid hx
      have HAll := Lib.hid hall
      have Hlt := Lib.hid hlt
      have yes : bigS x = true → longS l = true := fun e => by
        unfold longS
        rw [List.any_eq_true.2 ⟨x, List.mem_of_getElem? hx, e⟩]
        rfl
      have HYes := Lib.hid yes
      have hcb : x.l.cb.size = x.l.client.length := x.l.cb_size
      clear hx hall yes
      by_cases hbig : 200 < x.l.client.length
      · have d : decide (200 < (x.l.client.length : Int)) = true := decide_eq_true (by omega)
        go_wp2
        go_ret
        rw [HYes.out (by unfold bigS; rw [decide_eq_true hbig])]
        exact ⟨rfl, rfl⟩
      · have d : decide (200 < (x.l.client.length : Int)) = false := decide_eq_false (by omega)
        have HBig := Lib.hid hbig
        clear hbig
        go_wp2
        go_round
        case rel =>
          refine ⟨k + 1, Hlt.out, by go_num, fun y hy => ?_⟩
          rw [take_snoc_of _ _ _ HX.out] at hy
          rcases List.mem_append.1 hy with h | h
          · exact HAll.out y h
          · obtain rfl := List.mem_singleton.1 h
            unfold bigS
            rw [decide_eq_false HBig.out]
            exact Bool.false_ne_true
        case measure => have := Hlt.out; simp [intOf]; omega
    · obtain rfl : k = l.length := by omega
      rw [List.take_length] at hall
      have e : longS l = decide (80 < l.length) := by
        unfold longS
        rw [show l.any bigS = false from List.any_eq_false.2 fun x hx => hall.out x hx]
        rfl
      clear hall
      have HE := Lib.hid e
      clear e
      go_wp2
      go_ret
      rw [HE.out]
      refine ⟨?_, rfl⟩
      show Ending.returned (.bool _) = _
      congr 2
      rw [decide_eq_decide]
      omega
end Go.Proofs.YtalmjmhbpmhokaaGreat
