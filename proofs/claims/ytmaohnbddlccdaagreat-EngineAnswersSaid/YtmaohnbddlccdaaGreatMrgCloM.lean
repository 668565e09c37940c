/- Joined texts: CloM, GraP, FsmP, FsmA. -/
import Derived.Test.YtmaohnbddlccdaaGreatMrgRowNum
import Derived.Lib.Hide
import Derived.Test.YtmaohnbddlccdaaGreatMrgBasM
import Derived.Outline
import Derived.RowKit
import Derived.Test.YtmaohnbddlccdaaGreatProg
import Derived.WalkKit
import Derived.OwnWalk

/- clock: limit, moment, Add, Left, Past, At; the document's own; awake. -/
section
namespace Go.Proofs.YtmaohnbddlccdaaGreat.NC
open Go.RowKit

def limV (n lo hi : Int) : Int := min (max n lo) hi
def moV (n : Int) : Int := limV n 0 1099511627776
def addV (t d : Int) : Int := moV (moV t + limV d (-1099511627776) 1099511627776)
def leftV (n u : Int) : Int := max (moV u - moV n) 0
def pastV (n u g : Int) : Bool := decide (moV u + limV g 0 1099511627776 < moV n)
theorem moV_range (n : Int) : 0 ≤ moV n ∧ moV n ≤ 1099511627776 := by unfold moV limV; omega
theorem limV_range (n lo hi : Int) (h : lo ≤ hi) : lo ≤ limV n lo hi ∧ limV n lo hi ≤ hi := by unfold limV; omega

theorem limit_any (n lo hi : Int) (W : World) : Calls Tryz.prog 153 #[.int .i64 n, .int .i64 lo, .int .i64 hi] W fun e w' => e = .returned (.int .i64 (limV n lo hi)) ∧ W = w' := by
  go_enter Tryz.func153, Tryz.ntmps153
  go_wp2
  all_goals
    go_ret
    refine ⟨?_, rfl⟩
    show Ending.returned (.int .i64 _) = _
    congr 2
    unfold limV
    omega

theorem bounded_any (n lo hi : Int) (h : lo ≤ hi) (W : World) : Calls Tryz.prog 166 #[.int .i64 n, .int .i64 lo, .int .i64 hi] W fun e w' => e = .returned (.int .i64 (limV n lo hi)) ∧ W = w' := by
  have H := Lib.hid h
  clear h
  go_enter Tryz.func166, Tryz.ntmps166
  go_wp2
  all_goals
    go_ret
    refine ⟨?_, rfl⟩
    show Ending.returned (.int .i64 _) = _
    congr 2
    have := H.out
    unfold limV
    omega

theorem moment_any (n : Int) (W : World) : Calls Tryz.prog 152 #[.int .i64 n] W fun e w' => e = .returned (.int .i64 (moV n)) ∧ W = w' := by
  have HL := Lib.hid (fun V => limit_any n 0 1099511627776 V)
  unfold moV
  go_enter Tryz.func152, Tryz.ntmps152
  go_wp2_with fail
  refine (HL.out _).mono ?_
  rintro e w' ⟨rfl, rfl⟩
  go_wp2
  go_ret
  exact ⟨rfl, rfl⟩

theorem add_any (t d : Int) (W : World) : Calls Tryz.prog 151 #[.int .i64 t, .int .i64 d] W fun e w' => e = .returned (.int .i64 (addV t d)) ∧ W = w' := by
  have HA := Lib.hid (fun V => moment_any t V)
  have HB := Lib.hid (fun V => limit_any d (-1099511627776) 1099511627776 V)
  have HC := Lib.hid (fun V => moment_any (moV t + limV d (-1099511627776) 1099511627776) V)
  obtain ⟨a0, a1⟩ := moV_range t
  obtain ⟨b0, b1⟩ := limV_range d (-1099511627776) 1099511627776 (by omega)
  unfold addV
  generalize moV t = a at *
  generalize limV d (-1099511627776) 1099511627776 = b at *
  generalize moV (a + b) = c at *
  go_enter Tryz.func151, Tryz.ntmps151
  go_wp2_with fail
  refine (HA.out _).mono ?_
  rintro e w' ⟨rfl, rfl⟩
  go_wp2_with fail
  refine (HB.out _).mono ?_
  rintro e w' ⟨rfl, rfl⟩
  go_wp2_with fail
  refine (HC.out _).mono ?_
  rintro e w' ⟨rfl, rfl⟩
  go_wp2
  go_ret
  exact ⟨rfl, rfl⟩

theorem radd_any (t d : Int) (W : World) : Calls Tryz.prog 138 #[.int .i64 t, .int .i64 d] W fun e w' => e = .returned (.int .i64 (addV t d)) ∧ W = w' := by
  have HA := Lib.hid (fun V => bounded_any t 0 1099511627776 (by omega) V)
  have HB := Lib.hid (fun V => bounded_any d (-1099511627776) 1099511627776 (by omega) V)
  have HC := Lib.hid (fun V => bounded_any (moV t + limV d (-1099511627776) 1099511627776) 0 1099511627776 (by omega) V)
  obtain ⟨a0, a1⟩ := moV_range t
  obtain ⟨b0, b1⟩ := limV_range d (-1099511627776) 1099511627776 (by omega)
  unfold addV
  unfold moV at *
  generalize limV t 0 1099511627776 = a at *
  generalize limV d (-1099511627776) 1099511627776 = b at *
  generalize limV (a + b) 0 1099511627776 = c at *
  go_enter Tryz.func138, Tryz.ntmps138
  go_wp2_with fail
  refine (HA.out _).mono ?_
  rintro e w' ⟨rfl, rfl⟩
  go_wp2_with fail
  refine (HB.out _).mono ?_
  rintro e w' ⟨rfl, rfl⟩
  go_wp2_with fail
  refine (HC.out _).mono ?_
  rintro e w' ⟨rfl, rfl⟩
  go_wp2
  go_ret
  exact ⟨rfl, rfl⟩

theorem left_any (n u : Int) (W : World) : Calls Tryz.prog 122 #[.int .i64 n, .int .i64 u] W fun e w' => e = .returned (.int .i64 (leftV n u)) ∧ W = w' := by
  have HA := Lib.hid (fun V => moment_any u V)
  have HB := Lib.hid (fun V => moment_any n V)
  obtain ⟨a0, a1⟩ := moV_range u
  obtain ⟨b0, b1⟩ := moV_range n
  unfold leftV
  generalize moV u = a at *
  generalize moV n = b at *
  go_enter Tryz.func122, Tryz.ntmps122
  go_wp2_with fail
  refine (HA.out _).mono ?_
  rintro e w' ⟨rfl, rfl⟩
  go_wp2_with fail
  refine (HB.out _).mono ?_
  rintro e w' ⟨rfl, rfl⟩
  go_wp2
  all_goals
    go_ret
    refine ⟨?_, rfl⟩
    show Ending.returned (.int .i64 _) = _
    congr 2
    omega

theorem rleft_any (n u : Int) (W : World) : Calls Tryz.prog 134 #[.int .i64 n, .int .i64 u] W fun e w' => e = .returned (.int .i64 (leftV n u)) ∧ W = w' := by
  have HA := Lib.hid (fun V => bounded_any u 0 1099511627776 (by omega) V)
  have HB := Lib.hid (fun V => bounded_any n 0 1099511627776 (by omega) V)
  have HC := Lib.hid (fun V => bounded_any (moV u - moV n) 0 1099511627776 (by omega) V)
  obtain ⟨a0, a1⟩ := moV_range u
  obtain ⟨b0, b1⟩ := moV_range n
  have h : limV (moV u - moV n) 0 1099511627776 = leftV n u := by unfold leftV; conv => lhs; unfold limV
                                                                  omega
  rw [h] at HC
  clear h
  unfold moV at *
  generalize leftV n u = c at *
  generalize limV u 0 1099511627776 = a at *
  generalize limV n 0 1099511627776 = b at *
  go_enter Tryz.func134, Tryz.ntmps134
  go_wp2_with fail
  refine (HA.out _).mono ?_
  rintro e w' ⟨rfl, rfl⟩
  go_wp2_with fail
  refine (HB.out _).mono ?_
  rintro e w' ⟨rfl, rfl⟩
  go_wp2_with fail
  refine (HC.out _).mono ?_
  rintro e w' ⟨rfl, rfl⟩
  go_wp2
  go_ret
  exact ⟨rfl, rfl⟩

theorem past_any (n u g : Int) (W : World) : Calls Tryz.prog 102 #[.int .i64 n, .int .i64 u, .int .i64 g] W fun e w' => e = .returned (.bool (pastV n u g)) ∧ W = w' := by
  have HA := Lib.hid (fun V => moment_any n V)
  have HB := Lib.hid (fun V => moment_any u V)
  have HC := Lib.hid (fun V => limit_any g 0 1099511627776 V)
  obtain ⟨a0, a1⟩ := moV_range n
  obtain ⟨b0, b1⟩ := moV_range u
  obtain ⟨c0, c1⟩ := limV_range g 0 1099511627776 (by omega)
  unfold pastV
  generalize moV n = a at *
  generalize moV u = b at *
  generalize limV g 0 1099511627776 = c at *
  go_enter Tryz.func102, Tryz.ntmps102
  go_wp2_with fail
  refine (HA.out _).mono ?_
  rintro e w' ⟨rfl, rfl⟩
  go_wp2_with fail
  refine (HB.out _).mono ?_
  rintro e w' ⟨rfl, rfl⟩
  go_wp2_with fail
  refine (HC.out _).mono ?_
  rintro e w' ⟨rfl, rfl⟩
  go_wp2
  go_ret
  exact ⟨rfl, rfl⟩

theorem rpast_any (n u g : Int) (W : World) : Calls Tryz.prog 139 #[.int .i64 n, .int .i64 u, .int .i64 g] W fun e w' => e = .returned (.bool (pastV n u g)) ∧ W = w' := by
  have HA := Lib.hid (fun V => bounded_any n 0 1099511627776 (by omega) V)
  have HB := Lib.hid (fun V => bounded_any u 0 1099511627776 (by omega) V)
  have HC := Lib.hid (fun V => bounded_any g 0 1099511627776 (by omega) V)
  obtain ⟨a0, a1⟩ := moV_range n
  obtain ⟨b0, b1⟩ := moV_range u
  obtain ⟨c0, c1⟩ := limV_range g 0 1099511627776 (by omega)
  unfold pastV
  unfold moV at *
  generalize limV n 0 1099511627776 = a at *
  generalize limV u 0 1099511627776 = b at *
  generalize limV g 0 1099511627776 = c at *
  go_enter Tryz.func139, Tryz.ntmps139
  go_wp2_with fail
  refine (HA.out _).mono ?_
  rintro e w' ⟨rfl, rfl⟩
  go_wp2_with fail
  refine (HB.out _).mono ?_
  rintro e w' ⟨rfl, rfl⟩
  go_wp2_with fail
  refine (HC.out _).mono ?_
  rintro e w' ⟨rfl, rfl⟩
  go_wp2
  go_ret
  exact ⟨rfl, rfl⟩

end Go.Proofs.YtmaohnbddlccdaaGreat.NC
end

/- grant: its values (the code's and the document's are one, but for a lease whose Until is no moment); after, latest, bounded. -/
section
namespace Go.Proofs.YtmaohnbddlccdaaGreat.NC
open Go.RowKit

theorem moV_id {a : Int} (h : 0 ≤ a) (h' : a ≤ 1099511627776) : moV a = a := by unfold moV limV; omega
theorem addV_zero (m : Int) : addV m 0 = moV m := by
  unfold addV
  rw [show limV 0 (-1099511627776) 1099511627776 = 0 from rfl, Int.add_zero, moV_id (moV_range m).1 (moV_range m).2]
theorem addV_range (t d : Int) : 0 ≤ addV t d ∧ addV t d ≤ 1099511627776 := moV_range _
/-- A span later. -/
def aftV (t s : Int) : Int := addV t (max s 0)
theorem aftV_range (t d : Int) : 0 ≤ aftV t d ∧ aftV t d ≤ 1099511627776 := moV_range _
/-- The greatest one of moments. -/
def latV (ks : List Int) : Int := ks.foldl (fun l m => max l (moV m)) 0
theorem latV_one (a : Int) : latV [a] = moV a := by
  have := moV_range a
  unfold latV
  simp only [List.foldl_cons, List.foldl_nil]
  omega
theorem latV_two (a b : Int) : latV [a, b] = max (moV a) (moV b) := by
  have := moV_range a
  unfold latV
  simp only [List.foldl_cons, List.foldl_nil]
  omega
theorem latV_snoc (ks : List Int) (x : Int) : latV (ks ++ [x]) = max (latV ks) (moV x) := by simp [latV]
theorem latV_range (ks : List Int) : 0 ≤ latV ks ∧ latV ks ≤ 1099511627776 := by
  rw [← ks.reverse_reverse]
  generalize ks.reverse = r
  induction r with
  | nil => simp [latV]
  | cons x r ih =>
    rw [List.reverse_cons, latV_snoc]
    have := moV_range x
    omega
/-- Up to when anything may be promised. -/
def untV (lead now want acked : Int) : Int := min (aftV now want) (aftV (max (moV now) (moV acked)) lead)

theorem after_any (t s : Int) (W : World) : Calls Tryz.prog 101 #[.int .i64 t, .int .i64 s] W fun e w' => e = .returned (.int .i64 (aftV t s)) ∧ W = w' := by
  have HA := Lib.hid (fun V => add_any t (max s 0) V)
  unfold aftV
  by_cases h : s < 0
  · rw [show max s 0 = 0 by omega] at HA ⊢
    generalize addV t 0 = a at *
    go_enter Tryz.func101, Tryz.ntmps101
    go_wp2_with fail
    refine (HA.out _).mono ?_
    rintro e w' ⟨rfl, rfl⟩
    go_wp2
    go_ret
    exact ⟨rfl, rfl⟩
  · rw [show max s 0 = s by omega] at HA ⊢
    generalize addV t s = a at *
    go_enter Tryz.func101, Tryz.ntmps101
    go_wp2_with fail
    refine (HA.out _).mono ?_
    rintro e w' ⟨rfl, rfl⟩
    go_wp2
    go_ret
    exact ⟨rfl, rfl⟩

theorem rbounded_any (n : Int) (W : World) : Calls Tryz.prog 141 #[.int .i64 n] W fun e w' => e = .returned (.int .i64 (moV n)) ∧ W = w' := by
  have HA := Lib.hid (fun V => radd_any n 0 V)
  rw [addV_zero] at HA
  generalize moV n = a at *
  go_enter Tryz.func141, Tryz.ntmps141
  go_wp2_with fail
  refine (HA.out _).mono ?_
  rintro e w' ⟨rfl, rfl⟩
  go_wp2
  go_ret
  exact ⟨rfl, rfl⟩

set_option maxRecDepth 100000 in
set_option maxHeartbeats 400000 in
theorem latest_any (b : Nat) (ks : List Int) (hks : ks.length ≤ 10) (W : World) (hb : W.heap[b]? = some (.cells (ks.map fun x => Value.int .i64 x).toArray 3 (0, 0))) :
    Calls Tryz.prog 103 #[.slice (some ⟨b, 0, none⟩) ks.length ks.length] W fun e w' => e = .returned (.int .i64 (latV ks)) ∧ W = w' := by
  go_enter Tryz.func103, Tryz.ntmps103
  go_wp2
  go_loop [3, 8] (fun l i => ∃ (j : Nat), j ≤ ks.length ∧ i = .int .i64 j ∧ l = .int .i64 (latV (ks.take j))) (fun _ i => ks.length - (intOf i).toNat)
  case atStart => exact ⟨0, Nat.zero_le _, rfl, rfl⟩
  case round =>
    obtain ⟨j, hj, rfl, rfl⟩ := hrel
    by_cases hlt : j < ks.length
    · obtain ⟨x, hx⟩ : ∃ x, ks[j]? = some x := ⟨_, List.getElem?_eq_getElem hlt⟩
      have hc : W.cell? ⟨b, j, none⟩ = some (.int .i64 x) := by
        rw [cell_of_row W b j _ _ _ hb]
        simp [hx]
      have HA := Lib.hid (fun V => add_any x 0 V)
      rw [addV_zero] at HA
      have HS := Lib.hid (latV_snoc (ks.take j) x)
      rw [← take_snoc_of ks j x hx] at HS
      clear hx
      generalize latV (ks.take j) = l at *
      generalize moV x = m at *
      go_wp2_with fail
      refine (HA.out _).mono ?_
      rintro e w' ⟨rfl, rfl⟩
      go_wp2
      all_goals
        go_round
        case rel => exact ⟨j + 1, by omega, by go_num, by have := HS.out; congr 1; split <;> omega⟩
        case measure => simp [intOf]; omega
    · go_wp2
      go_ret
      rw [List.take_of_length_le (by omega)]
      exact ⟨rfl, rfl⟩
theorem latest_two {X : World} {b : Nat} (hb : X.heap.size = b) (x y : Int) :
    Calls Tryz.prog 103 #[.slice (some ⟨b, 0, none⟩) 2 2] (X.alloc (.cells #[.int .i64 x, .int .i64 y] 3)) fun e w' => e = .returned (.int .i64 (max (moV x) (moV y))) ∧ X.alloc (.cells #[.int .i64 x, .int .i64 y] 3) = w' := by
  rw [← latV_two]
  exact latest_any b [x, y] (by simp) _ (by subst hb; exact heap_alloc_new X _)
theorem latest_one {X : World} {b : Nat} (hb : X.heap.size = b) (x : Int) :
    Calls Tryz.prog 103 #[.slice (some ⟨b, 0, none⟩) 1 1] (X.alloc (.cells #[.int .i64 x] 3)) fun e w' => e = .returned (.int .i64 (moV x)) ∧ X.alloc (.cells #[.int .i64 x] 3) = w' := by
  rw [← latV_one]
  exact latest_any b [x] (by simp) _ (by subst hb; exact heap_alloc_new X _)
/-- The same in a world behind a draw. -/
theorem latest_two_d {X : World} {b : Nat} (hb : X.heap.size = b) (x y : Int) :
    Calls Tryz.prog 103 #[.slice (some ⟨b, 0, none⟩) 2 2] (X.alloc (.cells #[.int .i64 x, .int .i64 y] 3)).drew fun e w' => e = .returned (.int .i64 (max (moV x) (moV y))) ∧ (X.alloc (.cells #[.int .i64 x, .int .i64 y] 3)).drew = w' := by
  rw [← latV_two]
  exact latest_any b [x, y] (by simp) _ (by subst hb; exact heap_alloc_new X _)
end Go.Proofs.YtmaohnbddlccdaaGreat.NC
end

/- The states of a server, pure: the next state, as numbers; what leads to what. (Names no function of the program.) -/
section
namespace Go.Proofs.YtmaohnbddlccdaaGreat.NC

/-- Is a state torn, calm? -/
def TornI (s : Int) : Prop := s = 4 ∨ s = 5
def CalmI (s : Int) : Prop := s = 0 ∨ s = 1 ∨ s = 2 ∨ s = 8
instance (s : Int) : Decidable (TornI s) := by unfold TornI; infer_instance
instance (s : Int) : Decidable (CalmI s) := by unfold CalmI; infer_instance
/-- Behind hearing the other one. -/
def heardI (s o : Int) : Int :=
  if s = 0 then (if o = 3 then 6 else if TornI o then 4 else if CalmI o then 1 else s)
  else if s = 1 then (if o = 3 ∨ TornI o then 4 else s)
  else if s = 2 then (if o = 3 ∨ TornI o then 4 else if CalmI o then 1 else s)
  else if s = 3 then (if o = 1 ∨ o = 2 ∨ o = 3 ∨ TornI o then 4 else s)
  else if s = 5 then 4
  else if s = 8 then (if o = 1 then 1 else if TornI o then 4 else s)
  else s
def syncedI (s o : Int) : Int :=
  if s = 3 then (if o = 8 then 1 else s)
  else if s = 4 then (if o = 1 ∨ o = 4 then 1 else s)
  else if s = 6 then 7 else s
/-- The numbers of the events: Heard, Lost, Order, Synced, Waited are letters here. -/
structure EvI where
  heard : Int
  lost : Int
  order : Int
  synced : Int
  waited : Int
def nextI (E : EvI) (s e o : Int) : Int :=
  if e = E.heard then heardI s o
  else if e = E.synced then syncedI s o
  else if e = E.lost then (if s = 1 then 2 else if s = 4 then 5 else s)
  else if e = E.order then (if s = 0 ∨ s = 2 ∨ s = 5 then 3 else s)
  else if e = E.waited then (if s = 7 then 8 else s)
  else s
def ServesI (s : Int) : Prop := s = 1 ∨ s = 2 ∨ s = 3
instance (s : Int) : Decidable (ServesI s) := by unfold ServesI; infer_instance
def restartI (s : Int) : Int := if s = 3 then 3 else 0

theorem heardI_in (s o : Int) (h : 0 ≤ s ∧ s ≤ 8) : 0 ≤ heardI s o ∧ heardI s o ≤ 8 ∧ (heardI s o = 3 → s = 3) := by
  unfold heardI
  (repeat' split) <;> omega
theorem syncedI_in (s o : Int) (h : 0 ≤ s ∧ s ≤ 8) : 0 ≤ syncedI s o ∧ syncedI s o ≤ 8 ∧ (syncedI s o = 3 → s = 3) := by
  unfold syncedI
  (repeat' split) <;> omega
/-- States lead to states; only an order leads to PartnerDown. -/
theorem nextI_in (E : EvI) (s e o : Int) (h : 0 ≤ s ∧ s ≤ 8) : 0 ≤ nextI E s e o ∧ nextI E s e o ≤ 8 ∧ (nextI E s e o = 3 → s = 3 ∨ e = E.order) := by
  unfold nextI
  split
  · obtain ⟨h1, h2, h3⟩ := heardI_in s o h
    exact ⟨h1, h2, fun e => .inl (h3 e)⟩
  split
  · obtain ⟨h1, h2, h3⟩ := syncedI_in s o h
    exact ⟨h1, h2, fun e => .inl (h3 e)⟩
  (repeat' split) <;> omega
/-- A server that began anew, and heard nothing, is where it began. -/
theorem nextI_quiet (E : EvI) (e o : Int) (h1 : e ≠ E.heard) (h2 : e ≠ E.order) : nextI E 0 e o = 0 := by
  unfold nextI syncedI
  rw [if_neg h1]
  (repeat' split) <;> omega
/-- Where it recovers: it does not serve but behind hearing that the other one is Normal, behind telling all, or in another state than Normal. -/
def RecI (s : Int) : Prop := s = 4 ∨ s = 5 ∨ s = 6 ∨ s = 7 ∨ s = 8
theorem nextI_rec (E : EvI) (s e o : Int) (h : RecI s) : (e = E.heard ∧ o = 1) ∨ nextI E s e o ≠ 1 ∨ e = E.synced := by
  by_cases h1 : e = E.heard
  · by_cases ho : o = 1
    · exact .inl ⟨h1, ho⟩
    · refine .inr (.inl ?_)
      unfold nextI heardI
      unfold RecI at h
      rw [if_pos h1]
      (repeat' split) <;> omega
  by_cases h2 : e = E.synced
  · exact .inr (.inr h2)
  · refine .inr (.inl ?_)
    unfold nextI
    unfold RecI at h
    rw [if_neg h1, if_neg h2]
    (repeat' split) <;> omega
theorem nextI_rec_on (E : EvI) (s e o : Int) (h : RecI s) (hs : ¬ ServesI (nextI E s e o)) : RecI (nextI E s e o) := by
  have hb : 0 ≤ nextI E s e o ∧ nextI E s e o ≤ 8 ∧ nextI E s e o ≠ 0 := by
    unfold RecI at h
    refine ⟨(nextI_in E s e o (by omega)).1, (nextI_in E s e o (by omega)).2.1, ?_⟩
    unfold nextI heardI syncedI
    (repeat' split) <;> omega
  unfold ServesI at hs
  unfold RecI
  omega
/-- Two of which nothing is torn: who heard the other one is Normal, and stays so. -/
def Calm3 (s : Int) : Prop := s = 0 ∨ s = 1 ∨ s = 2
theorem heardI_meets (a b : Int) (ha : Calm3 a) (hb : Calm3 b) : heardI a b = 1 := by
  unfold Calm3 at ha hb
  unfold heardI TornI CalmI
  (repeat' split) <;> omega
end Go.Proofs.YtmaohnbddlccdaaGreat.NC
end

/- fsm: isState, has, Serves, Restart; the document's torn, calm, Serves, Restart. -/
section
namespace Go.Proofs.YtmaohnbddlccdaaGreat.NC
open Go.RowKit

def isStB (s : Int) : Bool := decide (0 ≤ s) && decide (s ≤ 8)
theorem isState_any (s : Int) (W : World) : Calls Tryz.prog 110 #[.int .i64 s] W fun e w' => e = .returned (.bool (isStB s)) ∧ W = w' := by
  unfold isStB
  cases h0 : decide (0 ≤ s) <;> cases h8 : decide (s ≤ 8)
  all_goals
    go_enter Tryz.func110, Tryz.ntmps110
    go_wp2
    go_ret
    exact ⟨rfl, rfl⟩

/-- Does a set of states, told as bits, hold one? -/
def bitB (k s : Int) : Bool := bits .and .i64 (k / 2 ^ min s.toNat 64) 1 == 1
def hasV (k s : Int) : Bool := k == -1 || (isStB s && bitB k s)
theorem has_any (k s : Int) (W : World) : Calls Tryz.prog 69 #[.int .i64 k, .int .i64 s] W fun e w' => e = .returned (.bool (hasV k s)) ∧ W = w' := by
  have HA := Lib.hid (fun V => isState_any s V)
  unfold hasV
  cases hk : k == -1
  · cases hs : isStB s
    · rw [hs] at HA
      clear hs
      go_enter Tryz.func69, Tryz.ntmps69
      go_wp2_with fail
      refine (HA.out _).mono ?_
      rintro e w' ⟨rfl, rfl⟩
      go_wp2
      go_ret
      exact ⟨rfl, rfl⟩
    · have h0 : 0 ≤ s := by unfold isStB at hs; simp at hs; omega
      rw [hs] at HA
      clear hs
      go_enter Tryz.func69, Tryz.ntmps69
      go_wp2_with fail
      refine (HA.out _).mono ?_
      rintro e w' ⟨rfl, rfl⟩
      go_wp2
      go_ret
      exact ⟨rfl, rfl⟩
  · go_enter Tryz.func69, Tryz.ntmps69
    go_wp2
    go_ret
    exact ⟨rfl, rfl⟩

theorem st_cases {s : Int} (h : isStB s = true) : s = 0 ∨ s = 1 ∨ s = 2 ∨ s = 3 ∨ s = 4 ∨ s = 5 ∨ s = 6 ∨ s = 7 ∨ s = 8 := by
  unfold isStB at h
  simp at h
  omega
/-- What a set holds is told by its nine bits. -/
theorem has_of {k : Int} {p : Int → Bool} (hk : k ≠ -1) (hp : ∀ s, isStB s = false → p s = false) (h : (List.range 9).all (fun (i : Nat) => bitB k (i : Int) == p (i : Int)) = true) (s : Int) : hasV k s = p s := by
  unfold hasV
  rw [show (k == -1) = false by simpa using hk, Bool.false_or]
  cases hs : isStB s
  · rw [hp s hs]; rfl
  · have h' := fun (i : Nat) (hi : i < 9) => eq_of_beq (List.all_eq_true.1 h i (List.mem_range.2 hi))
    rw [Bool.true_and]
    rcases st_cases hs with rfl | rfl | rfl | rfl | rfl | rfl | rfl | rfl | rfl
    · exact h' 0 (by omega)
    · exact h' 1 (by omega)
    · exact h' 2 (by omega)
    · exact h' 3 (by omega)
    · exact h' 4 (by omega)
    · exact h' 5 (by omega)
    · exact h' 6 (by omega)
    · exact h' 7 (by omega)
    · exact h' 8 (by omega)
theorem serves_has (s : Int) : hasV 14 s = decide (ServesI s) := by
  refine has_of (p := fun s => decide (ServesI s)) (by decide) ?_ (by decide +kernel) s
  intro s hs
  unfold isStB at hs
  simp at hs
  refine decide_eq_false ?_
  unfold ServesI
  omega

theorem serves_any (s : Int) (W : World) : Calls Tryz.prog 30 #[.int .i64 s] W fun e w' => e = .returned (.bool (decide (ServesI s))) ∧ W = w' := by
  have HA := Lib.hid (fun V => has_any 14 s V)
  rw [serves_has] at HA
  generalize decide (ServesI s) = b at *
  go_enter Tryz.func30, Tryz.ntmps30
  go_wp2_with fail
  refine (HA.out _).mono ?_
  rintro e w' ⟨rfl, rfl⟩
  go_wp2
  go_ret
  exact ⟨rfl, rfl⟩
theorem rserves_any (s : Int) (W : World) : Calls Tryz.prog 40 #[.int .i64 s] W fun e w' => e = .returned (.bool (decide (ServesI s))) ∧ W = w' := by
  have hb : decide (ServesI s) = ((s == 1) || (s == 2) || (s == 3)) := by
    rw [Bool.eq_iff_iff, decide_eq_true_eq]
    simp [ServesI, or_assoc]
  rw [hb]
  cases h1 : s == 1 <;> cases h2 : s == 2 <;> cases h3 : s == 3
  all_goals
    go_enter Tryz.func40, Tryz.ntmps40
    go_wp2
    go_ret
    exact ⟨rfl, rfl⟩
end Go.Proofs.YtmaohnbddlccdaaGreat.NC
end
