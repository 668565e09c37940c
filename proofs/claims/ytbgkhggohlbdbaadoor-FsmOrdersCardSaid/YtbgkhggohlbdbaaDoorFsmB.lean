/- The document's Next of layer 14. -/
import Derived.Test.YtbgkhggohlbdbaaDoorFsmA
namespace Go.Proofs.YtbgkhggohlbdbaaDoor
open Go.RowKit

/-- The numbers of the events. -/
def evN : EvI := ⟨0, 1, 2, 3, 4⟩

theorem o_cases (o : Int) : ((o == 3) = true ∧ decide (TornI o) = false ∧ decide (CalmI o) = false ∧ (o == 1) = false ∧ (o == 2) = false)
    ∨ ((o == 3) = false ∧ decide (TornI o) = true ∧ decide (CalmI o) = false ∧ (o == 1) = false ∧ (o == 2) = false)
    ∨ ((o == 3) = false ∧ decide (TornI o) = false ∧ decide (CalmI o) = true ∧ (o == 1) = true ∧ (o == 2) = false)
    ∨ ((o == 3) = false ∧ decide (TornI o) = false ∧ decide (CalmI o) = true ∧ (o == 1) = false ∧ (o == 2) = true)
    ∨ ((o == 3) = false ∧ decide (TornI o) = false ∧ decide (CalmI o) = true ∧ (o == 1) = false ∧ (o == 2) = false)
    ∨ ((o == 3) = false ∧ decide (TornI o) = false ∧ decide (CalmI o) = false ∧ (o == 1) = false ∧ (o == 2) = false) := by
  simp only [decide_eq_true_eq, decide_eq_false_iff_not, beq_iff_eq, beq_eq_false_iff_ne]
  unfold TornI CalmI
  omega
theorem s_cases (s : Int) : (s == 0) = true ∨ ((s == 0) = false ∧ (s == 1) = true) ∨ ((s == 0) = false ∧ (s == 1) = false ∧ (s == 2) = true) ∨ ((s == 0) = false ∧ (s == 1) = false ∧ (s == 2) = false ∧ (s == 3) = true)
    ∨ ((s == 0) = false ∧ (s == 1) = false ∧ (s == 2) = false ∧ (s == 3) = false ∧ (s == 5) = true) ∨ ((s == 0) = false ∧ (s == 1) = false ∧ (s == 2) = false ∧ (s == 3) = false ∧ (s == 5) = false ∧ (s == 8) = true)
    ∨ ((s == 0) = false ∧ (s == 1) = false ∧ (s == 2) = false ∧ (s == 3) = false ∧ (s == 5) = false ∧ (s == 8) = false) := by
  simp only [beq_iff_eq, beq_eq_false_iff_ne]
  omega

def heardB (s : Int) (s0 s1 s2 s3 s5 s8 o3 o1 o2 t c : Bool) : Int :=
  if s0 then (if o3 then 6 else if t then 4 else if c then 1 else s)
  else if s1 then (if o3 || t then 4 else s)
  else if s2 then (if o3 || t then 4 else if c then 1 else s)
  else if s3 then (if o1 || o2 || o3 || t then 4 else s)
  else if s5 then 4
  else if s8 then (if o1 then 1 else if t then 4 else s)
  else s
theorem heardI_eq (s o : Int) : heardI s o = heardB s (s == 0) (s == 1) (s == 2) (s == 3) (s == 5) (s == 8) (o == 3) (o == 1) (o == 2) (decide (TornI o)) (decide (CalmI o)) := by
  unfold heardI heardB
  simp only [beq_iff_eq, Bool.or_eq_true, decide_eq_true_eq, or_assoc]

set_option maxHeartbeats 2000000 in
theorem heard_any (s o : Int) (W : World) : Calls Tryd.prog 19 #[.int .i64 s, .int .i64 o] W fun e w' => e = .returned (.int .i64 (heardI s o)) ∧ W = w' := by
  have HT := Lib.hid (fun V => torn_any o V)
  have HC := Lib.hid (fun V => calm_any o V)
  rw [heardI_eq]
  rcases o_cases o with ⟨h3, ht, hc, h1, h2⟩ | ⟨h3, ht, hc, h1, h2⟩ | ⟨h3, ht, hc, h1, h2⟩ | ⟨h3, ht, hc, h1, h2⟩ | ⟨h3, ht, hc, h1, h2⟩ | ⟨h3, ht, hc, h1, h2⟩
  all_goals
    rw [h3, h1, h2, ht, hc]
    rw [ht] at HT
    rw [hc] at HC
    clear ht hc
    rcases s_cases s with g | ⟨g0, g⟩ | ⟨g0, g1, g⟩ | ⟨g0, g1, g2, g⟩ | ⟨g0, g1, g2, g3, g⟩ | ⟨g0, g1, g2, g3, g5, g⟩ | ⟨g0, g1, g2, g3, g5, g⟩
    all_goals
      try rw [g0]
      try rw [g1]
      try rw [g2]
      try rw [g3]
      try rw [g5]
      rw [g]
      unfold heardB
      go_enter Tryd.func19, Tryd.ntmps19
      go_wp2_with fail
      try
        refine (HT.out _).mono ?_
        rintro e w' ⟨rfl, rfl⟩
        go_wp2_with fail
      try
        refine (HC.out _).mono ?_
        rintro e w' ⟨rfl, rfl⟩
        go_wp2_with fail
      go_ret
      exact ⟨rfl, rfl⟩

theorem syncedI_at (s o : Int) : (s = 3 ∧ o = 8 ∧ syncedI s o = 1) ∨ (s = 3 ∧ (o == 8) = false ∧ syncedI s o = s) ∨ (s = 4 ∧ (o == 1) = true ∧ syncedI s o = 1) ∨ (s = 4 ∧ (o == 1) = false ∧ (o == 4) = true ∧ syncedI s o = 1)
    ∨ (s = 4 ∧ (o == 1) = false ∧ (o == 4) = false ∧ syncedI s o = s) ∨ (s = 6 ∧ syncedI s o = 7) ∨ ((s == 3) = false ∧ (s == 4) = false ∧ (s == 6) = false ∧ syncedI s o = s) := by
  simp only [beq_iff_eq, beq_eq_false_iff_ne]
  unfold syncedI
  (repeat' split) <;> omega
theorem synced_any (s o : Int) (W : World) : Calls Tryd.prog 20 #[.int .i64 s, .int .i64 o] W fun e w' => e = .returned (.int .i64 (syncedI s o)) ∧ W = w' := by
  rcases syncedI_at s o with ⟨rfl, rfl, h⟩ | ⟨rfl, h1, h⟩ | ⟨rfl, h1, h⟩ | ⟨rfl, h1, h2, h⟩ | ⟨rfl, h1, h2, h⟩ | ⟨rfl, h⟩ | ⟨h1, h2, h3, h⟩
  all_goals
    rw [h]
    clear h
    go_enter Tryd.func20, Tryd.ntmps20
    go_wp2
    go_ret
    exact ⟨rfl, rfl⟩

theorem nextI_at (s e o : Int) : (e = 0 ∧ nextI evN s e o = heardI s o) ∨ (e = 3 ∧ nextI evN s e o = syncedI s o)
    ∨ (e = 1 ∧ s = 1 ∧ nextI evN s e o = 2) ∨ (e = 1 ∧ s = 4 ∧ nextI evN s e o = 5) ∨ (e = 1 ∧ (s == 1) = false ∧ (s == 4) = false ∧ nextI evN s e o = s)
    ∨ (e = 2 ∧ (s == 0) = true ∧ nextI evN s e o = 3) ∨ (e = 2 ∧ (s == 0) = false ∧ (s == 2) = true ∧ nextI evN s e o = 3) ∨ (e = 2 ∧ (s == 0) = false ∧ (s == 2) = false ∧ (s == 5) = true ∧ nextI evN s e o = 3) ∨ (e = 2 ∧ (s == 0) = false ∧ (s == 2) = false ∧ (s == 5) = false ∧ nextI evN s e o = s)
    ∨ (e = 4 ∧ s = 7 ∧ nextI evN s e o = 8) ∨ (e = 4 ∧ (s == 7) = false ∧ nextI evN s e o = s)
    ∨ ((e == 0) = false ∧ (e == 3) = false ∧ (e == 1) = false ∧ (e == 2) = false ∧ (e == 4) = false ∧ nextI evN s e o = s) := by
  simp only [beq_iff_eq, beq_eq_false_iff_ne]
  unfold nextI evN
  simp only
  generalize heardI s o = x
  generalize syncedI s o = y
  by_cases h0 : e = 0
  · subst h0; exact .inl ⟨rfl, rfl⟩
  by_cases h3 : e = 3
  · subst h3; exact .inr (.inl ⟨rfl, rfl⟩)
  rw [if_neg h0, if_neg h3]
  by_cases h1 : e = 1
  · rw [if_pos h1]
    by_cases a : s = 1
    · rw [if_pos a]; exact .inr (.inr (.inl ⟨h1, a, rfl⟩))
    rw [if_neg a]
    by_cases b : s = 4
    · rw [if_pos b]; exact .inr (.inr (.inr (.inl ⟨h1, b, rfl⟩)))
    · rw [if_neg b]; exact .inr (.inr (.inr (.inr (.inl ⟨h1, a, b, rfl⟩))))
  rw [if_neg h1]
  by_cases h2 : e = 2
  · rw [if_pos h2]
    by_cases a : s = 0
    · rw [if_pos (.inl a)]; exact .inr (.inr (.inr (.inr (.inr (.inl ⟨h2, a, rfl⟩)))))
    by_cases b : s = 2
    · rw [if_pos (.inr (.inl b))]; exact .inr (.inr (.inr (.inr (.inr (.inr (.inl ⟨h2, a, b, rfl⟩))))))
    by_cases c : s = 5
    · rw [if_pos (.inr (.inr c))]; exact .inr (.inr (.inr (.inr (.inr (.inr (.inr (.inl ⟨h2, a, b, c, rfl⟩)))))))
    · rw [if_neg (by omega)]; exact .inr (.inr (.inr (.inr (.inr (.inr (.inr (.inr (.inl ⟨h2, a, b, c, rfl⟩))))))))
  rw [if_neg h2]
  by_cases h4 : e = 4
  · rw [if_pos h4]
    by_cases a : s = 7
    · rw [if_pos a]; exact .inr (.inr (.inr (.inr (.inr (.inr (.inr (.inr (.inr (.inl ⟨h4, a, rfl⟩)))))))))
    · rw [if_neg a]; exact .inr (.inr (.inr (.inr (.inr (.inr (.inr (.inr (.inr (.inr (.inl ⟨h4, a, rfl⟩))))))))))
  rw [if_neg h4]
  exact .inr (.inr (.inr (.inr (.inr (.inr (.inr (.inr (.inr (.inr (.inr (⟨h0, h3, h1, h2, h4, rfl⟩)))))))))))
set_option maxHeartbeats 1000000 in
theorem rnext_any (s e o : Int) (W : World) : Calls Tryd.prog 10 #[.int .i64 s, .int .i64 e, .int .i64 o] W fun e' w' => e' = .returned (.int .i64 (nextI evN s e o)) ∧ W = w' := by
  have HH := Lib.hid (fun V => heard_any s o V)
  have HS := Lib.hid (fun V => synced_any s o V)
  rcases nextI_at s e o with ⟨rfl, h⟩ | ⟨rfl, h⟩ | ⟨rfl, rfl, h⟩ | ⟨rfl, rfl, h⟩ | ⟨rfl, h1, h2, h⟩ | ⟨rfl, h1, h⟩ | ⟨rfl, h1, h2, h⟩ | ⟨rfl, h1, h2, h3, h⟩ | ⟨rfl, h1, h2, h3, h⟩ | ⟨rfl, rfl, h⟩ | ⟨rfl, h1, h⟩ | ⟨h1, h2, h3, h4, h5, h⟩
  all_goals
    rw [h]
    clear h
    generalize heardI _ _ = x at *
    generalize syncedI _ _ = y at *
    go_enter Tryd.func10, Tryd.ntmps10
    go_wp2_with fail
    try
      refine (HH.out _).mono ?_
      rintro e w' ⟨rfl, rfl⟩
      go_wp2_with fail
    try
      refine (HS.out _).mono ?_
      rintro e w' ⟨rfl, rfl⟩
      go_wp2_with fail
    go_ret
    exact ⟨rfl, rfl⟩
end Go.Proofs.YtbgkhggohlbdbaaDoor
