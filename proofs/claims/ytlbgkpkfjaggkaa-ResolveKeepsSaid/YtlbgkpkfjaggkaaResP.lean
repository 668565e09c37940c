/- resolve, pure: what is known of an address behind what is told of it; the stage's theorem. -/
import Derived.Test.YtlbgkpkfjaggkaaMesM
import Derived.Test.YtlbgkpkfjaggkaaCloM
namespace Go.Proofs.Ytlbgkpkfjaggkaa

/-- May what is told be so? -/
def Fits (l : LV) (m : MsgV) : Prop := m.kind = 2 ∧ m.addr = l.addr ∧ RightL l ∧ 0 ≤ m.bind ∧ m.bind ≤ 5 ∧ (HeldL m.bind → 1 ≤ m.client.size ∧ m.client.size ≤ 32)
instance (l : LV) (m : MsgV) : Decidable (Fits l m) := by unfold Fits; infer_instance
/-- Is the server recovering? -/
def recB (s : Int) : Bool := decide (s = 6 ∨ s = 7 ∨ s = 8)
/-- Does the address remain as it is bound? -/
def stayB (l : LV) (y : Bool) : Bool := decide (l.bind = 5 ∨ (l.bind = 2 ∧ y = false))
/-- The lease of somebody new. -/
def newL (l : LV) (m : MsgV) : LV := ⟨l.addr, 2, m.client.data.toList, 0, 0, moV m.pot, 0, l.ver⟩
theorem newL_cb (l : LV) (m : MsgV) : (newL l m).cb = m.client := by simp [newL, LV.cb]
def actV (l : LV) (m : MsgV) (y : Bool) : LV × Bool :=
  if l.bind = 2 ∧ l.cb = m.client then ({ l with told := max l.told (moV m.pot) }, true)
  else if stayB l y = true then (l, false) else (newL l m, true)
def endV (l : LV) (m : MsgV) (is : Bool) : LV × Bool :=
  if l.bind ≠ 2 then (l, true) else if l.cb ≠ m.client ∨ is = false then (l, false) else ({ l with bind := m.bind }, true)
def shaV (l : LV) (m : MsgV) (y : Bool) : LV × Bool :=
  if stayB l y = true then (l, false) else if l.ver < m.at_ ∧ m.at_ ≤ 1099511627776 then (bareL l.addr m.bind m.at_, true) else (l, decide (l.bind ≠ 2))
/-- What is known behind what is told, and whether that is so: the promise is over or not; the server is recovering or not; what was given is given back or not. -/
def tkV (l : LV) (m : MsgV) (ov rc rel : Bool) : LV × Bool :=
  if Fits l m then
    if m.bind = 2 then actV l m (ov && rc)
    else if m.bind = 3 then endV l m ov
    else if m.bind = 4 then endV l m rel
    else if m.bind = 5 then (bareL l.addr 5 l.ver, true)
    else shaV l m (ov && rc)
  else (l, false)
def relB (l : LV) (m : MsgV) (g : Int) : Bool := decide (l.at_ = 0) || pastV m.at_ l.at_ g
def takeV (l : LV) (m : MsgV) (s now g : Int) : LV × Bool := tkV l m (pastV now l.unt 0) (recB s) (relB l m g)

theorem addV_zero (n : Int) : addV n 0 = moV n := by unfold addV moV limV; omega

theorem act_cases (l : LV) (m : MsgV) (y : Bool) : (l.bind = 2 ∧ l.cb = m.client ∧ actV l m y = ({ l with told := max l.told (moV m.pot) }, true)) ∨ (¬ (l.bind = 2 ∧ l.cb = m.client) ∧ stayB l y = true ∧ actV l m y = (l, false)) ∨ (¬ (l.bind = 2 ∧ l.cb = m.client) ∧ stayB l y = false ∧ actV l m y = (newL l m, true)) := by
  unfold actV
  by_cases h : l.bind = 2 ∧ l.cb = m.client
  · exact .inl ⟨h.1, h.2, if_pos h⟩
  · rw [if_neg h]
    cases hs : stayB l y
    · exact .inr (.inr ⟨h, rfl, rfl⟩)
    · exact .inr (.inl ⟨h, rfl, rfl⟩)
theorem end_cases (l : LV) (m : MsgV) (is : Bool) : (l.bind ≠ 2 ∧ endV l m is = (l, true)) ∨ (l.bind = 2 ∧ (l.cb ≠ m.client ∨ is = false) ∧ endV l m is = (l, false)) ∨ (l.bind = 2 ∧ l.cb = m.client ∧ is = true ∧ endV l m is = ({ l with bind := m.bind }, true)) := by
  unfold endV
  by_cases h : l.bind = 2
  · rw [if_neg (by simpa using h)]
    by_cases h2 : l.cb ≠ m.client ∨ is = false
    · exact .inr (.inl ⟨h, h2, if_pos h2⟩)
    · refine .inr (.inr ⟨h, ?_, ?_, if_neg h2⟩)
      · exact Classical.byContradiction fun e => h2 (.inl e)
      · cases is
        · exact absurd (.inr rfl) h2
        · rfl
  · exact .inl ⟨h, if_pos h⟩
theorem sha_cases (l : LV) (m : MsgV) (y : Bool) : (stayB l y = true ∧ shaV l m y = (l, false)) ∨ (stayB l y = false ∧ l.ver < m.at_ ∧ m.at_ ≤ 1099511627776 ∧ shaV l m y = (bareL l.addr m.bind m.at_, true)) ∨ (stayB l y = false ∧ ¬ (l.ver < m.at_ ∧ m.at_ ≤ 1099511627776) ∧ shaV l m y = (l, decide (l.bind ≠ 2))) := by
  unfold shaV
  cases hs : stayB l y
  · by_cases h : l.ver < m.at_ ∧ m.at_ ≤ 1099511627776
    · exact .inr (.inl ⟨rfl, h.1, h.2, by rw [if_pos h]; rfl⟩)
    · exact .inr (.inr ⟨rfl, h, by rw [if_neg h]; rfl⟩)
  · exact .inl ⟨rfl, rfl⟩
theorem stay_no {l : LV} {y : Bool} (h : stayB l y = false) : l.bind ≠ 5 ∧ (l.bind = 2 → y = true) := by
  unfold stayB at h
  rw [decide_eq_false_iff_not] at h
  refine ⟨fun e => h (.inl e), fun e => ?_⟩
  cases y
  · exact absurd (.inr ⟨e, rfl⟩) h
  · rfl
/-- All ways in which something is told. -/
theorem tk_cases (l : LV) (m : MsgV) (ov rc rel : Bool) :
    (¬ Fits l m ∧ tkV l m ov rc rel = (l, false)) ∨ (Fits l m ∧ m.bind = 2 ∧ tkV l m ov rc rel = actV l m (ov && rc)) ∨ (Fits l m ∧ m.bind = 3 ∧ tkV l m ov rc rel = endV l m ov) ∨ (Fits l m ∧ m.bind = 4 ∧ tkV l m ov rc rel = endV l m rel)
      ∨ (Fits l m ∧ m.bind = 5 ∧ tkV l m ov rc rel = (bareL l.addr 5 l.ver, true)) ∨ (Fits l m ∧ (m.bind = 0 ∨ m.bind = 1) ∧ tkV l m ov rc rel = shaV l m (ov && rc)) := by
  unfold tkV
  by_cases hf : Fits l m
  · rw [if_pos hf]
    obtain ⟨_, _, _, h0, h5, _⟩ := id hf
    by_cases h2 : m.bind = 2
    · exact .inr (.inl ⟨hf, h2, if_pos h2⟩)
    rw [if_neg h2]
    by_cases h3 : m.bind = 3
    · exact .inr (.inr (.inl ⟨hf, h3, if_pos h3⟩))
    rw [if_neg h3]
    by_cases h4 : m.bind = 4
    · exact .inr (.inr (.inr (.inl ⟨hf, h4, if_pos h4⟩)))
    rw [if_neg h4]
    by_cases h5' : m.bind = 5
    · exact .inr (.inr (.inr (.inr (.inl ⟨hf, h5', if_pos h5'⟩))))
    rw [if_neg h5']
    exact .inr (.inr (.inr (.inr (.inr ⟨hf, by omega, rfl⟩))))
  · exact .inl ⟨hf, if_neg hf⟩

/-- What is refused changes nothing. -/
theorem tk_no {l : LV} {m : MsgV} {ov rc rel : Bool} (h : (tkV l m ov rc rel).2 = false) : (tkV l m ov rc rel).1 = l := by
  rcases tk_cases l m ov rc rel with ⟨_, e⟩ | ⟨_, _, e⟩ | ⟨_, _, e⟩ | ⟨_, _, e⟩ | ⟨_, _, e⟩ | ⟨_, _, e⟩
  · rw [e]
  · rcases act_cases l m (ov && rc) with ⟨_, _, e2⟩ | ⟨_, _, e2⟩ | ⟨_, _, e2⟩ <;> rw [e, e2] at h ⊢ <;> first | rfl | cases h
  · rcases end_cases l m ov with ⟨_, e2⟩ | ⟨_, _, e2⟩ | ⟨_, _, _, e2⟩ <;> rw [e, e2] at h ⊢ <;> first | rfl | cases h
  · rcases end_cases l m rel with ⟨_, e2⟩ | ⟨_, _, e2⟩ | ⟨_, _, _, e2⟩ <;> rw [e, e2] at h ⊢ <;> first | rfl | cases h
  · rw [e] at h; cases h
  · rcases sha_cases l m (ov && rc) with ⟨_, e2⟩ | ⟨_, _, _, e2⟩ | ⟨_, _, e2⟩ <;> rw [e, e2] at h ⊢ <;> first | rfl | cases h
/-- No promise is dropped ahead of its end, but that it is released, or abandoned. -/
theorem tk_keeps {l : LV} {m : MsgV} {rc rel : Bool} (h : (tkV l m false rc rel).2 = true) (hb : l.bind = 2) (h4 : m.bind ≠ 4) (h5 : m.bind ≠ 5) :
    (tkV l m false rc rel).1.bind = 2 ∧ (tkV l m false rc rel).1.cb = l.cb ∧ (tkV l m false rc rel).1.unt = l.unt ∧ (tkV l m false rc rel).1.acked = l.acked ∧ l.told ≤ (tkV l m false rc rel).1.told := by
  have hst : stayB l (false && rc) = true := by unfold stayB; rw [hb]; simp
  rcases tk_cases l m false rc rel with ⟨_, e⟩ | ⟨_, _, e⟩ | ⟨_, _, e⟩ | ⟨_, e4, _⟩ | ⟨_, e5, _⟩ | ⟨_, _, e⟩
  · rw [e] at h; cases h
  · rcases act_cases l m (false && rc) with ⟨_, _, e2⟩ | ⟨_, _, e2⟩ | ⟨_, hs, _⟩
    · rw [e, e2]; exact ⟨hb, rfl, rfl, rfl, by show l.told ≤ max l.told _; omega⟩
    · rw [e, e2] at h; cases h
    · rw [hst] at hs; cases hs
  · rcases end_cases l m false with ⟨hn, _⟩ | ⟨_, _, e2⟩ | ⟨_, _, hi, _⟩
    · exact absurd hb hn
    · rw [e, e2] at h; cases h
    · cases hi
  · exact absurd e4 h4
  · exact absurd e5 h5
  · rcases sha_cases l m (false && rc) with ⟨_, e2⟩ | ⟨hs, _⟩ | ⟨hs, _⟩
    · rw [e, e2] at h; cases h
    · rw [hst] at hs; cases hs
    · rw [hst] at hs; cases hs
theorem right_told {l : LV} (h : RightL l) (hb : l.bind = 2) (t : Int) (ht : TimeL t) : RightL { l with told := t } := by
  have hh : HeldL l.bind := .inl hb
  exact ⟨h.b0, h.b1, h.unt, h.acked, ht, h.at_, h.ver, h.held, fun n => absurd hh n⟩
theorem right_ended {l : LV} (h : RightL l) (hb : l.bind = 2) {b : Int} (h3 : b = 3 ∨ b = 4) : RightL { l with bind := b } := by
  have hh : HeldL l.bind := .inl hb
  refine ⟨by show 0 ≤ b; omega, by show b ≤ 5; omega, h.unt, h.acked, h.told, h.at_, h.ver, fun _ => h.held hh, fun n => ?_⟩
  exact absurd (by show HeldL b; unfold HeldL; omega) n
theorem right_new {l : LV} {m : MsgV} (h : RightL l) (hc : 1 ≤ m.client.size ∧ m.client.size ≤ 32) : RightL (newL l m) := by
  refine ⟨by show (0 : Int) ≤ 2; decide, by show (2 : Int) ≤ 5; decide, by show TimeL 0; decide, by show TimeL 0; decide, moV_range _, by show TimeL 0; decide, h.ver, fun _ => ?_, fun n => absurd (.inl rfl) n⟩
  show 1 ≤ m.client.data.toList.length ∧ m.client.data.toList.length ≤ 32
  rw [Array.length_toList]
  exact hc
/-- What is told twice is so twice, and changes nothing more; what is known may be. -/
theorem tk_twice {l : LV} {m : MsgV} {ov rc rel : Bool} (h : (tkV l m ov rc rel).2 = true) :
    RightL (tkV l m ov rc rel).1 ∧ (tkV l m ov rc rel).1.addr = l.addr ∧ ∀ ov' rc' rel', tkV (tkV l m ov rc rel).1 m ov' rc' rel' = ((tkV l m ov rc rel).1, true) := by
  have fit : ∀ x : LV, Fits l m → RightL x → x.addr = l.addr → Fits x m := fun x ⟨a, b, _, d, e, f⟩ r ea => ⟨a, b.trans ea.symm, r, d, e, f⟩
  rcases tk_cases l m ov rc rel with ⟨_, e⟩ | ⟨hf, hb, e⟩ | ⟨hf, hb, e⟩ | ⟨hf, hb, e⟩ | ⟨hf, hb, e⟩ | ⟨hf, hb, e⟩
  · rw [e] at h; cases h
  · have hr := hf.2.2.1
    have hc := hf.2.2.2.2.2 (.inl hb)
    rcases act_cases l m (ov && rc) with ⟨h1, h2, e2⟩ | ⟨_, _, e2⟩ | ⟨_, _, e2⟩
    · have r : RightL { l with told := max l.told (moV m.pot) } := right_told hr h1 _ (by have a := hr.told; have b := moV_range m.pot; unfold TimeL at *; omega)
      rw [e, e2]
      refine ⟨r, rfl, fun ov' rc' rel' => ?_⟩
      show tkV { l with told := max l.told (moV m.pot) } m ov' rc' rel' = ({ l with told := max l.told (moV m.pot) }, true)
      have f2 := fit _ hf r rfl
      unfold tkV
      rw [if_pos f2, if_pos hb]
      unfold actV
      rw [if_pos ⟨h1, h2⟩]
      show ({ l with told := max (max l.told (moV m.pot)) (moV m.pot) }, true) = _
      rw [show max (max l.told (moV m.pot)) (moV m.pot) = max l.told (moV m.pot) by omega]
    · rw [e, e2] at h; cases h
    · have r : RightL (newL l m) := right_new hr hc
      rw [e, e2]
      refine ⟨r, rfl, fun ov' rc' rel' => ?_⟩
      show tkV (newL l m) m ov' rc' rel' = (newL l m, true)
      have f2 := fit _ hf r rfl
      unfold tkV
      rw [if_pos f2, if_pos hb]
      unfold actV
      rw [if_pos ⟨rfl, newL_cb l m⟩]
      show ({ newL l m with told := max (moV m.pot) (moV m.pot) }, true) = _
      rw [Int.max_self]
      rfl
  · have hr := hf.2.2.1
    rcases end_cases l m ov with ⟨h1, e2⟩ | ⟨_, _, e2⟩ | ⟨h1, _, _, e2⟩
    · rw [e, e2]
      refine ⟨hr, rfl, fun ov' rc' rel' => ?_⟩
      show tkV l m ov' rc' rel' = (l, true)
      unfold tkV
      rw [if_pos hf, if_neg (by omega), if_pos hb]
      exact if_pos h1
    · rw [e, e2] at h; cases h
    · have r : RightL { l with bind := m.bind } := right_ended hr h1 (.inl hb)
      rw [e, e2]
      refine ⟨r, rfl, fun ov' rc' rel' => ?_⟩
      show tkV { l with bind := m.bind } m ov' rc' rel' = ({ l with bind := m.bind }, true)
      have f2 := fit _ hf r rfl
      unfold tkV
      rw [if_pos f2, if_neg (by omega), if_pos hb]
      exact if_pos (by show m.bind ≠ 2; omega)
  · have hr := hf.2.2.1
    rcases end_cases l m rel with ⟨h1, e2⟩ | ⟨_, _, e2⟩ | ⟨h1, _, _, e2⟩
    · rw [e, e2]
      refine ⟨hr, rfl, fun ov' rc' rel' => ?_⟩
      show tkV l m ov' rc' rel' = (l, true)
      unfold tkV
      rw [if_pos hf, if_neg (by omega), if_neg (by omega), if_pos hb]
      exact if_pos h1
    · rw [e, e2] at h; cases h
    · have r : RightL { l with bind := m.bind } := right_ended hr h1 (.inr hb)
      rw [e, e2]
      refine ⟨r, rfl, fun ov' rc' rel' => ?_⟩
      show tkV { l with bind := m.bind } m ov' rc' rel' = ({ l with bind := m.bind }, true)
      have f2 := fit _ hf r rfl
      unfold tkV
      rw [if_pos f2, if_neg (by omega), if_neg (by omega), if_pos hb]
      exact if_pos (by show m.bind ≠ 2; omega)
  · have hr := hf.2.2.1
    have r : RightL (bareL l.addr 5 l.ver) := (bare_right _ _ _).2 ⟨.inr (.inr rfl), hr.ver⟩
    rw [e]
    refine ⟨r, rfl, fun ov' rc' rel' => ?_⟩
    show tkV (bareL l.addr 5 l.ver) m ov' rc' rel' = (bareL l.addr 5 l.ver, true)
    have f2 := fit _ hf r rfl
    unfold tkV
    rw [if_pos f2, if_neg (by omega), if_neg (by omega), if_neg (by omega), if_pos hb]
    rfl
  · have hr := hf.2.2.1
    rcases sha_cases l m (ov && rc) with ⟨_, e2⟩ | ⟨hs, h1, h2, e2⟩ | ⟨hs, h1, e2⟩
    · rw [e, e2] at h; cases h
    · have hv := hr.ver
      have r : RightL (bareL l.addr m.bind m.at_) := (bare_right _ _ _).2 ⟨by omega, by unfold TimeL at *; omega⟩
      rw [e, e2]
      refine ⟨r, rfl, fun ov' rc' rel' => ?_⟩
      show tkV (bareL l.addr m.bind m.at_) m ov' rc' rel' = (bareL l.addr m.bind m.at_, true)
      have f2 := fit _ hf r rfl
      unfold tkV
      rw [if_pos f2, if_neg (by omega), if_neg (by omega), if_neg (by omega), if_neg (by omega)]
      unfold shaV
      have hn : stayB (bareL l.addr m.bind m.at_) (ov' && rc') = false := by
        unfold stayB bareL
        rw [decide_eq_false_iff_not]
        show ¬ (m.bind = 5 ∨ (m.bind = 2 ∧ _))
        omega
      rw [hn, if_neg (by simp), if_neg (fun ⟨a, _⟩ => absurd a (by show ¬ m.at_ < m.at_; omega))]
      show (_, decide (m.bind ≠ 2)) = _
      rw [show decide (m.bind ≠ 2) = true from decide_eq_true (by omega)]
    · rw [e, e2] at h ⊢
      have hb2 : l.bind ≠ 2 := by simpa using h
      rw [show decide (l.bind ≠ 2) = true from decide_eq_true hb2]
      refine ⟨hr, rfl, fun ov' rc' rel' => ?_⟩
      show tkV l m ov' rc' rel' = (l, true)
      have h5 := (stay_no hs).1
      unfold tkV
      rw [if_pos hf, if_neg (by omega), if_neg (by omega), if_neg (by omega), if_neg (by omega)]
      unfold shaV
      have hn : stayB l (ov' && rc') = false := by
        unfold stayB
        rw [decide_eq_false_iff_not]
        omega
      rw [hn, if_neg (by simp), if_neg h1, show decide (l.bind ≠ 2) = true from decide_eq_true hb2]
end Go.Proofs.Ytlbgkpkfjaggkaa
