/- Plain mathematics of messages: which are right, their bytes, and back. -/
import Derived.Test.YtfikdocpcepmmaaMsgC
import Derived.Test.YtfikdocpcepmmaaMsgK
namespace Go.Proofs.Ytfikdocpcepmmaa

section
variable {σ : Type} {st : StepF σ} {s : σ} {m : MsgV}
theorem walkG_1 (h : (headG st s m).1.kind = 1) : walkG st s m = helloG st (headG st s m).2 m (headG st s m).1 := if_pos h
theorem walkG_3 (h1 : ¬ (headG st s m).1.kind = 1) (h : (headG st s m).1.kind = 3) : walkG st s m = ackG st (headG st s m).2 m (headG st s m).1 := (if_neg h1).trans (if_pos h)
theorem walkG_2 (h1 : ¬ (headG st s m).1.kind = 1) (h3 : ¬ (headG st s m).1.kind = 3) (h : (headG st s m).1.kind = 2) : walkG st s m = updateG st (headG st s m).2 m (headG st s m).1 := (if_neg h1).trans ((if_neg h3).trans (if_pos h))
theorem walkG_0 (h1 : ¬ (headG st s m).1.kind = 1) (h3 : ¬ (headG st s m).1.kind = 3) (h : ¬ (headG st s m).1.kind = 2) : walkG st s m = headG st s m := (if_neg h1).trans ((if_neg h3).trans (if_neg h))
end

/-- Is a number within a range? -/
def wthn (n lo hi : Int) : Bool := decide (lo ≤ n) && decide (n ≤ hi)
theorem wthn_iff (n lo hi : Int) : wthn n lo hi = true ↔ lo ≤ n ∧ n ≤ hi := by simp [wthn]

/-- What a right message's kind asks of it. -/
def KM (m : MsgV) : Prop :=
  (m.kind = 1 ∧ (1 ≤ m.xid ∧ m.xid ≤ 1073741824) ∧ (0 ≤ m.state ∧ m.state ≤ 8) ∧ m.addr = 0 ∧ m.bind = 0 ∧ m.client = ⟨#[]⟩ ∧ m.pot = 0 ∧ m.at_ = 0 ∧ m.ok = false) ∨
  (m.kind = 3 ∧ (1 ≤ m.xid ∧ m.xid ≤ 1073741824) ∧ m.state = 0 ∧ m.addr = 0 ∧ m.bind = 0 ∧ m.client = ⟨#[]⟩ ∧ m.pot = 0 ∧ m.at_ = 0) ∨
  (m.kind = 2 ∧ (1 ≤ m.xid ∧ m.xid ≤ 1073741824) ∧ m.state = 0 ∧ (0 ≤ m.bind ∧ m.bind ≤ 5) ∧ m.client.size ≤ 32 ∧ (0 ≤ m.pot ∧ m.pot ≤ 1099511627776) ∧ (0 ≤ m.at_ ∧ m.at_ ≤ 1099511627776) ∧ m.ok = false) ∨
  ((m.kind = 4 ∨ m.kind = 5) ∧ m.xid = 0 ∧ m.state = 0 ∧ m.addr = 0 ∧ m.bind = 0 ∧ m.client = ⟨#[]⟩ ∧ m.pot = 0 ∧ m.at_ = 0 ∧ m.ok = false)
/-- A right message. -/
def RM (m : MsgV) : Prop := (1 ≤ m.kind ∧ m.kind ≤ 5) ∧ (1 ≤ m.life ∧ m.life ≤ 536870912) ∧ (0 ≤ m.seen ∧ m.seen ≤ 536870912) ∧ KM m
instance (m : MsgV) : Decidable (RM m) := by unfold RM KM; infer_instance
def rightM (m : MsgV) : Bool := decide (RM m)
theorem right_iff (m : MsgV) : rightM m = true ↔ RM m := by simp [rightM]

theorem lim_iff {n lo hi : Int} (h : lo ≤ hi) : limI n lo hi = n ↔ lo ≤ n ∧ n ≤ hi := by unfold limI; omega
theorem lim_in {n lo hi : Int} (h1 : lo ≤ n) (h2 : n ≤ hi) : limI n lo hi = n := (lim_iff (by omega)).2 ⟨h1, h2⟩

theorem run_lim (l : List UInt8) : runG limS () l = (l, ()) := by
  induction l with
  | nil => rfl
  | cons c r ih =>
    have h1 := c.toNat_lt
    have h : limI (c.toNat : Int) 0 255 = (c.toNat : Int) := lim_in (by omega) (by omega)
    simp only [runG, limS, h, ih]
    congr 2
    apply UInt8.toNat_inj.1
    rw [UInt8.toNat_ofNat']
    omega
theorem len_data (x : ByteArray) : x.data.toList.length = x.size := Array.length_toList (xs := x.data)
theorem name_lim (x : ByteArray) : (nameG limS () x).1 = x ↔ x.size ≤ 32 := by
  have hl := len_data x
  have h1 : (limI (x.size : Int) 0 32).toNat = min x.size 32 := by unfold limI; omega
  have h2 : nameG limS () x = (⟨(padL x.data.toList (min x.size 32)).toArray⟩, ()) := by
    unfold nameG
    show ((⟨(runG limS () (padL x.data.toList (limI (x.size : Int) 0 32).toNat)).1.toArray⟩ : ByteArray), ()) = _
    rw [run_lim, h1]
  rw [h2]
  have h3 : padL x.data.toList (min x.size 32) = x.data.toList.take 32 := by
    unfold padL
    rw [show min x.size 32 - x.data.toList.length = 0 by omega]
    simp only [List.replicate_zero, List.append_nil]
    rw [List.take_eq_take_iff]
    omega
  rw [h3]
  constructor
  · intro h
    have h4 := congrArg ByteArray.size h
    have h5 : (⟨(x.data.toList.take 32).toArray⟩ : ByteArray).size = (x.data.toList.take 32).length := List.size_toArray
    rw [h5, List.length_take] at h4
    omega
  · intro h
    rw [List.take_of_length_le (by omega)]

theorem addrOf_nat (n : Nat) (h : n < 4294967296) : addrOf (n : Int) = n := by unfold addrOf; omega
theorem bit_back (b : Bool) : (bitI b == 1) = b := by cases b <;> rfl
theorem bit_lim (b : Bool) : limI (bitI b) 0 1 = bitI b := by cases b <;> rfl

/-- The walk that limits leaves just the right messages as they are. -/
theorem walk_lim (m : MsgV) (ha : m.addr < 4294967296) : (walkG limS () m).1 = m ↔ RM m := by
  have hk5 : limI m.kind 1 5 = m.kind ↔ 1 ≤ m.kind ∧ m.kind ≤ 5 := lim_iff (by omega)
  have hl : limI m.life 1 536870912 = m.life ↔ _ := lim_iff (by omega)
  have hs : limI m.seen 0 536870912 = m.seen ↔ _ := lim_iff (by omega)
  have hx : limI m.xid 1 1073741824 = m.xid ↔ _ := lim_iff (by omega)
  have hst : limI m.state 0 8 = m.state ↔ _ := lim_iff (by omega)
  have hb : limI m.bind 0 5 = m.bind ↔ _ := lim_iff (by omega)
  have hp : limI m.pot 0 1099511627776 = m.pot ↔ _ := lim_iff (by omega)
  have hat : limI m.at_ 0 1099511627776 = m.at_ ↔ _ := lim_iff (by omega)
  have had : limI (m.addr : Int) 0 4294967295 = (m.addr : Int) := lim_in (by omega) (by omega)
  have hn := name_lim m.client
  obtain ⟨ki, li, se, xi, stt, ad, bi, cl, po, at_, ok⟩ := m
  simp only at *
  unfold RM KM
  by_cases h1 : limI ki 1 5 = 1
  · rw [walkG_1 (by exact h1)]
    simp only [helloG, headG, limS, MsgV.mk.injEq, h1]
    constructor
    · rintro ⟨rfl, e2, e3, e4, e5, e6, e7, e8, e9, e10, e11⟩
      exact ⟨by omega, hl.1 e2, hs.1 e3, .inl ⟨rfl, hx.1 e4, hst.1 e5, e6.symm, e7.symm, e8.symm, e9.symm, e10.symm, e11.symm⟩⟩
    · rintro ⟨a, b, c, h⟩
      have := hk5.2 a
      rcases h with ⟨rfl, e4, e5, rfl, rfl, rfl, rfl, rfl, rfl⟩ | ⟨rfl, _⟩ | ⟨rfl, _⟩ | ⟨rfl | rfl, _⟩
      · exact ⟨rfl, hl.2 b, hs.2 c, hx.2 e4, hst.2 e5, rfl, rfl, rfl, rfl, rfl, rfl⟩
      all_goals (exfalso; omega)
  by_cases h3 : limI ki 1 5 = 3
  · rw [walkG_3 (by exact h1) (by exact h3)]
    simp only [ackG, headG, limS, MsgV.mk.injEq, h3, bit_lim, bit_back]
    constructor
    · rintro ⟨rfl, e2, e3, e4, e5, e6, e7, e8, e9, e10, _⟩
      exact ⟨by omega, hl.1 e2, hs.1 e3, .inr (.inl ⟨rfl, hx.1 e4, e5.symm, e6.symm, e7.symm, e8.symm, e9.symm, e10.symm⟩)⟩
    · rintro ⟨a, b, c, h⟩
      have := hk5.2 a
      rcases h with ⟨rfl, _⟩ | ⟨rfl, e4, rfl, rfl, rfl, rfl, rfl, rfl⟩ | ⟨rfl, _⟩ | ⟨rfl | rfl, _⟩
      · exfalso; omega
      · exact ⟨rfl, hl.2 b, hs.2 c, hx.2 e4, rfl, rfl, rfl, rfl, rfl, rfl, trivial⟩
      all_goals (exfalso; omega)
  by_cases h2 : limI ki 1 5 = 2
  · rw [walkG_2 (by exact h1) (by exact h3) (by exact h2)]
    simp only [updateG, headG, limS, MsgV.mk.injEq, h2, had, addrOf_nat _ ha, hn]
    constructor
    · rintro ⟨rfl, e2, e3, e4, e5, _, e7, e8, e9, e10, e11⟩
      exact ⟨by omega, hl.1 e2, hs.1 e3, .inr (.inr (.inl ⟨rfl, hx.1 e4, e5.symm, hb.1 e7, e8, hp.1 e9, hat.1 e10, e11.symm⟩))⟩
    · rintro ⟨a, b, c, h⟩
      have := hk5.2 a
      rcases h with ⟨rfl, _⟩ | ⟨rfl, _⟩ | ⟨rfl, e4, rfl, e7, e8, e9, e10, rfl⟩ | ⟨rfl | rfl, _⟩
      · exfalso; omega
      · exfalso; omega
      · exact ⟨rfl, hl.2 b, hs.2 c, hx.2 e4, rfl, trivial, hb.2 e7, e8, hp.2 e9, hat.2 e10, rfl⟩
      all_goals (exfalso; omega)
  rw [walkG_0 (by exact h1) (by exact h3) (by exact h2)]
  simp only [headG, limS, MsgV.mk.injEq]
  constructor
  · rintro ⟨e1, e2, e3, e4, e5, e6, e7, e8, e9, e10, e11⟩
    have a := hk5.1 e1
    exact ⟨a, hl.1 e2, hs.1 e3, .inr (.inr (.inr ⟨by omega, e4.symm, e5.symm, e6.symm, e7.symm, e8.symm, e9.symm, e10.symm, e11.symm⟩))⟩
  · rintro ⟨a, b, c, h⟩
    have := hk5.2 a
    rcases h with ⟨rfl, _⟩ | ⟨rfl, _⟩ | ⟨rfl, _⟩ | ⟨_, rfl, rfl, rfl, rfl, rfl, rfl, rfl, rfl⟩
    · exfalso; omega
    · exfalso; omega
    · exfalso; omega
    · exact ⟨hk5.2 a, hl.2 b, hs.2 c, rfl, rfl, rfl, rfl, rfl, rfl, rfl, rfl⟩

/-- The bytes behind those that all kinds have. -/
def tailE (m : MsgV) : List UInt8 :=
  if m.kind = 1 then beL m.xid.toNat 4 ++ beL m.state.toNat 1
  else if m.kind = 3 then beL m.xid.toNat 4 ++ beL (bitI m.ok).toNat 1
  else if m.kind = 2 then beL m.xid.toNat 4 ++ (beL m.addr 4 ++ (beL m.bind.toNat 1 ++ (beL m.pot.toNat 6 ++ (beL m.at_.toNat 6 ++ (beL m.client.size 1 ++ m.client.data.toList)))))
  else []
/-- A message's bytes. -/
def encM (m : MsgV) : List UInt8 := beL m.kind.toNat 1 ++ (beL m.life.toNat 4 ++ (beL m.seen.toNat 4 ++ tailE m))

theorem be_one (n : Nat) : beL n 1 = [UInt8.ofNat n] := by simp [beL]
theorem be_byte (c : UInt8) : beL ((c.toNat : Int)).toNat 1 = [c] := by
  rw [Int.toNat_natCast, be_one]; simp
theorem run_enc (l : List UInt8) : ∀ s, (runG encS s l).2 = s ++ l := by
  induction l with
  | nil => intro s; simp [runG]
  | cons c r ih => intro s; simp only [runG, encS, be_byte, ih]; simp
theorem pad_self (x : ByteArray) : padL x.data.toList x.size = x.data.toList := by
  have := len_data x
  unfold padL
  rw [List.take_of_length_le (by omega), show x.size - x.data.toList.length = 0 by omega]
  simp
theorem name_enc (s : List UInt8) (x : ByteArray) : (nameG encS s x).2 = s ++ beL x.size 1 ++ x.data.toList := by
  unfold nameG
  simp only [encS, Int.toNat_natCast, pad_self]
  rw [run_enc]
/-- The walk that encodes puts a message's bytes. -/
theorem walk_enc (m : MsgV) : (walkG encS [] m).2 = encM m := by
  by_cases h1 : m.kind = 1
  · rw [walkG_1 (by exact h1)]
    simp [helloG, headG, encS, encM, tailE, h1]
  by_cases h3 : m.kind = 3
  · rw [walkG_3 (by exact h1) (by exact h3)]
    simp [ackG, headG, encS, encM, tailE, h3]
  by_cases h2 : m.kind = 2
  · rw [walkG_2 (by exact h1) (by exact h3) (by exact h2)]
    simp [updateG, headG, encS, encM, tailE, h2, name_enc]
  rw [walkG_0 (by exact h1) (by exact h3) (by exact h2)]
  simp [headG, encS, encM, tailE, h1, h2, h3]

theorem dec_be {x size : Nat} (h : x < 256 ^ size) (r : List UInt8) (n lo hi : Int) : decS (beL x size ++ r) n size lo hi = ((x : Int), r) := by
  unfold decS
  rw [if_neg (by rw [List.length_append, beL_length]; omega)]
  rw [List.take_left' (beL_length x size), List.drop_left' (beL_length x size), numL_beL, Nat.mod_eq_of_lt h]
theorem dec_toNat {x : Int} {size : Nat} (h0 : 0 ≤ x) (h : x < 256 ^ size) (r : List UInt8) (n lo hi : Int) : decS (beL x.toNat size ++ r) n size lo hi = (x, r) := by
  rw [dec_be (by have e : (256 : Int) ^ size = ((256 ^ size : Nat) : Int) := by rw [Int.natCast_pow]; rfl
                 omega)]
  rw [Int.toNat_of_nonneg h0]
theorem run_dec (r : List UInt8) : ∀ l : List UInt8, runG decS (l ++ r) (List.replicate l.length 0) = (l, r)
  | [] => rfl
  | c :: t => by
    have h : decS (c :: (t ++ r)) (((0 : UInt8).toNat : Nat) : Int) 1 0 255 = ((c.toNat : Int), t ++ r) := by
      simp [decS, numL]
    simp only [List.length_cons, List.replicate_succ, List.cons_append, runG, h, run_dec r t]
    congr 2
    have := c.toNat_lt
    apply UInt8.toNat_inj.1
    rw [UInt8.toNat_ofNat']
    omega
theorem name_dec (x : ByteArray) (hx : x.size < 256) (r : List UInt8) : nameG decS (beL x.size 1 ++ (x.data.toList ++ r)) ⟨#[]⟩ = (x, r) := by
  have hl := len_data x
  unfold nameG
  rw [dec_be (by omega)]
  simp only [Int.toNat_natCast]
  have hp : padL (#[] : Array UInt8).toList x.size = List.replicate x.data.toList.length 0 := by
    rw [hl]; simp [padL]
  rw [hp, run_dec]
/-- What was encoded is decoded, whatever follows it. -/
theorem walk_dec (m : MsgV) (h : RM m) (ha : m.addr < 4294967296) (r : List UInt8) : walkG decS (encM m ++ r) zeroM = (m, r) := by
  obtain ⟨hk, hl, hs, h⟩ := h
  have e0 : headG decS (encM m ++ r) zeroM = (⟨m.kind, m.life, m.seen, 0, 0, 0, 0, ⟨#[]⟩, 0, 0, false⟩, tailE m ++ r) := by
    unfold headG encM
    simp only [List.append_assoc]
    rw [dec_toNat (by omega) (by omega)]
    simp only
    rw [dec_toNat (by omega) (by omega)]
    simp only
    rw [dec_toNat (by omega) (by omega)]
  obtain ⟨ki, li, se, xi, stt, ad, bi, cl, po, at_, ok⟩ := m
  have ek := congrArg (fun p => p.1.kind) e0
  simp only at ek
  simp only [KM] at h
  simp only at hk hl hs ha
  rcases h with ⟨rfl, e4, e5, rfl, rfl, rfl, rfl, rfl, rfl⟩ | ⟨rfl, e4, rfl, rfl, rfl, rfl, rfl, rfl⟩ | ⟨rfl, e4, rfl, e7, e8, e9, e10, rfl⟩ | ⟨hk', rfl, rfl, rfl, rfl, rfl, rfl, rfl, rfl⟩
  · rw [walkG_1 ek, e0]
    simp only [if_true, tailE, helloG, List.append_assoc]
    rw [dec_toNat (by omega) (by omega)]
    simp only
    rw [dec_toNat (by omega) (by omega)]
  · rw [walkG_3 (by rw [ek]; omega) ek, e0]
    simp only [if_true, show ¬ ((3 : Int) = 1) by omega, if_false, tailE, ackG, List.append_assoc]
    rw [dec_toNat (by omega) (by omega)]
    simp only
    rw [dec_toNat (by cases ok <;> decide) (by cases ok <;> decide)]
    simp only [bit_back]
  · rw [walkG_2 (by rw [ek]; omega) (by rw [ek]; omega) ek, e0]
    simp only [if_true, show ¬ ((2 : Int) = 1) by omega, show ¬ ((2 : Int) = 3) by omega, if_false, tailE, updateG, List.append_assoc]
    rw [dec_toNat (by omega) (by omega)]
    simp only
    rw [dec_be (by omega)]
    simp only
    rw [dec_toNat (by omega) (by omega)]
    simp only
    rw [dec_toNat (by omega) (by omega)]
    simp only
    rw [dec_toNat (by omega) (by omega)]
    simp only [zeroM]
    rw [name_dec cl (by omega), addrOf_nat _ ha]
  · have h1 : ¬ ki = 1 := by omega
    have h2 : ¬ ki = 2 := by omega
    have h3 : ¬ ki = 3 := by omega
    rw [walkG_0 (by rw [ek]; exact h1) (by rw [ek]; exact h3) (by rw [ek]; exact h2), e0]
    simp only [h1, h2, h3, if_false, tailE, List.nil_append]

/-- A message's bytes, and the error's number. -/
def encR (m : MsgV) : List UInt8 × Int := if rightM m then (encM m, 0) else ([], 1)
/-- What bytes are decoded as, by whatever tells their message. -/
def decBy (f : List UInt8 → MsgV) (b : List UInt8) : MsgV × Int := if rightM (f b) = true ∧ encM (f b) = b then (f b, 0) else (zeroM, 2)
def decF (b : List UInt8) : MsgV := (walkG decS b zeroM).1
def decM (b : List UInt8) : MsgV × Int := decBy decF b

theorem walk_addr (b : List UInt8) : (decF b).addr < 4294967296 := by
  have hA : ∀ n : Int, addrOf n < 4294967296 := fun n => by unfold addrOf; omega
  unfold decF
  by_cases h1 : (headG decS b zeroM).1.kind = 1
  · rw [walkG_1 h1]; show (0 : Nat) < _; omega
  by_cases h3 : (headG decS b zeroM).1.kind = 3
  · rw [walkG_3 h1 h3]; show (0 : Nat) < _; omega
  by_cases h2 : (headG decS b zeroM).1.kind = 2
  · rw [walkG_2 h1 h3 h2]; exact hA _
  · rw [walkG_0 h1 h3 h2]; show (0 : Nat) < _; omega
theorem decF_enc {m : MsgV} (h : RM m) (ha : m.addr < 4294967296) : decF (encM m) = m := by
  have := walk_dec m h ha []
  rw [List.append_nil] at this
  unfold decF
  rw [this]
theorem decM_enc {m : MsgV} (h : rightM m = true) (ha : m.addr < 4294967296) : decM (encM m) = (m, 0) := by
  unfold decM decBy
  rw [decF_enc ((right_iff m).1 h) ha, if_pos ⟨h, rfl⟩]
/-- Two that tell right messages alike decode alike. -/
theorem decBy_same {f g : List UInt8 → MsgV} (hf : ∀ m, rightM m = true → m.addr < 4294967296 → f (encM m) = m) (hg : ∀ m, rightM m = true → m.addr < 4294967296 → g (encM m) = m) (af : ∀ b, (f b).addr < 4294967296) (ag : ∀ b, (g b).addr < 4294967296) (b : List UInt8) : decBy f b = decBy g b := by
  unfold decBy
  by_cases h1 : rightM (f b) = true ∧ encM (f b) = b
  · have h2 : g b = f b := by
      have := hg (f b) h1.1 (af b)
      rwa [h1.2] at this
    rw [if_pos h1, if_pos (by rw [h2]; exact h1), h2]
  · by_cases h2 : rightM (g b) = true ∧ encM (g b) = b
    · have h3 : f b = g b := by
        have := hf (g b) h2.1 (ag b)
        rwa [h2.2] at this
      exact absurd (by rw [h3]; exact h2) h1
    · rw [if_neg h1, if_neg h2]
theorem decM_ok {b : List UInt8} {n : MsgV} (h : decM b = (n, 0)) : rightM n = true ∧ encM n = b ∧ n.addr < 4294967296 := by
  unfold decM decBy at h
  split at h
  · rename_i h1
    obtain rfl : decF b = n := congrArg Prod.fst h
    exact ⟨h1.1, h1.2, walk_addr b⟩
  · cases congrArg Prod.snd h
theorem decM_or (b : List UInt8) : decM b = (zeroM, 2) ∨ ∃ n, decM b = (n, 0) := by
  unfold decM decBy
  split
  · exact .inr ⟨_, rfl⟩
  · exact .inl rfl
/-- Bytes more are no message. -/
theorem enc_more {m k : MsgV} (hm : rightM m = true) (hk : rightM k = true) (am : m.addr < 4294967296) (ak : k.addr < 4294967296) {r : List UInt8} (h : encM k = encM m ++ r) : r = [] := by
  have h1 := walk_dec m ((right_iff m).1 hm) am r
  have h2 := walk_dec k ((right_iff k).1 hk) ak []
  rw [List.append_nil, h, h1] at h2
  exact congrArg Prod.snd h2
theorem decM_more {m : MsgV} (hm : rightM m = true) (am : m.addr < 4294967296) {r : List UInt8} (hr : r ≠ []) : decM (encM m ++ r) = (zeroM, 2) := by
  rcases decM_or (encM m ++ r) with h | ⟨n, h⟩
  · exact h
  · obtain ⟨h1, h2, h3⟩ := decM_ok h
    exact absurd (enc_more hm h1 am h3 h2) hr
theorem decM_less {m : MsgV} (hm : rightM m = true) (am : m.addr < 4294967296) {b r : List UInt8} (hr : r ≠ []) (hb : encM m = b ++ r) : decM b = (zeroM, 2) := by
  rcases decM_or b with h | ⟨n, h⟩
  · exact h
  · obtain ⟨h1, h2, h3⟩ := decM_ok h
    rw [← h2] at hb
    exact absurd (enc_more h1 hm h3 am hb) hr
theorem enc_inj {m k : MsgV} (hm : rightM m = true) (hk : rightM k = true) (am : m.addr < 4294967296) (ak : k.addr < 4294967296) (h : encM m = encM k) : m = k := by
  have h1 := decF_enc ((right_iff m).1 hm) am
  rw [h, decF_enc ((right_iff k).1 hk) ak] at h1
  exact h1.symm
/-- How many bytes. -/
def sizeM (m : MsgV) : Nat := if m.kind = 1 then 14 else if m.kind = 3 then 14 else if m.kind = 2 then 31 + m.client.size else 9
theorem enc_length (m : MsgV) : (encM m).length = sizeM m := by
  have hl := len_data m.client
  unfold encM tailE sizeM
  simp only [List.length_append, beL_length]
  split
  · simp [beL_length]
  · split
    · simp [beL_length]
    · split
      · simp only [List.length_append, beL_length, hl]; omega
      · simp
end Go.Proofs.Ytfikdocpcepmmaa
