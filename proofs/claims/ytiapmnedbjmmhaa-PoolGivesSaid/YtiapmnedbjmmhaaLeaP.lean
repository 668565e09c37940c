/- Leases, pure: which may be; their bytes; the lease that bytes tell; back. (Names no function of the program.) -/
import Derived.Test.YtiapmnedbjmmhaaBasM
namespace Go.Proofs.Ytiapmnedbjmmhaa

/-- A lease, its fields in the order of api.Lease. -/
structure LV where
  addr : Nat
  bind : Int
  client : List UInt8
  unt : Int
  acked : Int
  told : Int
  at_ : Int
  ver : Int
deriving DecidableEq
def TimeL (n : Int) : Prop := 0 ≤ n ∧ n ≤ 1099511627776
def HeldL (b : Int) : Prop := b = 2 ∨ b = 3 ∨ b = 4
instance (n : Int) : Decidable (TimeL n) := by unfold TimeL; infer_instance
instance (n : Int) : Decidable (HeldL n) := by unfold HeldL; infer_instance
structure RightL (l : LV) : Prop where
  b0 : 0 ≤ l.bind
  b1 : l.bind ≤ 5
  unt : TimeL l.unt
  acked : TimeL l.acked
  told : TimeL l.told
  at_ : TimeL l.at_
  ver : TimeL l.ver
  held : HeldL l.bind → 1 ≤ l.client.length ∧ l.client.length ≤ 32
  bare : ¬ HeldL l.bind → l.client = [] ∧ l.unt = 0 ∧ l.acked = 0 ∧ l.told = 0 ∧ l.at_ = 0
theorem right_iff (l : LV) : RightL l ↔ (0 ≤ l.bind ∧ l.bind ≤ 5 ∧ TimeL l.unt ∧ TimeL l.acked ∧ TimeL l.told ∧ TimeL l.at_ ∧ TimeL l.ver ∧ (HeldL l.bind → 1 ≤ l.client.length ∧ l.client.length ≤ 32) ∧ (¬ HeldL l.bind → l.client = [] ∧ l.unt = 0 ∧ l.acked = 0 ∧ l.told = 0 ∧ l.at_ = 0)) :=
  ⟨fun h => ⟨h.b0, h.b1, h.unt, h.acked, h.told, h.at_, h.ver, h.held, h.bare⟩, fun ⟨a, b, c, d, e, f, g, h, i⟩ => ⟨a, b, c, d, e, f, g, h, i⟩⟩
instance (l : LV) : Decidable (RightL l) := decidable_of_iff _ (right_iff l).symm
theorem RightL.short {l : LV} (h : RightL l) : l.client.length ≤ 32 := by
  by_cases hh : HeldL l.bind
  · exact (h.held hh).2
  · rw [(h.bare hh).1]; exact Nat.zero_le _
def zeroL : LV := ⟨0, 0, [], 0, 0, 0, 0, 0⟩
def bareL (a : Nat) (bind ver : Int) : LV := ⟨a, bind, [], 0, 0, 0, 0, ver⟩
def overL (l : LV) : Int := if l.unt < l.told then l.told else l.unt
theorem bare_right (a : Nat) (bind ver : Int) : RightL (bareL a bind ver) ↔ (bind = 0 ∨ bind = 1 ∨ bind = 5) ∧ TimeL ver := by
  constructor
  · intro h
    refine ⟨?_, h.ver⟩
    have h0 : 0 ≤ bind := h.b0
    have h1 : bind ≤ 5 := h.b1
    by_cases hh : HeldL bind
    · exact absurd (h.held hh).1 (by simp [bareL])
    · unfold HeldL at hh; omega
  · rintro ⟨hb, hv⟩
    refine ⟨by show 0 ≤ bind; omega, by show bind ≤ 5; omega, by show TimeL 0; decide, by show TimeL 0; decide, by show TimeL 0; decide, by show TimeL 0; decide, hv, fun hh => ?_, fun _ => ⟨rfl, rfl, rfl, rfl, rfl⟩⟩
    have : HeldL bind := hh
    unfold HeldL at this
    omega

/-- The bytes of a lease. -/
def encL (l : LV) : List UInt8 :=
  beL l.addr 4 ++ ([UInt8.ofNat l.bind.toNat] ++ (beL l.unt.toNat 6 ++ (beL l.acked.toNat 6 ++ (beL l.told.toNat 6 ++ (beL l.at_.toNat 6 ++ (beL l.ver.toNat 6 ++ ([UInt8.ofNat l.client.length] ++ l.client)))))))
theorem encL_length (l : LV) : (encL l).length = 36 + l.client.length := by
  simp only [encL, List.length_append, beL_length, List.length_singleton]
  omega
/-- A piece of bytes. -/
def pc (b : List UInt8) (i n : Nat) : List UInt8 := (b.drop i).take n
theorem pc_length (b : List UInt8) (i n : Nat) (h : i + n ≤ b.length) : (pc b i n).length = n := by
  unfold pc; rw [List.length_take, List.length_drop]; omega
theorem pc_skip {x b : List UInt8} {i n : Nat} (k : Nat) (hk : x.length = k) (hi : k ≤ i) : pc (x ++ b) i n = pc b (i - k) n := by
  unfold pc
  rw [List.drop_append, List.drop_of_length_le (by omega), hk, List.nil_append]
theorem pc_here {x b : List UInt8} {n : Nat} (hx : x.length = n) : pc (x ++ b) 0 n = x := by
  unfold pc
  rw [List.drop_zero, List.take_left' hx]
/-- The lease that bytes tell, be they its bytes or not. -/
def rawL (b : List UInt8) : LV := ⟨numL (pc b 0 4), numL (pc b 4 1), b.drop 36, numL (pc b 5 6), numL (pc b 11 6), numL (pc b 17 6), numL (pc b 23 6), numL (pc b 29 6)⟩

theorem num_one (x : UInt8) : numL [x] = x.toNat := by simp [numL]
theorem num_be (n m : Nat) (h : n < 256 ^ m) : numL (beL n m) = n := by rw [numL_beL, Nat.mod_eq_of_lt h]
theorem time_be {n : Int} (h : TimeL n) : ((numL (beL n.toNat 6) : Nat) : Int) = n := by
  unfold TimeL at h
  rw [num_be _ _ (by omega)]
  omega

/-- A lease's bytes tell it. -/
theorem raw_enc {l : LV} (h : RightL l) (ha : l.addr < 4294967296) : rawL (encL l) = l := by
  have e0 : pc (encL l) 0 4 = beL l.addr 4 := pc_here (beL_length _ _)
  have e1 : pc (encL l) 4 1 = [UInt8.ofNat l.bind.toNat] := by unfold encL; rw [pc_skip 4 (beL_length _ _) (by omega)]; exact pc_here rfl
  have s5 : ∀ i n, 5 ≤ i → pc (encL l) i n = pc (beL l.unt.toNat 6 ++ (beL l.acked.toNat 6 ++ (beL l.told.toNat 6 ++ (beL l.at_.toNat 6 ++ (beL l.ver.toNat 6 ++ ([UInt8.ofNat l.client.length] ++ l.client)))))) (i - 5) n := fun i n hi => by
    unfold encL
    rw [pc_skip 4 (beL_length _ _) (by omega), pc_skip 1 rfl (by omega), Nat.sub_sub]
  have e2 : pc (encL l) 5 6 = beL l.unt.toNat 6 := by rw [s5 5 6 (by omega)]; exact pc_here (beL_length _ _)
  have e3 : pc (encL l) 11 6 = beL l.acked.toNat 6 := by rw [s5 11 6 (by omega), pc_skip 6 (beL_length _ _) (by omega)]; exact pc_here (beL_length _ _)
  have e4 : pc (encL l) 17 6 = beL l.told.toNat 6 := by rw [s5 17 6 (by omega), pc_skip 6 (beL_length _ _) (by omega), pc_skip 6 (beL_length _ _) (by omega)]; exact pc_here (beL_length _ _)
  have e5 : pc (encL l) 23 6 = beL l.at_.toNat 6 := by rw [s5 23 6 (by omega), pc_skip 6 (beL_length _ _) (by omega), pc_skip 6 (beL_length _ _) (by omega), pc_skip 6 (beL_length _ _) (by omega)]; exact pc_here (beL_length _ _)
  have e6 : pc (encL l) 29 6 = beL l.ver.toNat 6 := by rw [s5 29 6 (by omega), pc_skip 6 (beL_length _ _) (by omega), pc_skip 6 (beL_length _ _) (by omega), pc_skip 6 (beL_length _ _) (by omega), pc_skip 6 (beL_length _ _) (by omega)]; exact pc_here (beL_length _ _)
  have e7 : (encL l).drop 36 = l.client := by
    have : encL l = (beL l.addr 4 ++ ([UInt8.ofNat l.bind.toNat] ++ (beL l.unt.toNat 6 ++ (beL l.acked.toNat 6 ++ (beL l.told.toNat 6 ++ (beL l.at_.toNat 6 ++ (beL l.ver.toNat 6 ++ [UInt8.ofNat l.client.length]))))))) ++ l.client := by
      simp only [encL, List.append_assoc]
    rw [this]
    exact List.drop_left' (by simp only [List.length_append, beL_length, List.length_singleton])
  have hb : ((numL [UInt8.ofNat l.bind.toNat] : Nat) : Int) = l.bind := by
    have h0 := h.b0
    have h1 := h.b1
    rw [num_one, UInt8.toNat_ofNat']
    omega
  unfold rawL
  rw [e0, e1, e2, e3, e4, e5, e6, e7, num_be _ _ (by simpa using ha), hb, time_be h.unt, time_be h.acked, time_be h.told, time_be h.at_, time_be h.ver]

theorem pc_join (b : List UInt8) (i n : Nat) : b.drop i = pc b i n ++ b.drop (i + n) := by
  unfold pc
  rw [← List.drop_drop, List.take_append_drop]
theorem be_pc (b : List UInt8) (i n : Nat) (h : i + n ≤ b.length) : beL (numL (pc b i n)) n = pc b i n := by
  have := beL_numL (pc b i n)
  rw [pc_length b i n h] at this
  exact this
theorem one_pc (b : List UInt8) (i : Nat) (h : i + 1 ≤ b.length) : [UInt8.ofNat (numL (pc b i 1))] = pc b i 1 := by
  have hl := pc_length b i 1 h
  match hp : pc b i 1, hl with
  | [x], _ => rw [num_one, UInt8.ofNat_toNat]
/-- What bytes tell has them for its bytes, if the length that they tell is theirs. -/
theorem enc_raw {b : List UInt8} (h : 36 ≤ b.length) (hl : pc b 35 1 = [UInt8.ofNat (b.length - 36)]) : encL (rawL b) = b := by
  have hc : (b.drop 36).length = b.length - 36 := List.length_drop
  unfold encL rawL
  simp only [Int.toNat_natCast]
  rw [be_pc b 0 4 (by omega), one_pc b 4 (by omega), be_pc b 5 6 (by omega), be_pc b 11 6 (by omega), be_pc b 17 6 (by omega), be_pc b 23 6 (by omega), be_pc b 29 6 (by omega), hc, ← hl]
  rw [← pc_join b 35 1, ← pc_join b 29 6, ← pc_join b 23 6, ← pc_join b 17 6, ← pc_join b 11 6, ← pc_join b 5 6, ← pc_join b 4 1, ← pc_join b 0 4, List.drop_zero]
theorem enc_len {l : LV} : pc (encL l) 35 1 = [UInt8.ofNat l.client.length] := by
  have : encL l = (beL l.addr 4 ++ ([UInt8.ofNat l.bind.toNat] ++ (beL l.unt.toNat 6 ++ (beL l.acked.toNat 6 ++ (beL l.told.toNat 6 ++ (beL l.at_.toNat 6 ++ beL l.ver.toNat 6)))))) ++ ([UInt8.ofNat l.client.length] ++ l.client) := by
    simp only [encL, List.append_assoc]
  rw [this, pc_skip 35 (by simp only [List.length_append, beL_length, List.length_singleton]) (by omega)]
  exact pc_here rfl

/-- The lease of bytes, if they are one's. -/
def decOk (b : List UInt8) : Prop := 36 ≤ b.length ∧ RightL (rawL b) ∧ encL (rawL b) = b
instance (b : List UInt8) : Decidable (decOk b) := by unfold decOk; infer_instance
def decL (b : List UInt8) : LV × Int := if decOk b then (rawL b, 0) else (zeroL, 2)
def encRL (l : LV) : List UInt8 × Int := if RightL l then (encL l, 0) else ([], 1)
/-- The same by the length that the bytes tell: what a decoder may ask instead. -/
theorem dec_iff (b : List UInt8) : decOk b ↔ 36 ≤ b.length ∧ RightL (rawL b) ∧ numL (pc b 35 1) = b.length - 36 := by
  constructor
  · rintro ⟨h1, h2, h3⟩
    refine ⟨h1, h2, ?_⟩
    have hs : (b.drop 36).length ≤ 32 := h2.short
    rw [List.length_drop] at hs
    have h4 := enc_len (l := rawL b)
    rw [h3] at h4
    rw [h4, num_one, UInt8.toNat_ofNat', show (rawL b).client.length = b.length - 36 from List.length_drop]
    omega
  · rintro ⟨h1, h2, h3⟩
    refine ⟨h1, h2, enc_raw h1 ?_⟩
    rw [← h3]
    exact (one_pc b 35 (by omega)).symm
theorem dec_enc {l : LV} (h : RightL l) (ha : l.addr < 4294967296) : decL (encL l) = (l, 0) := by
  have e := raw_enc h ha
  unfold decL
  rw [if_pos, e]
  exact ⟨by rw [encL_length]; omega, by rw [e]; exact h, by rw [e]⟩
theorem dec_addr (b : List UInt8) : (rawL b).addr < 4294967296 := by
  have h := numL_lt (pc b 0 4)
  have h2 : (pc b 0 4).length ≤ 4 := by unfold pc; rw [List.length_take]; omega
  have h3 : 256 ^ (pc b 0 4).length ≤ 256 ^ 4 := Nat.pow_le_pow_right (by omega) h2
  show numL (pc b 0 4) < _
  omega
end Go.Proofs.Ytiapmnedbjmmhaa
