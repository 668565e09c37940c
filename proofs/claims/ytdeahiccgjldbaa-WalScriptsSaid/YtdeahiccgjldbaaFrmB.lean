/- frame.first: the record of the frame at the beginning of bytes. -/
import Derived.Test.YtdeahiccgjldbaaFrmA
import Derived.BigQuiet
namespace Go.Proofs.Ytdeahiccgjldbaa
open Go.RowKit

set_option maxRecDepth 100000 in
set_option maxHeartbeats 2000000 in
theorem first_any (B : Nat) (A : Option Addr) (c : Nat) (l : List UInt8) (w : World) (hb : By w B A l) (hc : l.length ≤ c) (hl : l.length ≤ 1048576) :
    Calls Try.prog 49 #[.slice A l.length c] w fun e w' => (∃ n, w' = w.drewN n) ∧
      ((firstF l = none ∧ e = .returned (.tuple #[.slice none 0 0, .bool false])) ∨ ∃ r A' c', firstF l = some r ∧ e = .returned (.tuple #[.slice A' r.length c', .bool true]) ∧ By w B A' r ∧ r.length ≤ c') := by
  match l, hb, hc, hl with
  | [], hb, hc, hl =>
    go_enter Try.func49, Try.ntmps49
    go_wp2
    go_ret2
    exact ⟨⟨0, rfl⟩, .inl ⟨rfl, rfl⟩⟩
  | [x], hb, hc, hl =>
    go_enter Try.func49, Try.ntmps49
    go_wp2
    go_ret2
    exact ⟨⟨0, rfl⟩, .inl ⟨rfl, rfl⟩⟩
  | x :: y :: t, hb, hc, hl =>
    obtain ⟨g, o, rfl, hg, h0⟩ := hb.at_ 0 x rfl
    obtain ⟨g', o', hA, _, h1⟩ := hb.at_ 1 y rfl
    obtain ⟨rfl, rfl⟩ : g = g' ∧ o = o' := by injection hA with hA; injection hA with e1 e2; exact ⟨e1, e2⟩
    clear hA
    rw [Nat.add_zero] at h0
    have hf : firstF (x :: y :: t) = if 1 ≤ two x y ∧ two x y ≤ 1000 ∧ t[two x y]? = some 90 then some (t.take (two x y)) else none := rfl
    have hx := x.toNat_lt
    have hy := y.toNat_lt
    have hd : decide ((((x :: y :: t).length : Nat) : Int) < 2) = false := by simp; omega
    have hlen : (x :: y :: t).length = t.length + 2 := rfl
    have HT := Lib.hid (cut_by (n := t.length + 2) hb)
    have HB := Lib.hid hb
    clear hb
    rw [hlen] at hd hc hl ⊢
    obtain ⟨k, hk⟩ : ∃ k, k = two x y := ⟨_, rfl⟩
    rw [← hk] at hf
    have e2 : (2 : Int) + (x.toNat : Int) * 256 + (y.toNat : Int) = (k : Int) + 2 := by unfold two at hk; omega
    have hk2 : k ≤ 65535 := by unfold two at hk; omega
    clear hk
    have HFT := Lib.hid (fun W => fits_any k W)
    have HF := Lib.hid hf
    clear hf
    have ek : (k : Int) + 2 - 2 = k := by omega
    by_cases hfit : 1 ≤ k ∧ k ≤ 1000
    · rw [decide_eq_true hfit] at HFT
      have HK := Lib.hid hfit
      clear hfit
      cases hz : t[k]? with
      | none =>
        have hle : decide (t.length ≤ k) = true := by
          have := List.getElem?_eq_none_iff.1 hz
          simp; omega
        have HZ : Hid (firstF (x :: y :: t) = none) := by show _ = _; rw [HF.out, if_neg]; rintro ⟨_, _, h3⟩; rw [hz] at h3; cases h3
        clear hz
        go_enter Try.func49, Try.ntmps49
        go_wp2
        go_quiet (fail)
        go_wp2_with (go_at_call 46; refine (HFT.out _).mono ?_; rintro e w' ⟨rfl, rfl⟩)
        go_ret2
        exact ⟨⟨nq, rfl⟩, .inl ⟨HZ.out, rfl⟩⟩
      | some z =>
        have hlt := (List.getElem?_eq_some_iff.1 hz).1
        have hle : decide (t.length ≤ k) = false := by simp; omega
        have hcz : (x :: y :: t)[k + 2]? = some z := hz
        obtain ⟨g2, o2, hA, _, h2⟩ := HB.out.at_ (k + 2) z hcz
        obtain ⟨rfl, rfl⟩ : g = g2 ∧ o = o2 := by injection hA with hA; injection hA with e1 e2; exact ⟨e1, e2⟩
        clear hA hcz
        have i0 : (0 : Int) ≤ (k : Int) + 2 := by omega
        have i1 : (k : Int) + 2 < (t.length : Int) + 2 := by omega
        by_cases h90 : z = 90
        · subst h90
          have HZ : Hid (firstF (x :: y :: t) = some (t.take k)) := by show _ = _; rw [HF.out, if_pos ⟨HK.out.1, HK.out.2, hz⟩]
          have htk : (t.take k).length = k := by rw [List.length_take]; omega
          obtain ⟨A', hsl, hby⟩ := HT.out c 2 (k + 2) 2 ((k : Int) + 2) rfl (by omega) (by omega) (by rw [hlen]; omega) (by rw [hlen]; omega)
          rw [show k + 2 - 2 = k by omega] at hsl hby
          have HBY : Hid (By w B A' (t.take k)) := hby
          have HTK := Lib.hid htk
          have hcell : w.cell? ⟨g, o + (k + 2), none⟩ = some (.int .u8 90) := h2
          have HC : Hid (k ≤ c - 2) := by show _ ≤ _; omega
          clear hz hby htk h2
          go_enter Try.func49, Try.ntmps49
          go_wp2
          go_quiet (fail)
          go_wp2_with (go_at_call 46; refine (HFT.out _).mono ?_; rintro e w' ⟨rfl, rfl⟩)
          go_ret2
          exact ⟨⟨nq, rfl⟩, .inr ⟨t.take k, A', c - 2, HZ.out, by rw [HTK.out]; rfl, HBY.out, by rw [HTK.out]; exact HC.out⟩⟩
        · have HZ : Hid (firstF (x :: y :: t) = none) := by show _ = _; rw [HF.out, if_neg]; rintro ⟨_, _, h3⟩; rw [hz] at h3; exact h90 (Option.some.inj h3)
          have hzn : ((z.toNat : Int) != 90) = true := by
            have : z.toNat ≠ 90 := fun e => h90 (UInt8.toNat_inj.1 (by simpa using e))
            simp; omega
          clear hz h90
          go_enter Try.func49, Try.ntmps49
          go_wp2
          go_quiet (fail)
          go_wp2_with (go_at_call 46; refine (HFT.out _).mono ?_; rintro e w' ⟨rfl, rfl⟩)
          go_ret2
          exact ⟨⟨nq, rfl⟩, .inl ⟨HZ.out, rfl⟩⟩
    · rw [decide_eq_false hfit] at HFT
      have HZ : Hid (firstF (x :: y :: t) = none) := by show _ = _; rw [HF.out, if_neg]; rintro ⟨h1, h2, _⟩; exact hfit ⟨h1, h2⟩
      clear hfit
      go_enter Try.func49, Try.ntmps49
      go_wp2
      go_quiet (fail)
      go_wp2_with (go_at_call 46; refine (HFT.out _).mono ?_; rintro e w' ⟨rfl, rfl⟩)
      go_ret2
      exact ⟨⟨nq, rfl⟩, .inl ⟨HZ.out, rfl⟩⟩
end Go.Proofs.Ytdeahiccgjldbaa
