/- bytes.Equal and packet.begins. -/
import Derived.Test.YtmlckjccgdmknaaDecH
import Derived.Test.YtmlckjccgdmknaaPktQ
namespace Go.Proofs.Ytmlckjccgdmknaa
open Go.RowKit Go.Sort

theorem equal_any (B1 B2 : Nat) (A1 A2 : Option Addr) (c1 c2 : Nat) (l1 l2 : List UInt8) (w : World) (h1 : By w B1 A1 l1) (h2 : By w B2 A2 l2) :
    Calls Try.prog 48 #[.slice A1 l1.length c1, .slice A2 l2.length c2] w fun e w' => e = .returned (.bool (l1 == l2)) ∧ Below w.heap.size w w' := by
  have hs1 := str_run c1 h1
  have hs2 := str_run c2 h2
  clear h1 h2
  go_enter Try.func48, Try.ntmps48
  go_wp2
  go_ret
  exact ⟨by simp, Below.refl _ _⟩

/-- Do the bytes begin as the packet's own? -/
def beginsB (a : PktA) (l : List UInt8) : Bool := rightA a && (headL a == l.take 240)

set_option maxRecDepth 100000 in
set_option maxHeartbeats 1000000 in
theorem begins_any (p : PktV) (A : Option Addr) (c : Nat) (l : List UInt8) (w : World) (hp : Pk w w.heap.size p) (hR : PkR p) (hL : p.L.length ≤ 2000) (hhm : p.hw.length ≤ 9223372036854775807) (hb : By w w.heap.size A l) (hlc : l.length ≤ c) (h240 : 240 ≤ l.length) :
    Calls Try.prog 34 #[.slice A l.length c, p.v] w fun e w' => e = .returned (.bool (beginsB p.abs l)) ∧ Below w.heap.size w w' := by
  have hB0 : Below w.heap.size w (w.alloc (pbox p)) := (Below.refl _ _).alloc (Nat.le_refl _) _
  have HE := Lib.hid (pencode_any p (w.alloc (pbox p)) (hp.boxed (pbox p)) hR hL hhm)
  have HBY := Lib.hid hb
  unfold beginsB
  cases hr : rightA p.abs
  · rw [encP_bad hr] at HE
    clear hr hp hb
    go_enter Try.func34, Try.ntmps34
    go_wp2_with fail
    refine HE.out.mono ?_
    rintro e w1 ⟨A1, c1, rfl, _, _, hB1⟩
    go_wp2_with fail
    refine wp_region_quiet_below (by kernel_rfl) (by kernel_rfl) ?_
    repeat (quiet_step (fail))
    refine wpQuiet_nil ?_
    intro _ hw'
    obtain ⟨⟨dq, osq⟩, hw''⟩ := hw'
    subst hw''
    have hB := hB0.trans (hB1.mono hB0.size)
    go_wp2
    go_ret
    exact ⟨by simp, hB.trans ((below_regrown w1 dq osq).mono hB.size)⟩
  · rw [encP_ok hr] at HE
    have hhw : p.hw.length ≤ 16 := by
      have h := hr
      rw [← right_abs] at h
      exact ((head_iff p).1 ((right_iff p).1 h).2).2.2.2.2
    have hhl : (headL p.abs).length = 240 := headL_length p.abs hhw
    obtain ⟨hd, hhd⟩ : ∃ hd, hd = headL p.abs := ⟨_, rfl⟩
    obtain ⟨ol, hol⟩ : ∃ ol, ol = (encL p.abs.opts).1 := ⟨_, rfl⟩
    rw [← hhd, ← hol] at HE
    rw [← hhd] at hhl ⊢
    obtain ⟨bl, hbl⟩ : ∃ bl, bl = hd ++ ol := ⟨_, rfl⟩
    rw [← hbl] at HE
    have e1 : bl.take 240 = hd := by rw [hbl, ← hhl]; exact List.take_left
    have hbll : 240 ≤ bl.length := by rw [hbl, List.length_append]; omega
    clear hr hp hb hhd hol hhw hbl
    have h240l : (l.take 240).length = 240 := by rw [List.length_take]; omega
    go_enter Try.func34, Try.ntmps34
    go_wp2_with fail
    refine HE.out.mono ?_
    rintro e w1 ⟨A1, c1, rfl, hby1, hc1, hB1⟩
    have hB := hB0.trans (hB1.mono hB0.size)
    have hs1 := run_headB A1 bl.length c1 240 (by omega) (by omega)
    have hs2 := run_headB A l.length c 240 (by omega) (by omega)
    rw [show (240 : Int).toNat = 240 from rfl] at hs1 hs2
    have hby2 := HBY.out.later hB
    have CE := Lib.hid (fun d os => Calls.regrown_of (equal_any _ _ A1 A c1 c (bl.take 240) (l.take 240) (grow (redrawn w1 d) os) ((hby1.take 240).regrown d os) ((hby2.take 240).regrown d os)))
    rw [e1, hhl, h240l] at CE
    clear hby1 hby2
    go_wp2_with fail
    refine wp_region_quiet_below (by kernel_rfl) (by kernel_rfl) ?_
    repeat (quiet_step (first | (go_at_call 48; exact CE.out _ _)))
    refine wpQuiet_nil ?_
    intro _ hw'
    obtain ⟨⟨dq, osq⟩, hw''⟩ := hw'
    subst hw''
    go_wp2
    go_ret
    exact ⟨by simp, hB.trans ((below_regrown w1 dq osq).mono hB.size)⟩
end Go.Proofs.Ytmlckjccgdmknaa
