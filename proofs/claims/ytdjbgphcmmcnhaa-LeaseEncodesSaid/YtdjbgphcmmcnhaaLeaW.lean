/- lessorlaw11.awake; a text of bytes in a quiet walk. -/
import Derived.Test.YtdjbgphcmmcnhaaLeaE
namespace Go.Proofs.Ytdjbgphcmmcnhaa
open Go.RowKit Go.Sort

theorem By.regrown {w : World} {A : Option Addr} {l : List UInt8} (h : By w w.heap.size A l) (d : Nat) (os : Array Obj) : By (grow (redrawn w d) os) (grow (redrawn w d) os).heap.size A l := h.later (below_regrown w d os)
theorem str_regrown {w : World} {A : Option Addr} {l : List UInt8} (c : Nat) (h : By w w.heap.size A l) : ∀ (d : Nat) (os : Array Obj), (convert 27 9 (.slice A l.length c)).run Try.prog (grow (redrawn w d) os) = .ok (.string ⟨l.toArray⟩) (grow (redrawn w d) os) := fun d os => str_run c (h.regrown d os)

set_option maxRecDepth 100000 in
set_option maxHeartbeats 1000000 in
/-- The bytes of what nobody has. -/
theorem awake_any (w : World) : Calls Try.prog 7 #[] w fun e w' => e = .returned (.bool true) ∧ Below w.heap.size w w' := by
  have HE := Lib.hid (fun W => encode_any (bareL 5 0 3) (by decide) W)
  have hv : encR (bareL 5 0 3) = ([0, 0, 0, 5, 0, 0, 0, 0, 0, 0, 0, 0, 0, 0, 0, 0, 0, 0, 0, 0, 0, 0, 0, 0, 0, 0, 0, 0, 0, 0, 0, 0, 0, 0, 3, 0], 0) := by decide +kernel
  obtain ⟨bl, hbl⟩ : ∃ bl : List UInt8, bl = [0, 0, 0, 5, 0, 0, 0, 0, 0, 0, 0, 0, 0, 0, 0, 0, 0, 0, 0, 0, 0, 0, 0, 0, 0, 0, 0, 0, 0, 0, 0, 0, 0, 0, 3, 0] := ⟨_, rfl⟩
  rw [hv, ← hbl] at HE
  have hl36 : ((bl.length : Int) == 36) = true := by rw [hbl]; decide
  have hl3 : (3 : Int) < (bl.length : Int) := by rw [hbl]; decide
  have hl34 : (34 : Int) < (bl.length : Int) := by rw [hbl]; decide
  have h3 : bl[3]? = some 5 := by rw [hbl]; rfl
  have h34 : bl[34]? = some 3 := by rw [hbl]; rfl
  have HO := Lib.hid (fun W => over_any ⟨0, 0, [], 4, 0, 9, 0, 0⟩ W)
  have hov : overL ⟨0, 0, [], 4, 0, 9, 0, 0⟩ = 9 := by decide
  rw [hov] at HO
  have HB := Lib.hid (fun W => bare_any 5 0 3 W)
  clear hv hbl hov
  go_enter Try.func7, Try.ntmps7
  go_wp2_with fail
  refine (HB.out _).mono ?_
  rintro e w1 ⟨rfl, hB1⟩
  go_wp2_with fail
  refine (HE.out _).mono ?_
  rintro e w2 ⟨A, c, rfl, hby, _, hB2⟩
  obtain ⟨g, o, rfl, _, hc3⟩ := hby.at_ 3 5 h3
  obtain ⟨g', o', e', _, hc34⟩ := hby.at_ 34 3 h34
  injection e' with e'
  injection e' with e1 e2
  subst e1 e2
  have HB2 := Lib.hid (hB1.trans (hB2.mono hB1.size))
  clear hB1 hB2 hby h3 h34
  go_wp2_with fail
  refine (HO.out _).mono ?_
  rintro e w3 ⟨rfl, hB3⟩
  go_wp2
  go_ret
  exact ⟨by simp, HB2.out.trans (hB3.mono HB2.out.size)⟩
end Go.Proofs.Ytdjbgphcmmcnhaa
