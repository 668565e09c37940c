/- The law PoolChooses, walked. -/
import Derived.Test.YtiapmnedbjmmhaaPooK
import Derived.Test.YtiapmnedbjmmhaaPooC
namespace Go.Proofs.Ytiapmnedbjmmhaa
open Go.RowKit Go.Sort Flo
attribute [local go_sem] run_store_flt

theorem drew_of {w w' : World} (h : Below w.drew.heap.size w.drew w') : Below w.heap.size w w' := ⟨h.os, h.tape, h.output, h.size, h.block⟩

set_option maxRecDepth 100000 in
set_option maxHeartbeats 4000000 in
theorem law_pchooses (K : PoolK) (p s : Nat) (id : Int) (A : Option Addr) (c : Nat) (L : List LV) (w : World) (hE : El ElemL w w.heap.size A L) (hL : L.length ≤ 9223372036854775807) : Calls Try.prog 4 #[f2v p s, .int .i64 id, .slice A L.length c] w fun e w' => e = .returned (.bool true) ∧ Below w.heap.size w w' := by
  have HA := Lib.hid (fun V => pawake_any K V)
  have HP := Lib.hid (fun V => plans_any p s V)
  have HK := Lib.hid K
  clear K
  obtain ⟨w0, hw0⟩ : ∃ w0, w0 = w.alloc (f2box 23 p s) := ⟨_, rfl⟩
  have HX : Hid (F2 23 w0 w.heap.size p s) := Lib.hid (by rw [hw0]; exact F2.new w _ p s)
  have hb0 : Below w.heap.size w w0 := by rw [hw0]; exact (Below.refl _ _).alloc (Nat.le_refl _) _
  have HB := Lib.hid hb0
  have HE := Lib.hid (hE.later hb0)
  have HW0 := Lib.hid hw0
  clear hw0 hb0 hE
  go_enter Try.func4, Try.ntmps4
  go_upto_region 1 with fail
  rw [← HW0.out]
  go_wp2_with fail
  refine (HA.out _).mono ?_
  rintro e w1 ⟨rfl, hb1⟩
  have HX1 := Lib.hid (HX.out.later hb1)
  have HE1 := Lib.hid (HE.out.later hb1)
  have HB1 := Lib.hid (HB.out.trans (hb1.mono HB.out.size))
  clear hb1 HX HE HB
  cases tl : decide (300 < (L.length : Int))
  rotate_left
  · have tl2 : (300 : Int) < (L.length : Int) := of_decide_eq_true tl
    go_wp2
    go_ret
    exact ⟨rfl, HB1.out⟩
  have hl3 : L.length ≤ 300 := by have := of_decide_eq_false tl; omega
  have x0 := HX1.out.c0
  have x1 := HX1.out.c1
  go_wp2_with fail
  refine (HP.out _).mono ?_
  rintro e w2 ⟨rfl, hb1⟩
  have HX2 := Lib.hid (HX1.out.later hb1)
  have HE2 := Lib.hid (HE1.out.later hb1)
  have HB2 := Lib.hid (HB1.out.trans (hb1.mono HB1.out.size))
  clear hb1 HX1 HE1 HB1
  clear x0 x1
  obtain ⟨w3, hw, hpa, hpd, hpb⟩ := layP_facts w2 p s
  have HX3 := Lib.hid (HX2.out.later hpb)
  have HE3 := Lib.hid (HE2.out.later hpb)
  have HB3 := Lib.hid (HB2.out.trans (hpb.mono HB2.out.size))
  have HPA3 := Lib.hid hpa
  have HPD3 := Lib.hid hpd
  have HWA := Lib.hid hw
  clear hw hpa hpd hpb HX2 HE2 HB2
  go_upto_region 5 with fail
  rw [← HWA.out]
  generalize w2.heap.size = gp at *
  clear HWA
  have HQ1 : Hid (∀ W, Below w3.heap.size w3 W → Calls Try.prog 12 #[f2v p s, .int .i64 id, .slice A L.length c] W (GivesA W (chV p s id L))) := Lib.hid (fun W hb => HK.out.cho p s id A c L W (HE3.out.later hb) hl3)
  have HQ2 : Hid (∀ W, Below w3.heap.size w3 W → Calls Try.prog 13 #[f2v p s, .int .i64 id, .slice A L.length c] W (GivesA W (chV p s id L))) := Lib.hid (fun W hb => rchosen_any p s id A c L W (HE3.out.later hb) (by omega))
  have HLN : Hid ((chV p s id L).length ≤ 9223372036854775807) := Lib.hid (by
    have h := ch_length p s id L
    have h2 := (giv_range p s id ((L.countP fun y => y.bind == 0 : Nat) : Int) ((L.countP fun y => y.bind == 1 : Nat) : Int)).2.1
    omega)
  generalize chV p s id L = xs at *
  have p0 := HPA3.out.c0
  have p1 := HPA3.out.c1
  have q0 := HPD3.out.c0
  have q1 := HPD3.out.c1
  have HWA2 : Hid (∀ W, Below w3.heap.size w3 W → W.cell? ⟨gp, 0, none⟩ = some (.float .f64 p) ∧ W.cell? ⟨gp, 1, none⟩ = some (.float .f64 s) ∧ W.cell? ⟨gp + 1, 0, none⟩ = some (.float .f64 p) ∧ W.cell? ⟨gp + 1, 1, none⟩ = some (.float .f64 s)) := Lib.hid (fun W hb => ⟨(HPA3.out.later hb).c0, (HPA3.out.later hb).c1, (HPD3.out.later hb).c0, (HPD3.out.later hb).c1⟩)
  clear p0 p1 q0 q1
  go_region_held3 (fun w' => w'.cell? ⟨gp, 0, none⟩ = some (.float .f64 p) ∧ w'.cell? ⟨gp, 1, none⟩ = some (.float .f64 s) ∧ w'.cell? ⟨gp + 1, 0, none⟩ = some (.float .f64 p) ∧ w'.cell? ⟨gp + 1, 1, none⟩ = some (.float .f64 s))
    (first | with_reducible exact HWA2.out _ (Below.refl _ _).drew | with_reducible exact HWA2.out _ hxb | with_reducible exact HWA2.out _ hxa | with_reducible exact HWA2.out _ hxc)
    (first
      | (go_at_call 12; first | ((with_reducible refine (HQ1.out _ hxb).mono ?_); rintro e wa ⟨Aa, ca, rfl, hca, ha, -, hla⟩; have hxa : Below w3.heap.size w3 wa := hxb.trans (hla.mono hxb.size)) | ((with_reducible refine (HQ1.out _ (Below.refl _ _).drew).mono ?_); rintro e wa ⟨Aa, ca, rfl, hca, ha, -, hla⟩; have hxa : Below w3.heap.size w3 wa := drew_of hla))
      | (go_at_call 13; first | ((with_reducible refine (HQ2.out _ hxa).mono ?_); rintro e wb ⟨Ab, cb, rfl, hcb, hb, -, hlb⟩; have hxb : Below w3.heap.size w3 wb := hxa.trans (hlb.mono hxa.size)) | ((with_reducible refine (HQ2.out _ (Below.refl _ _).drew).mono ?_); rintro e wb ⟨Ab, cb, rfl, hcb, hb, -, hlb⟩; have hxb : Below w3.heap.size w3 wb := drew_of hlb))
      | (go_at_call 11; first | ((with_reducible refine (rsame_any Aa Ab ca cb xs xs _ (ha.later hlb) hb HLN.out).mono ?_); rintro e wc ⟨rfl, hlc⟩; have hxc : Below w3.heap.size w3 wc := hxb.trans (hlc.mono hxb.size)) | ((with_reducible refine (rsame_any Aa Ab ca cb xs xs _ ha (hb.later hla) HLN.out).mono ?_); rintro e wc ⟨rfl, hlc⟩; have hxc : Below w3.heap.size w3 wc := hxa.trans (hlc.mono hxa.size))))
  all_goals
    go_wp2
    go_ret
    exact ⟨by simp, HB3.out.trans (hxc.mono HB3.out.size)⟩
end Go.Proofs.Ytiapmnedbjmmhaa
