/- resolve: Take, of what is told Released. -/
import Derived.Test.YtlbgkpkfjaggkaaResA
import Derived.Test.YtlbgkpkfjaggkaaResB
import Derived.StillTailTactics
import Derived.Deep.RegionLaw
import Derived.Deep.RegionHeld3
namespace Go.Proofs.Ytlbgkpkfjaggkaa
open Go.RowKit Go.Sort

theorem sk_all {w' : World} {b : Nat} {l : LV} {m : MsgV} (hl : LBox w' b l) (hm : MBox w' (b + 1) m) : w'.cell? ⟨b, 0, none⟩ = some (.int .u32 (l.addr : Int)) ∧ w'.cell? ⟨b, 1, none⟩ = some (.int .i64 l.bind) ∧ w'.cell? ⟨b, 2, none⟩ = some (.string l.cb) ∧ w'.cell? ⟨b, 3, none⟩ = some (.int .i64 l.unt) ∧ w'.cell? ⟨b, 4, none⟩ = some (.int .i64 l.acked) ∧ w'.cell? ⟨b, 5, none⟩ = some (.int .i64 l.told) ∧ w'.cell? ⟨b, 6, none⟩ = some (.int .i64 l.at_) ∧ w'.cell? ⟨b, 7, none⟩ = some (.int .i64 l.ver) ∧ w'.cell? ⟨b + 1, 0, none⟩ = some (.int .i64 m.kind) ∧ w'.cell? ⟨b + 1, 1, none⟩ = some (.int .i64 m.life) ∧ w'.cell? ⟨b + 1, 2, none⟩ = some (.int .i64 m.seen) ∧ w'.cell? ⟨b + 1, 3, none⟩ = some (.int .i64 m.xid) ∧ w'.cell? ⟨b + 1, 4, none⟩ = some (.int .i64 m.state) ∧ w'.cell? ⟨b + 1, 5, none⟩ = some (.int .u32 (m.addr : Int)) ∧ w'.cell? ⟨b + 1, 6, none⟩ = some (.int .i64 m.bind) ∧ w'.cell? ⟨b + 1, 7, none⟩ = some (.string m.client) ∧ w'.cell? ⟨b + 1, 8, none⟩ = some (.int .i64 m.pot) ∧ w'.cell? ⟨b + 1, 9, none⟩ = some (.int .i64 m.at_) ∧ w'.cell? ⟨b + 1, 10, none⟩ = some (.bool m.ok) :=
  ⟨hl.c0, hl.c1, hl.c2, hl.c3, hl.c4, hl.c5, hl.c6, hl.c7, hm.c0, hm.c1, hm.c2, hm.c3, hm.c4, hm.c5, hm.c6, hm.c7, hm.c8, hm.c9, hm.c10⟩
theorem LBox.storeF {W : World} {g k : Nat} {m : LV} (h : LBox W g m) (hk : g ≠ k) (q : LV) : LBox (storeL W k q) g m := by
  unfold storeL
  exact (((((((h.other (a := ⟨k, 0, none⟩) hk _).other (a := ⟨k, 1, none⟩) hk _).other (a := ⟨k, 2, none⟩) hk _).other (a := ⟨k, 3, none⟩) hk _).other (a := ⟨k, 4, none⟩) hk _).other (a := ⟨k, 5, none⟩) hk _).other (a := ⟨k, 6, none⟩) hk _).other (a := ⟨k, 7, none⟩) hk _
theorem MBox.storeF {W : World} {g k : Nat} {m : MsgV} (h : MBox W g m) (hk : g ≠ k) (q : LV) : MBox (storeL W k q) g m := by
  unfold storeL
  exact (((((((h.other (a := ⟨k, 0, none⟩) hk _).other (a := ⟨k, 1, none⟩) hk _).other (a := ⟨k, 2, none⟩) hk _).other (a := ⟨k, 3, none⟩) hk _).other (a := ⟨k, 4, none⟩) hk _).other (a := ⟨k, 5, none⟩) hk _).other (a := ⟨k, 6, none⟩) hk _).other (a := ⟨k, 7, none⟩) hk _
theorem sk_store {W : World} {b : Nat} {l q : LV} {m : MsgV} (hl : LBox W b l) (hm : MBox W (b + 1) m) : ((((((((W.setCell ⟨b + 1 + 1, 0, none⟩ (.int .u32 (q.addr : Int))).setCell ⟨b + 1 + 1, 1, none⟩ (.int .i64 q.bind)).setCell ⟨b + 1 + 1, 2, none⟩ (.string q.cb)).setCell ⟨b + 1 + 1, 3, none⟩ (.int .i64 q.unt)).setCell ⟨b + 1 + 1, 4, none⟩ (.int .i64 q.acked)).setCell ⟨b + 1 + 1, 5, none⟩ (.int .i64 q.told)).setCell ⟨b + 1 + 1, 6, none⟩ (.int .i64 q.at_)).setCell ⟨b + 1 + 1, 7, none⟩ (.int .i64 q.ver)).cell? ⟨b, 0, none⟩ = some (.int .u32 (l.addr : Int)) ∧ ((((((((W.setCell ⟨b + 1 + 1, 0, none⟩ (.int .u32 (q.addr : Int))).setCell ⟨b + 1 + 1, 1, none⟩ (.int .i64 q.bind)).setCell ⟨b + 1 + 1, 2, none⟩ (.string q.cb)).setCell ⟨b + 1 + 1, 3, none⟩ (.int .i64 q.unt)).setCell ⟨b + 1 + 1, 4, none⟩ (.int .i64 q.acked)).setCell ⟨b + 1 + 1, 5, none⟩ (.int .i64 q.told)).setCell ⟨b + 1 + 1, 6, none⟩ (.int .i64 q.at_)).setCell ⟨b + 1 + 1, 7, none⟩ (.int .i64 q.ver)).cell? ⟨b, 1, none⟩ = some (.int .i64 l.bind) ∧ ((((((((W.setCell ⟨b + 1 + 1, 0, none⟩ (.int .u32 (q.addr : Int))).setCell ⟨b + 1 + 1, 1, none⟩ (.int .i64 q.bind)).setCell ⟨b + 1 + 1, 2, none⟩ (.string q.cb)).setCell ⟨b + 1 + 1, 3, none⟩ (.int .i64 q.unt)).setCell ⟨b + 1 + 1, 4, none⟩ (.int .i64 q.acked)).setCell ⟨b + 1 + 1, 5, none⟩ (.int .i64 q.told)).setCell ⟨b + 1 + 1, 6, none⟩ (.int .i64 q.at_)).setCell ⟨b + 1 + 1, 7, none⟩ (.int .i64 q.ver)).cell? ⟨b, 2, none⟩ = some (.string l.cb) ∧ ((((((((W.setCell ⟨b + 1 + 1, 0, none⟩ (.int .u32 (q.addr : Int))).setCell ⟨b + 1 + 1, 1, none⟩ (.int .i64 q.bind)).setCell ⟨b + 1 + 1, 2, none⟩ (.string q.cb)).setCell ⟨b + 1 + 1, 3, none⟩ (.int .i64 q.unt)).setCell ⟨b + 1 + 1, 4, none⟩ (.int .i64 q.acked)).setCell ⟨b + 1 + 1, 5, none⟩ (.int .i64 q.told)).setCell ⟨b + 1 + 1, 6, none⟩ (.int .i64 q.at_)).setCell ⟨b + 1 + 1, 7, none⟩ (.int .i64 q.ver)).cell? ⟨b, 3, none⟩ = some (.int .i64 l.unt) ∧ ((((((((W.setCell ⟨b + 1 + 1, 0, none⟩ (.int .u32 (q.addr : Int))).setCell ⟨b + 1 + 1, 1, none⟩ (.int .i64 q.bind)).setCell ⟨b + 1 + 1, 2, none⟩ (.string q.cb)).setCell ⟨b + 1 + 1, 3, none⟩ (.int .i64 q.unt)).setCell ⟨b + 1 + 1, 4, none⟩ (.int .i64 q.acked)).setCell ⟨b + 1 + 1, 5, none⟩ (.int .i64 q.told)).setCell ⟨b + 1 + 1, 6, none⟩ (.int .i64 q.at_)).setCell ⟨b + 1 + 1, 7, none⟩ (.int .i64 q.ver)).cell? ⟨b, 4, none⟩ = some (.int .i64 l.acked) ∧ ((((((((W.setCell ⟨b + 1 + 1, 0, none⟩ (.int .u32 (q.addr : Int))).setCell ⟨b + 1 + 1, 1, none⟩ (.int .i64 q.bind)).setCell ⟨b + 1 + 1, 2, none⟩ (.string q.cb)).setCell ⟨b + 1 + 1, 3, none⟩ (.int .i64 q.unt)).setCell ⟨b + 1 + 1, 4, none⟩ (.int .i64 q.acked)).setCell ⟨b + 1 + 1, 5, none⟩ (.int .i64 q.told)).setCell ⟨b + 1 + 1, 6, none⟩ (.int .i64 q.at_)).setCell ⟨b + 1 + 1, 7, none⟩ (.int .i64 q.ver)).cell? ⟨b, 5, none⟩ = some (.int .i64 l.told) ∧ ((((((((W.setCell ⟨b + 1 + 1, 0, none⟩ (.int .u32 (q.addr : Int))).setCell ⟨b + 1 + 1, 1, none⟩ (.int .i64 q.bind)).setCell ⟨b + 1 + 1, 2, none⟩ (.string q.cb)).setCell ⟨b + 1 + 1, 3, none⟩ (.int .i64 q.unt)).setCell ⟨b + 1 + 1, 4, none⟩ (.int .i64 q.acked)).setCell ⟨b + 1 + 1, 5, none⟩ (.int .i64 q.told)).setCell ⟨b + 1 + 1, 6, none⟩ (.int .i64 q.at_)).setCell ⟨b + 1 + 1, 7, none⟩ (.int .i64 q.ver)).cell? ⟨b, 6, none⟩ = some (.int .i64 l.at_) ∧ ((((((((W.setCell ⟨b + 1 + 1, 0, none⟩ (.int .u32 (q.addr : Int))).setCell ⟨b + 1 + 1, 1, none⟩ (.int .i64 q.bind)).setCell ⟨b + 1 + 1, 2, none⟩ (.string q.cb)).setCell ⟨b + 1 + 1, 3, none⟩ (.int .i64 q.unt)).setCell ⟨b + 1 + 1, 4, none⟩ (.int .i64 q.acked)).setCell ⟨b + 1 + 1, 5, none⟩ (.int .i64 q.told)).setCell ⟨b + 1 + 1, 6, none⟩ (.int .i64 q.at_)).setCell ⟨b + 1 + 1, 7, none⟩ (.int .i64 q.ver)).cell? ⟨b, 7, none⟩ = some (.int .i64 l.ver) ∧ ((((((((W.setCell ⟨b + 1 + 1, 0, none⟩ (.int .u32 (q.addr : Int))).setCell ⟨b + 1 + 1, 1, none⟩ (.int .i64 q.bind)).setCell ⟨b + 1 + 1, 2, none⟩ (.string q.cb)).setCell ⟨b + 1 + 1, 3, none⟩ (.int .i64 q.unt)).setCell ⟨b + 1 + 1, 4, none⟩ (.int .i64 q.acked)).setCell ⟨b + 1 + 1, 5, none⟩ (.int .i64 q.told)).setCell ⟨b + 1 + 1, 6, none⟩ (.int .i64 q.at_)).setCell ⟨b + 1 + 1, 7, none⟩ (.int .i64 q.ver)).cell? ⟨b + 1, 0, none⟩ = some (.int .i64 m.kind) ∧ ((((((((W.setCell ⟨b + 1 + 1, 0, none⟩ (.int .u32 (q.addr : Int))).setCell ⟨b + 1 + 1, 1, none⟩ (.int .i64 q.bind)).setCell ⟨b + 1 + 1, 2, none⟩ (.string q.cb)).setCell ⟨b + 1 + 1, 3, none⟩ (.int .i64 q.unt)).setCell ⟨b + 1 + 1, 4, none⟩ (.int .i64 q.acked)).setCell ⟨b + 1 + 1, 5, none⟩ (.int .i64 q.told)).setCell ⟨b + 1 + 1, 6, none⟩ (.int .i64 q.at_)).setCell ⟨b + 1 + 1, 7, none⟩ (.int .i64 q.ver)).cell? ⟨b + 1, 1, none⟩ = some (.int .i64 m.life) ∧ ((((((((W.setCell ⟨b + 1 + 1, 0, none⟩ (.int .u32 (q.addr : Int))).setCell ⟨b + 1 + 1, 1, none⟩ (.int .i64 q.bind)).setCell ⟨b + 1 + 1, 2, none⟩ (.string q.cb)).setCell ⟨b + 1 + 1, 3, none⟩ (.int .i64 q.unt)).setCell ⟨b + 1 + 1, 4, none⟩ (.int .i64 q.acked)).setCell ⟨b + 1 + 1, 5, none⟩ (.int .i64 q.told)).setCell ⟨b + 1 + 1, 6, none⟩ (.int .i64 q.at_)).setCell ⟨b + 1 + 1, 7, none⟩ (.int .i64 q.ver)).cell? ⟨b + 1, 2, none⟩ = some (.int .i64 m.seen) ∧ ((((((((W.setCell ⟨b + 1 + 1, 0, none⟩ (.int .u32 (q.addr : Int))).setCell ⟨b + 1 + 1, 1, none⟩ (.int .i64 q.bind)).setCell ⟨b + 1 + 1, 2, none⟩ (.string q.cb)).setCell ⟨b + 1 + 1, 3, none⟩ (.int .i64 q.unt)).setCell ⟨b + 1 + 1, 4, none⟩ (.int .i64 q.acked)).setCell ⟨b + 1 + 1, 5, none⟩ (.int .i64 q.told)).setCell ⟨b + 1 + 1, 6, none⟩ (.int .i64 q.at_)).setCell ⟨b + 1 + 1, 7, none⟩ (.int .i64 q.ver)).cell? ⟨b + 1, 3, none⟩ = some (.int .i64 m.xid) ∧ ((((((((W.setCell ⟨b + 1 + 1, 0, none⟩ (.int .u32 (q.addr : Int))).setCell ⟨b + 1 + 1, 1, none⟩ (.int .i64 q.bind)).setCell ⟨b + 1 + 1, 2, none⟩ (.string q.cb)).setCell ⟨b + 1 + 1, 3, none⟩ (.int .i64 q.unt)).setCell ⟨b + 1 + 1, 4, none⟩ (.int .i64 q.acked)).setCell ⟨b + 1 + 1, 5, none⟩ (.int .i64 q.told)).setCell ⟨b + 1 + 1, 6, none⟩ (.int .i64 q.at_)).setCell ⟨b + 1 + 1, 7, none⟩ (.int .i64 q.ver)).cell? ⟨b + 1, 4, none⟩ = some (.int .i64 m.state) ∧ ((((((((W.setCell ⟨b + 1 + 1, 0, none⟩ (.int .u32 (q.addr : Int))).setCell ⟨b + 1 + 1, 1, none⟩ (.int .i64 q.bind)).setCell ⟨b + 1 + 1, 2, none⟩ (.string q.cb)).setCell ⟨b + 1 + 1, 3, none⟩ (.int .i64 q.unt)).setCell ⟨b + 1 + 1, 4, none⟩ (.int .i64 q.acked)).setCell ⟨b + 1 + 1, 5, none⟩ (.int .i64 q.told)).setCell ⟨b + 1 + 1, 6, none⟩ (.int .i64 q.at_)).setCell ⟨b + 1 + 1, 7, none⟩ (.int .i64 q.ver)).cell? ⟨b + 1, 5, none⟩ = some (.int .u32 (m.addr : Int)) ∧ ((((((((W.setCell ⟨b + 1 + 1, 0, none⟩ (.int .u32 (q.addr : Int))).setCell ⟨b + 1 + 1, 1, none⟩ (.int .i64 q.bind)).setCell ⟨b + 1 + 1, 2, none⟩ (.string q.cb)).setCell ⟨b + 1 + 1, 3, none⟩ (.int .i64 q.unt)).setCell ⟨b + 1 + 1, 4, none⟩ (.int .i64 q.acked)).setCell ⟨b + 1 + 1, 5, none⟩ (.int .i64 q.told)).setCell ⟨b + 1 + 1, 6, none⟩ (.int .i64 q.at_)).setCell ⟨b + 1 + 1, 7, none⟩ (.int .i64 q.ver)).cell? ⟨b + 1, 6, none⟩ = some (.int .i64 m.bind) ∧ ((((((((W.setCell ⟨b + 1 + 1, 0, none⟩ (.int .u32 (q.addr : Int))).setCell ⟨b + 1 + 1, 1, none⟩ (.int .i64 q.bind)).setCell ⟨b + 1 + 1, 2, none⟩ (.string q.cb)).setCell ⟨b + 1 + 1, 3, none⟩ (.int .i64 q.unt)).setCell ⟨b + 1 + 1, 4, none⟩ (.int .i64 q.acked)).setCell ⟨b + 1 + 1, 5, none⟩ (.int .i64 q.told)).setCell ⟨b + 1 + 1, 6, none⟩ (.int .i64 q.at_)).setCell ⟨b + 1 + 1, 7, none⟩ (.int .i64 q.ver)).cell? ⟨b + 1, 7, none⟩ = some (.string m.client) ∧ ((((((((W.setCell ⟨b + 1 + 1, 0, none⟩ (.int .u32 (q.addr : Int))).setCell ⟨b + 1 + 1, 1, none⟩ (.int .i64 q.bind)).setCell ⟨b + 1 + 1, 2, none⟩ (.string q.cb)).setCell ⟨b + 1 + 1, 3, none⟩ (.int .i64 q.unt)).setCell ⟨b + 1 + 1, 4, none⟩ (.int .i64 q.acked)).setCell ⟨b + 1 + 1, 5, none⟩ (.int .i64 q.told)).setCell ⟨b + 1 + 1, 6, none⟩ (.int .i64 q.at_)).setCell ⟨b + 1 + 1, 7, none⟩ (.int .i64 q.ver)).cell? ⟨b + 1, 8, none⟩ = some (.int .i64 m.pot) ∧ ((((((((W.setCell ⟨b + 1 + 1, 0, none⟩ (.int .u32 (q.addr : Int))).setCell ⟨b + 1 + 1, 1, none⟩ (.int .i64 q.bind)).setCell ⟨b + 1 + 1, 2, none⟩ (.string q.cb)).setCell ⟨b + 1 + 1, 3, none⟩ (.int .i64 q.unt)).setCell ⟨b + 1 + 1, 4, none⟩ (.int .i64 q.acked)).setCell ⟨b + 1 + 1, 5, none⟩ (.int .i64 q.told)).setCell ⟨b + 1 + 1, 6, none⟩ (.int .i64 q.at_)).setCell ⟨b + 1 + 1, 7, none⟩ (.int .i64 q.ver)).cell? ⟨b + 1, 9, none⟩ = some (.int .i64 m.at_) ∧ ((((((((W.setCell ⟨b + 1 + 1, 0, none⟩ (.int .u32 (q.addr : Int))).setCell ⟨b + 1 + 1, 1, none⟩ (.int .i64 q.bind)).setCell ⟨b + 1 + 1, 2, none⟩ (.string q.cb)).setCell ⟨b + 1 + 1, 3, none⟩ (.int .i64 q.unt)).setCell ⟨b + 1 + 1, 4, none⟩ (.int .i64 q.acked)).setCell ⟨b + 1 + 1, 5, none⟩ (.int .i64 q.told)).setCell ⟨b + 1 + 1, 6, none⟩ (.int .i64 q.at_)).setCell ⟨b + 1 + 1, 7, none⟩ (.int .i64 q.ver)).cell? ⟨b + 1, 10, none⟩ = some (.bool m.ok) := by
  have h := sk_all (hl.storeF (k := b + 1 + 1) (by omega) q) (hm.storeF (k := b + 1 + 1) (by omega) q)
  unfold storeL at h
  exact h

set_option maxRecDepth 100000 in
set_option maxHeartbeats 2000000 in
theorem take_rel (l : LV) (m : MsgV) (s now g : Int) (w : World) (hf : Fits l m) (hb : m.bind = 4) : Calls Try.prog 9 #[l.v, m.v, .int .i64 s, .int .i64 now, .int .i64 g] w (GivesLB w (endV l m (relB l m g))) := by
  
  have HF := Lib.hid (fun V => fits_any l m V)
  have HP := Lib.hid (fun V => past_any now l.unt 0 V)
  have HC := Lib.hid (fun V => rec_any s V)
  rw [decide_eq_true hf] at HF
  clear hf
  have HQ := Lib.hid (fun V => past_any m.at_ l.at_ g V)
  have HX := Lib.hid (fun V => ended_any l m (relB l m g) V)
  generalize hr : endV l m (relB l m g) = r at *
  clear hr
  have HRL : Hid (relB l m g = (decide (l.at_ = 0) || pastV m.at_ l.at_ g)) := Lib.hid rfl
  generalize relB l m g = rel at *
  generalize pastV m.at_ l.at_ g = pg at *
  generalize pastV now l.unt 0 = ov at *
  generalize recB s = rc at *
  have b2 : (m.bind == 2) = false := by rw [hb]; rfl
  have b3 : (m.bind == 3) = false := by rw [hb]; rfl
  have b4 : (m.bind == 4) = true := by rw [hb]; rfl
  clear hb
  have hway : ((l.at_ == 0) = true ∧ rel = true) ∨ ((l.at_ == 0) = false ∧ rel = pg) := by
    rw [HRL.out]
    by_cases h : l.at_ = 0
    · exact .inl ⟨by rw [h]; rfl, by rw [decide_eq_true h]; rfl⟩
    · exact .inr ⟨by simpa using h, by rw [decide_eq_false h]; rfl⟩
  clear HRL
  obtain ⟨w0, hw0, hl, hm, hz, hb⟩ := lay3_facts w l m
  have HL := Lib.hid hl
  have HM := Lib.hid hm
  have HZ := Lib.hid hz
  have HB := Lib.hid hb
  have HW0 := Lib.hid hw0
  clear hl hm hz hb hw0
  obtain ⟨c0, c1, c2, c3, c4, c5, c6, c7⟩ := HL.out.all
  obtain ⟨m0, m1, m2, m3, m4, m5, m6, m7, m8, m9, m10⟩ := HM.out.all
  rcases hway with ⟨ha, rfl⟩ | ⟨ha, rfl⟩
  · cases ov
    · go_enter Try.func9, Try.ntmps9
      go_upto_region 1 with fail
      rw [← HW0.out]
      go_wp2_with fail
      refine (HF.out _).mono ?_
      rintro e w1 ⟨rfl, hb1⟩
      have HL1 := Lib.hid (HL.out.later hb1)
      have HM1 := Lib.hid (HM.out.later hb1)
      have HZ1 := Lib.hid (HZ.out.later hb1)
      have HB1 := Lib.hid (HB.out.trans (hb1.mono HB.out.size))
      clear hb1 HL HM HZ HB HW0
      clear c0 c1 c2 c3 c4 c5 c6 c7
      clear m0 m1 m2 m3 m4 m5 m6 m7 m8 m9 m10
      obtain ⟨c0, c1, c2, c3, c4, c5, c6, c7⟩ := HL1.out.all
      obtain ⟨m0, m1, m2, m3, m4, m5, m6, m7, m8, m9, m10⟩ := HM1.out.all
      obtain ⟨z0, z1, z2, z3, z4, z5, z6, z7⟩ := HZ1.out.all
      obtain ⟨f0, f1, f2, f3, f4, f5, f6, f7⟩ := HZ1.out.allF
      go_wp2_with fail
      refine (HP.out _).mono ?_
      rintro e w' ⟨rfl, rfl⟩
      go_upto_region 11 with fail
      clear c0 c1 c2 c3 c4 c5 c6 c7 m0 m1 m2 m3 m4 m5 m6 m7 m8 m9 m10
      clear z0 z1 z2 z3 z4 z5 z6 z7 f0 f1 f2 f3 f4 f5 f6 f7
      refine wp_region_held_drew (S := (fun w' => w'.cell? ⟨w.heap.size, 0, none⟩ = some (.int .u32 (l.addr : Int)) ∧ w'.cell? ⟨w.heap.size, 1, none⟩ = some (.int .i64 l.bind) ∧ w'.cell? ⟨w.heap.size, 2, none⟩ = some (.string l.cb) ∧ w'.cell? ⟨w.heap.size, 3, none⟩ = some (.int .i64 l.unt) ∧ w'.cell? ⟨w.heap.size, 4, none⟩ = some (.int .i64 l.acked) ∧ w'.cell? ⟨w.heap.size, 5, none⟩ = some (.int .i64 l.told) ∧ w'.cell? ⟨w.heap.size, 6, none⟩ = some (.int .i64 l.at_) ∧ w'.cell? ⟨w.heap.size, 7, none⟩ = some (.int .i64 l.ver) ∧ w'.cell? ⟨w.heap.size + 1, 0, none⟩ = some (.int .i64 m.kind) ∧ w'.cell? ⟨w.heap.size + 1, 1, none⟩ = some (.int .i64 m.life) ∧ w'.cell? ⟨w.heap.size + 1, 2, none⟩ = some (.int .i64 m.seen) ∧ w'.cell? ⟨w.heap.size + 1, 3, none⟩ = some (.int .i64 m.xid) ∧ w'.cell? ⟨w.heap.size + 1, 4, none⟩ = some (.int .i64 m.state) ∧ w'.cell? ⟨w.heap.size + 1, 5, none⟩ = some (.int .u32 (m.addr : Int)) ∧ w'.cell? ⟨w.heap.size + 1, 6, none⟩ = some (.int .i64 m.bind) ∧ w'.cell? ⟨w.heap.size + 1, 7, none⟩ = some (.string m.client) ∧ w'.cell? ⟨w.heap.size + 1, 8, none⟩ = some (.int .i64 m.pot) ∧ w'.cell? ⟨w.heap.size + 1, 9, none⟩ = some (.int .i64 m.at_) ∧ w'.cell? ⟨w.heap.size + 1, 10, none⟩ = some (.bool m.ok))) (by kernel_rfl) ?hSr1 (fun hHeld => ?_)
      case hSr1 => (with_reducible exact sk_all HL1.out.drew HM1.out.drew)
      refine wpAnyH_take (i := 0) (oi := { dst := some 48, op := Op.load 25 (Operand.tmp 5), type := 25, pos := "resolve.go:28", after := #[], guard := none }) (v := ?vr1x0) rfl (by kernel_rfl) (by kernel_rfl) (by kernel_rfl) (fun _ _ _ h => h) (Or.inl ⟨by rfl, ?hyr1x0⟩) (by assumption) ?_
      case hyr1x0 => (intro w hSw; (try dsimp only at hSw); go_simp; (try with_reducible rfl))
      try simp only [Act.put, List.setIfInBounds_toArray, List.set_cons_zero, List.set_cons_succ]
      refine wpAnyH_take (i := 1) (oi := { dst := some 49, op := Op.load 27 (Operand.tmp 6), type := 27, pos := "resolve.go:28", after := #[], guard := none }) (v := ?vr1x1) rfl (by kernel_rfl) (by kernel_rfl) (by kernel_rfl) (fun _ _ _ h => h) (Or.inl ⟨by rfl, ?hyr1x1⟩) (by assumption) ?_
      case hyr1x1 => (intro w hSw; (try dsimp only at hSw); go_simp; (try with_reducible rfl))
      try simp only [Act.put, List.setIfInBounds_toArray, List.set_cons_zero, List.set_cons_succ]
      refine wpAnyH_take (i := 2) (oi := { dst := some 50, op := Op.fieldAddr 25 (Operand.tmp 5) 6, type := 0, pos := "resolve.go:28", after := #[], guard := none }) (v := ?vr1x2) rfl (by kernel_rfl) (by kernel_rfl) (by kernel_rfl) (fun _ _ _ h => h) (Or.inl ⟨by rfl, ?hyr1x2⟩) (by assumption) ?_
      case hyr1x2 => (intro w hSw; (try dsimp only at hSw); go_simp; (try with_reducible rfl))
      try simp only [Act.put, List.setIfInBounds_toArray, List.set_cons_zero, List.set_cons_succ]
      refine wpAnyH_take (i := 3) (oi := { dst := some 51, op := Op.load 3 (Operand.tmp 50), type := 3, pos := "resolve.go:28", after := #[{ on := 2, ground := Ground.data }], guard := none }) (v := ?vr1x3) rfl (by kernel_rfl) (by kernel_rfl) (by kernel_rfl) (fun _ _ _ h => h) (Or.inl ⟨by rfl, ?hyr1x3⟩) (by assumption) ?_
      case hyr1x3 => (intro w hSw; (try dsimp only at hSw); go_simp; (try with_reducible rfl))
      try simp only [Act.put, List.setIfInBounds_toArray, List.set_cons_zero, List.set_cons_succ]
      refine wpAnyH_take (i := 4) (oi := { dst := some 52, op := Op.binOp BinOp.eql 3 (Operand.tmp 51) (Operand.const (Value.int IntKind.i64 0)) 3, type := 4, pos := "resolve.go:28", after := #[{ on := 3, ground := Ground.data }], guard := none }) (v := ?vr1x4) rfl (by kernel_rfl) (by kernel_rfl) (by kernel_rfl) (fun _ _ _ h => h) (Or.inl ⟨by rfl, ?hyr1x4⟩) (by assumption) ?_
      case hyr1x4 => (intro w hSw; (try dsimp only at hSw); go_simp; (try with_reducible rfl))
      try simp only [Act.put, List.setIfInBounds_toArray, List.set_cons_zero, List.set_cons_succ]
      refine wpAnyH_take (i := 5) (oi := { dst := some 53, op := Op.move (Operand.tmp 52), type := 4, pos := "resolve.go:28", after := #[{ on := 4, ground := Ground.data }], guard := none }) (v := ?vr1x5) rfl (by kernel_rfl) (by kernel_rfl) (by kernel_rfl) (fun _ _ _ h => h) (Or.inl ⟨by rfl, ?hyr1x5⟩) (by assumption) ?_
      case hyr1x5 => (intro w hSw; (try dsimp only at hSw); go_simp; (try with_reducible rfl))
      try simp only [Act.put, List.setIfInBounds_toArray, List.set_cons_zero, List.set_cons_succ]
      refine wpAnyH_take (i := 6) (oi := { dst := some 54, op := Op.fieldAddr 27 (Operand.tmp 6) 9, type := 0, pos := "resolve.go:28", after := #[{ on := 5, ground := Ground.guard }], guard := some (5, false) }) (v := undef) rfl (by kernel_rfl) (by kernel_rfl) (by kernel_rfl) (fun _ _ _ h => h) (Or.inr ⟨by rfl, rfl⟩) (by assumption) ?_
      try simp only [Act.put, List.setIfInBounds_toArray, List.set_cons_zero, List.set_cons_succ]
      refine wpAnyH_take (i := 7) (oi := { dst := some 55, op := Op.load 3 (Operand.tmp 54), type := 3, pos := "resolve.go:28", after := #[{ on := 6, ground := Ground.data }, { on := 5, ground := Ground.guard }], guard := some (5, false) }) (v := undef) rfl (by kernel_rfl) (by kernel_rfl) (by kernel_rfl) (fun _ _ _ h => h) (Or.inr ⟨by rfl, rfl⟩) (by assumption) ?_
      try simp only [Act.put, List.setIfInBounds_toArray, List.set_cons_zero, List.set_cons_succ]
      refine wpAnyH_take (i := 8) (oi := { dst := some 56, op := Op.fieldAddr 25 (Operand.tmp 5) 6, type := 0, pos := "resolve.go:28", after := #[{ on := 5, ground := Ground.guard }], guard := some (5, false) }) (v := undef) rfl (by kernel_rfl) (by kernel_rfl) (by kernel_rfl) (fun _ _ _ h => h) (Or.inr ⟨by rfl, rfl⟩) (by assumption) ?_
      try simp only [Act.put, List.setIfInBounds_toArray, List.set_cons_zero, List.set_cons_succ]
      refine wpAnyH_take (i := 9) (oi := { dst := some 57, op := Op.load 3 (Operand.tmp 56), type := 3, pos := "resolve.go:28", after := #[{ on := 8, ground := Ground.data }, { on := 5, ground := Ground.guard }], guard := some (5, false) }) (v := undef) rfl (by kernel_rfl) (by kernel_rfl) (by kernel_rfl) (fun _ _ _ h => h) (Or.inr ⟨by rfl, rfl⟩) (by assumption) ?_
      try simp only [Act.put, List.setIfInBounds_toArray, List.set_cons_zero, List.set_cons_succ]
      refine wpAnyH_take (i := 10) (oi := { dst := some 58, op := Op.move (Operand.tmp 4), type := 3, pos := "resolve.go:28", after := #[{ on := 5, ground := Ground.guard }], guard := some (5, false) }) (v := undef) rfl (by kernel_rfl) (by kernel_rfl) (by kernel_rfl) (fun _ _ _ h => h) (Or.inr ⟨by rfl, rfl⟩) (by assumption) ?_
      try simp only [Act.put, List.setIfInBounds_toArray, List.set_cons_zero, List.set_cons_succ]
      refine wpAnyH_take (i := 11) (oi := { dst := some 59, op := Op.call { callee := Callee.value (Operand.func 14), args := #[Operand.tmp 55, Operand.tmp 57, Operand.tmp 58], argTypes := #[3, 3, 3] }, type := 4, pos := "resolve.go:28", after := #[{ on := 7, ground := Ground.data }, { on := 9, ground := Ground.data }, { on := 10, ground := Ground.data }, { on := 5, ground := Ground.chain }, { on := 5, ground := Ground.guard }], guard := some (5, false) }) (v := undef) rfl (by kernel_rfl) (by kernel_rfl) (by kernel_rfl) (fun _ _ _ h => h) (Or.inr ⟨by rfl, rfl⟩) (by assumption) ?_
      try simp only [Act.put, List.setIfInBounds_toArray, List.set_cons_zero, List.set_cons_succ]
      refine wpAnyH_take (i := 12) (oi := { dst := some 60, op := Op.pick (Operand.tmp 53) (Operand.const (Value.bool true)) (Operand.tmp 59), type := 4, pos := "resolve.go:28", after := #[{ on := 5, ground := Ground.data }, { on := 11, ground := Ground.data }], guard := none }) (v := ?vr1x12) rfl (by kernel_rfl) (by kernel_rfl) (by kernel_rfl) (fun _ _ _ h => h) (Or.inl ⟨by rfl, ?hyr1x12⟩) (by assumption) ?_
      case hyr1x12 => (intro w hSw; (try dsimp only at hSw); go_simp; (try with_reducible rfl))
      try simp only [Act.put, List.setIfInBounds_toArray, List.set_cons_zero, List.set_cons_succ]
      refine wpAnyH_ready (rs := [13]) (by kernel_rfl) (by simp) ?_
      refine AllReadyH.cons (o := { dst := some 61, op := Op.call { callee := Callee.value (Operand.func 17), args := #[Operand.tmp 48, Operand.tmp 49, Operand.tmp 60], argTypes := #[25, 27, 4] }, type := 31, pos := "resolve.go:28", after := #[{ on := 0, ground := Ground.data }, { on := 1, ground := Ground.data }, { on := 12, ground := Ground.data }, { on := 11, ground := Ground.chain }], guard := none }) rfl (fun K hK => ?_) AllReadyH.nil
      go_simp
      go_at_call 17
      refine (HX.out _).mono ?_
      rintro e w2 ⟨rfl, hb2⟩
      have HL2 := HL1.out.drew.later hb2
      have HM2 := HM1.out.drew.later hb2
      have HZ2 := HZ1.out.drew.later hb2
      have HB2 := HB1.out.drew.trans (hb2.mono HB1.out.size)
      clear hb2
      obtain ⟨z0, z1, z2, z3, z4, z5, z6, z7⟩ := HZ2.all
      obtain ⟨f0, f1, f2, f3, f4, f5, f6, f7⟩ := HZ2.allF
      go_wp2_with fail
      clear hHeld
      refine hK.out _ _ ?hSr1x13 (fun hHeld => ?_)
      case hSr1x13 => (with_reducible exact sk_all HL2 HM2)
      clear hK K
      try simp only [Act.put, List.setIfInBounds_toArray, List.set_cons_zero, List.set_cons_succ]
      refine wpAnyH_take (i := 14) (oi := { dst := some 62, op := Op.extract (Operand.tmp 61) 0, type := 25, pos := "resolve.go:28", after := #[{ on := 13, ground := Ground.data }], guard := none }) (v := ?vr1x14) rfl (by kernel_rfl) (by kernel_rfl) (by kernel_rfl) (fun _ _ _ h => h) (Or.inl ⟨by rfl, ?hyr1x14⟩) (by assumption) ?_
      case hyr1x14 => (intro w hSw; (try dsimp only at hSw); go_simp; (try with_reducible rfl))
      try simp only [Act.put, List.setIfInBounds_toArray, List.set_cons_zero, List.set_cons_succ]
      refine wpAnyH_take (i := 15) (oi := { dst := some 63, op := Op.extract (Operand.tmp 61) 1, type := 4, pos := "resolve.go:28", after := #[{ on := 13, ground := Ground.data }], guard := none }) (v := ?vr1x15) rfl (by kernel_rfl) (by kernel_rfl) (by kernel_rfl) (fun _ _ _ h => h) (Or.inl ⟨by rfl, ?hyr1x15⟩) (by assumption) ?_
      case hyr1x15 => (intro w hSw; (try dsimp only at hSw); go_simp; (try with_reducible rfl))
      try simp only [Act.put, List.setIfInBounds_toArray, List.set_cons_zero, List.set_cons_succ]
      refine wpAnyH_ready (rs := [16]) (by kernel_rfl) (by simp) ?_
      refine AllReadyH.cons (o := { dst := none, op := Op.store 25 (Operand.tmp 10) (Operand.tmp 62), type := 0, pos := "resolve.go:28", after := #[{ on := 14, ground := Ground.data }, { on := 13, ground := Ground.chain }, { on := 0, ground := Ground.phase }, { on := 1, ground := Ground.phase }, { on := 2, ground := Ground.phase }, { on := 3, ground := Ground.phase }, { on := 4, ground := Ground.phase }, { on := 5, ground := Ground.phase }, { on := 6, ground := Ground.phase }, { on := 7, ground := Ground.phase }, { on := 8, ground := Ground.phase }, { on := 9, ground := Ground.phase }, { on := 10, ground := Ground.phase }, { on := 11, ground := Ground.phase }, { on := 12, ground := Ground.phase }, { on := 13, ground := Ground.phase }, { on := 14, ground := Ground.phase }, { on := 15, ground := Ground.phase }], guard := none }) rfl (fun K hK => ?_) AllReadyH.nil
      go_simp
      clear hHeld
      refine hK.out _ _ ?hSr1x16 (fun hHeld => ?_)
      case hSr1x16 => (with_reducible exact sk_store HL2 HM2)
      clear hK K
      try simp only [Act.put, List.setIfInBounds_toArray, List.set_cons_zero, List.set_cons_succ]
      refine wpAnyH_take (i := 17) (oi := { dst := some 11, op := Op.assign (Operand.tmp 63), type := 4, pos := "resolve.go:28", after := #[{ on := 15, ground := Ground.data }, { on := 16, ground := Ground.chain }, { on := 0, ground := Ground.phase }, { on := 1, ground := Ground.phase }, { on := 2, ground := Ground.phase }, { on := 3, ground := Ground.phase }, { on := 4, ground := Ground.phase }, { on := 5, ground := Ground.phase }, { on := 6, ground := Ground.phase }, { on := 7, ground := Ground.phase }, { on := 8, ground := Ground.phase }, { on := 9, ground := Ground.phase }, { on := 10, ground := Ground.phase }, { on := 11, ground := Ground.phase }, { on := 12, ground := Ground.phase }, { on := 13, ground := Ground.phase }, { on := 14, ground := Ground.phase }, { on := 15, ground := Ground.phase }, { on := 16, ground := Ground.phase }], guard := none }) (v := ?vr1x17) rfl (by kernel_rfl) (by kernel_rfl) (by kernel_rfl) (fun _ _ _ h => h) (Or.inl ⟨by rfl, ?hyr1x17⟩) (by assumption) ?_
      case hyr1x17 => (intro w hSw; (try dsimp only at hSw); go_simp; (try with_reducible rfl))
      try simp only [Act.put, List.setIfInBounds_toArray, List.set_cons_zero, List.set_cons_succ]
      refine wpAnyH_done (by kernel_rfl) ?_ _
      go_wp2
      exact take_end (W := w2) (q := r.1) (b := r.2) HZ2 HB2 (Nat.le_add_right _ 2) rfl rfl rfl
    · go_enter Try.func9, Try.ntmps9
      go_upto_region 1 with fail
      rw [← HW0.out]
      go_wp2_with fail
      refine (HF.out _).mono ?_
      rintro e w1 ⟨rfl, hb1⟩
      have HL1 := Lib.hid (HL.out.later hb1)
      have HM1 := Lib.hid (HM.out.later hb1)
      have HZ1 := Lib.hid (HZ.out.later hb1)
      have HB1 := Lib.hid (HB.out.trans (hb1.mono HB.out.size))
      clear hb1 HL HM HZ HB HW0
      clear c0 c1 c2 c3 c4 c5 c6 c7
      clear m0 m1 m2 m3 m4 m5 m6 m7 m8 m9 m10
      obtain ⟨c0, c1, c2, c3, c4, c5, c6, c7⟩ := HL1.out.all
      obtain ⟨m0, m1, m2, m3, m4, m5, m6, m7, m8, m9, m10⟩ := HM1.out.all
      obtain ⟨z0, z1, z2, z3, z4, z5, z6, z7⟩ := HZ1.out.all
      obtain ⟨f0, f1, f2, f3, f4, f5, f6, f7⟩ := HZ1.out.allF
      go_wp2_with fail
      refine (HP.out _).mono ?_
      rintro e w' ⟨rfl, rfl⟩
      go_wp2_with fail
      refine (HC.out _).mono ?_
      rintro e w' ⟨rfl, rfl⟩
      go_upto_region 11 with fail
      clear c0 c1 c2 c3 c4 c5 c6 c7 m0 m1 m2 m3 m4 m5 m6 m7 m8 m9 m10
      clear z0 z1 z2 z3 z4 z5 z6 z7 f0 f1 f2 f3 f4 f5 f6 f7
      refine wp_region_held_drew (S := (fun w' => w'.cell? ⟨w.heap.size, 0, none⟩ = some (.int .u32 (l.addr : Int)) ∧ w'.cell? ⟨w.heap.size, 1, none⟩ = some (.int .i64 l.bind) ∧ w'.cell? ⟨w.heap.size, 2, none⟩ = some (.string l.cb) ∧ w'.cell? ⟨w.heap.size, 3, none⟩ = some (.int .i64 l.unt) ∧ w'.cell? ⟨w.heap.size, 4, none⟩ = some (.int .i64 l.acked) ∧ w'.cell? ⟨w.heap.size, 5, none⟩ = some (.int .i64 l.told) ∧ w'.cell? ⟨w.heap.size, 6, none⟩ = some (.int .i64 l.at_) ∧ w'.cell? ⟨w.heap.size, 7, none⟩ = some (.int .i64 l.ver) ∧ w'.cell? ⟨w.heap.size + 1, 0, none⟩ = some (.int .i64 m.kind) ∧ w'.cell? ⟨w.heap.size + 1, 1, none⟩ = some (.int .i64 m.life) ∧ w'.cell? ⟨w.heap.size + 1, 2, none⟩ = some (.int .i64 m.seen) ∧ w'.cell? ⟨w.heap.size + 1, 3, none⟩ = some (.int .i64 m.xid) ∧ w'.cell? ⟨w.heap.size + 1, 4, none⟩ = some (.int .i64 m.state) ∧ w'.cell? ⟨w.heap.size + 1, 5, none⟩ = some (.int .u32 (m.addr : Int)) ∧ w'.cell? ⟨w.heap.size + 1, 6, none⟩ = some (.int .i64 m.bind) ∧ w'.cell? ⟨w.heap.size + 1, 7, none⟩ = some (.string m.client) ∧ w'.cell? ⟨w.heap.size + 1, 8, none⟩ = some (.int .i64 m.pot) ∧ w'.cell? ⟨w.heap.size + 1, 9, none⟩ = some (.int .i64 m.at_) ∧ w'.cell? ⟨w.heap.size + 1, 10, none⟩ = some (.bool m.ok))) (by kernel_rfl) ?hSr1 (fun hHeld => ?_)
      case hSr1 => (with_reducible exact sk_all HL1.out.drew HM1.out.drew)
      refine wpAnyH_take (i := 0) (oi := { dst := some 48, op := Op.load 25 (Operand.tmp 5), type := 25, pos := "resolve.go:28", after := #[], guard := none }) (v := ?vr1x0) rfl (by kernel_rfl) (by kernel_rfl) (by kernel_rfl) (fun _ _ _ h => h) (Or.inl ⟨by rfl, ?hyr1x0⟩) (by assumption) ?_
      case hyr1x0 => (intro w hSw; (try dsimp only at hSw); go_simp; (try with_reducible rfl))
      try simp only [Act.put, List.setIfInBounds_toArray, List.set_cons_zero, List.set_cons_succ]
      refine wpAnyH_take (i := 1) (oi := { dst := some 49, op := Op.load 27 (Operand.tmp 6), type := 27, pos := "resolve.go:28", after := #[], guard := none }) (v := ?vr1x1) rfl (by kernel_rfl) (by kernel_rfl) (by kernel_rfl) (fun _ _ _ h => h) (Or.inl ⟨by rfl, ?hyr1x1⟩) (by assumption) ?_
      case hyr1x1 => (intro w hSw; (try dsimp only at hSw); go_simp; (try with_reducible rfl))
      try simp only [Act.put, List.setIfInBounds_toArray, List.set_cons_zero, List.set_cons_succ]
      refine wpAnyH_take (i := 2) (oi := { dst := some 50, op := Op.fieldAddr 25 (Operand.tmp 5) 6, type := 0, pos := "resolve.go:28", after := #[], guard := none }) (v := ?vr1x2) rfl (by kernel_rfl) (by kernel_rfl) (by kernel_rfl) (fun _ _ _ h => h) (Or.inl ⟨by rfl, ?hyr1x2⟩) (by assumption) ?_
      case hyr1x2 => (intro w hSw; (try dsimp only at hSw); go_simp; (try with_reducible rfl))
      try simp only [Act.put, List.setIfInBounds_toArray, List.set_cons_zero, List.set_cons_succ]
      refine wpAnyH_take (i := 3) (oi := { dst := some 51, op := Op.load 3 (Operand.tmp 50), type := 3, pos := "resolve.go:28", after := #[{ on := 2, ground := Ground.data }], guard := none }) (v := ?vr1x3) rfl (by kernel_rfl) (by kernel_rfl) (by kernel_rfl) (fun _ _ _ h => h) (Or.inl ⟨by rfl, ?hyr1x3⟩) (by assumption) ?_
      case hyr1x3 => (intro w hSw; (try dsimp only at hSw); go_simp; (try with_reducible rfl))
      try simp only [Act.put, List.setIfInBounds_toArray, List.set_cons_zero, List.set_cons_succ]
      refine wpAnyH_take (i := 4) (oi := { dst := some 52, op := Op.binOp BinOp.eql 3 (Operand.tmp 51) (Operand.const (Value.int IntKind.i64 0)) 3, type := 4, pos := "resolve.go:28", after := #[{ on := 3, ground := Ground.data }], guard := none }) (v := ?vr1x4) rfl (by kernel_rfl) (by kernel_rfl) (by kernel_rfl) (fun _ _ _ h => h) (Or.inl ⟨by rfl, ?hyr1x4⟩) (by assumption) ?_
      case hyr1x4 => (intro w hSw; (try dsimp only at hSw); go_simp; (try with_reducible rfl))
      try simp only [Act.put, List.setIfInBounds_toArray, List.set_cons_zero, List.set_cons_succ]
      refine wpAnyH_take (i := 5) (oi := { dst := some 53, op := Op.move (Operand.tmp 52), type := 4, pos := "resolve.go:28", after := #[{ on := 4, ground := Ground.data }], guard := none }) (v := ?vr1x5) rfl (by kernel_rfl) (by kernel_rfl) (by kernel_rfl) (fun _ _ _ h => h) (Or.inl ⟨by rfl, ?hyr1x5⟩) (by assumption) ?_
      case hyr1x5 => (intro w hSw; (try dsimp only at hSw); go_simp; (try with_reducible rfl))
      try simp only [Act.put, List.setIfInBounds_toArray, List.set_cons_zero, List.set_cons_succ]
      refine wpAnyH_take (i := 6) (oi := { dst := some 54, op := Op.fieldAddr 27 (Operand.tmp 6) 9, type := 0, pos := "resolve.go:28", after := #[{ on := 5, ground := Ground.guard }], guard := some (5, false) }) (v := undef) rfl (by kernel_rfl) (by kernel_rfl) (by kernel_rfl) (fun _ _ _ h => h) (Or.inr ⟨by rfl, rfl⟩) (by assumption) ?_
      try simp only [Act.put, List.setIfInBounds_toArray, List.set_cons_zero, List.set_cons_succ]
      refine wpAnyH_take (i := 7) (oi := { dst := some 55, op := Op.load 3 (Operand.tmp 54), type := 3, pos := "resolve.go:28", after := #[{ on := 6, ground := Ground.data }, { on := 5, ground := Ground.guard }], guard := some (5, false) }) (v := undef) rfl (by kernel_rfl) (by kernel_rfl) (by kernel_rfl) (fun _ _ _ h => h) (Or.inr ⟨by rfl, rfl⟩) (by assumption) ?_
      try simp only [Act.put, List.setIfInBounds_toArray, List.set_cons_zero, List.set_cons_succ]
      refine wpAnyH_take (i := 8) (oi := { dst := some 56, op := Op.fieldAddr 25 (Operand.tmp 5) 6, type := 0, pos := "resolve.go:28", after := #[{ on := 5, ground := Ground.guard }], guard := some (5, false) }) (v := undef) rfl (by kernel_rfl) (by kernel_rfl) (by kernel_rfl) (fun _ _ _ h => h) (Or.inr ⟨by rfl, rfl⟩) (by assumption) ?_
      try simp only [Act.put, List.setIfInBounds_toArray, List.set_cons_zero, List.set_cons_succ]
      refine wpAnyH_take (i := 9) (oi := { dst := some 57, op := Op.load 3 (Operand.tmp 56), type := 3, pos := "resolve.go:28", after := #[{ on := 8, ground := Ground.data }, { on := 5, ground := Ground.guard }], guard := some (5, false) }) (v := undef) rfl (by kernel_rfl) (by kernel_rfl) (by kernel_rfl) (fun _ _ _ h => h) (Or.inr ⟨by rfl, rfl⟩) (by assumption) ?_
      try simp only [Act.put, List.setIfInBounds_toArray, List.set_cons_zero, List.set_cons_succ]
      refine wpAnyH_take (i := 10) (oi := { dst := some 58, op := Op.move (Operand.tmp 4), type := 3, pos := "resolve.go:28", after := #[{ on := 5, ground := Ground.guard }], guard := some (5, false) }) (v := undef) rfl (by kernel_rfl) (by kernel_rfl) (by kernel_rfl) (fun _ _ _ h => h) (Or.inr ⟨by rfl, rfl⟩) (by assumption) ?_
      try simp only [Act.put, List.setIfInBounds_toArray, List.set_cons_zero, List.set_cons_succ]
      refine wpAnyH_take (i := 11) (oi := { dst := some 59, op := Op.call { callee := Callee.value (Operand.func 14), args := #[Operand.tmp 55, Operand.tmp 57, Operand.tmp 58], argTypes := #[3, 3, 3] }, type := 4, pos := "resolve.go:28", after := #[{ on := 7, ground := Ground.data }, { on := 9, ground := Ground.data }, { on := 10, ground := Ground.data }, { on := 5, ground := Ground.chain }, { on := 5, ground := Ground.guard }], guard := some (5, false) }) (v := undef) rfl (by kernel_rfl) (by kernel_rfl) (by kernel_rfl) (fun _ _ _ h => h) (Or.inr ⟨by rfl, rfl⟩) (by assumption) ?_
      try simp only [Act.put, List.setIfInBounds_toArray, List.set_cons_zero, List.set_cons_succ]
      refine wpAnyH_take (i := 12) (oi := { dst := some 60, op := Op.pick (Operand.tmp 53) (Operand.const (Value.bool true)) (Operand.tmp 59), type := 4, pos := "resolve.go:28", after := #[{ on := 5, ground := Ground.data }, { on := 11, ground := Ground.data }], guard := none }) (v := ?vr1x12) rfl (by kernel_rfl) (by kernel_rfl) (by kernel_rfl) (fun _ _ _ h => h) (Or.inl ⟨by rfl, ?hyr1x12⟩) (by assumption) ?_
      case hyr1x12 => (intro w hSw; (try dsimp only at hSw); go_simp; (try with_reducible rfl))
      try simp only [Act.put, List.setIfInBounds_toArray, List.set_cons_zero, List.set_cons_succ]
      refine wpAnyH_ready (rs := [13]) (by kernel_rfl) (by simp) ?_
      refine AllReadyH.cons (o := { dst := some 61, op := Op.call { callee := Callee.value (Operand.func 17), args := #[Operand.tmp 48, Operand.tmp 49, Operand.tmp 60], argTypes := #[25, 27, 4] }, type := 31, pos := "resolve.go:28", after := #[{ on := 0, ground := Ground.data }, { on := 1, ground := Ground.data }, { on := 12, ground := Ground.data }, { on := 11, ground := Ground.chain }], guard := none }) rfl (fun K hK => ?_) AllReadyH.nil
      go_simp
      go_at_call 17
      refine (HX.out _).mono ?_
      rintro e w2 ⟨rfl, hb2⟩
      have HL2 := HL1.out.drew.later hb2
      have HM2 := HM1.out.drew.later hb2
      have HZ2 := HZ1.out.drew.later hb2
      have HB2 := HB1.out.drew.trans (hb2.mono HB1.out.size)
      clear hb2
      obtain ⟨z0, z1, z2, z3, z4, z5, z6, z7⟩ := HZ2.all
      obtain ⟨f0, f1, f2, f3, f4, f5, f6, f7⟩ := HZ2.allF
      go_wp2_with fail
      clear hHeld
      refine hK.out _ _ ?hSr1x13 (fun hHeld => ?_)
      case hSr1x13 => (with_reducible exact sk_all HL2 HM2)
      clear hK K
      try simp only [Act.put, List.setIfInBounds_toArray, List.set_cons_zero, List.set_cons_succ]
      refine wpAnyH_take (i := 14) (oi := { dst := some 62, op := Op.extract (Operand.tmp 61) 0, type := 25, pos := "resolve.go:28", after := #[{ on := 13, ground := Ground.data }], guard := none }) (v := ?vr1x14) rfl (by kernel_rfl) (by kernel_rfl) (by kernel_rfl) (fun _ _ _ h => h) (Or.inl ⟨by rfl, ?hyr1x14⟩) (by assumption) ?_
      case hyr1x14 => (intro w hSw; (try dsimp only at hSw); go_simp; (try with_reducible rfl))
      try simp only [Act.put, List.setIfInBounds_toArray, List.set_cons_zero, List.set_cons_succ]
      refine wpAnyH_take (i := 15) (oi := { dst := some 63, op := Op.extract (Operand.tmp 61) 1, type := 4, pos := "resolve.go:28", after := #[{ on := 13, ground := Ground.data }], guard := none }) (v := ?vr1x15) rfl (by kernel_rfl) (by kernel_rfl) (by kernel_rfl) (fun _ _ _ h => h) (Or.inl ⟨by rfl, ?hyr1x15⟩) (by assumption) ?_
      case hyr1x15 => (intro w hSw; (try dsimp only at hSw); go_simp; (try with_reducible rfl))
      try simp only [Act.put, List.setIfInBounds_toArray, List.set_cons_zero, List.set_cons_succ]
      refine wpAnyH_ready (rs := [16]) (by kernel_rfl) (by simp) ?_
      refine AllReadyH.cons (o := { dst := none, op := Op.store 25 (Operand.tmp 10) (Operand.tmp 62), type := 0, pos := "resolve.go:28", after := #[{ on := 14, ground := Ground.data }, { on := 13, ground := Ground.chain }, { on := 0, ground := Ground.phase }, { on := 1, ground := Ground.phase }, { on := 2, ground := Ground.phase }, { on := 3, ground := Ground.phase }, { on := 4, ground := Ground.phase }, { on := 5, ground := Ground.phase }, { on := 6, ground := Ground.phase }, { on := 7, ground := Ground.phase }, { on := 8, ground := Ground.phase }, { on := 9, ground := Ground.phase }, { on := 10, ground := Ground.phase }, { on := 11, ground := Ground.phase }, { on := 12, ground := Ground.phase }, { on := 13, ground := Ground.phase }, { on := 14, ground := Ground.phase }, { on := 15, ground := Ground.phase }], guard := none }) rfl (fun K hK => ?_) AllReadyH.nil
      go_simp
      clear hHeld
      refine hK.out _ _ ?hSr1x16 (fun hHeld => ?_)
      case hSr1x16 => (with_reducible exact sk_store HL2 HM2)
      clear hK K
      try simp only [Act.put, List.setIfInBounds_toArray, List.set_cons_zero, List.set_cons_succ]
      refine wpAnyH_take (i := 17) (oi := { dst := some 11, op := Op.assign (Operand.tmp 63), type := 4, pos := "resolve.go:28", after := #[{ on := 15, ground := Ground.data }, { on := 16, ground := Ground.chain }, { on := 0, ground := Ground.phase }, { on := 1, ground := Ground.phase }, { on := 2, ground := Ground.phase }, { on := 3, ground := Ground.phase }, { on := 4, ground := Ground.phase }, { on := 5, ground := Ground.phase }, { on := 6, ground := Ground.phase }, { on := 7, ground := Ground.phase }, { on := 8, ground := Ground.phase }, { on := 9, ground := Ground.phase }, { on := 10, ground := Ground.phase }, { on := 11, ground := Ground.phase }, { on := 12, ground := Ground.phase }, { on := 13, ground := Ground.phase }, { on := 14, ground := Ground.phase }, { on := 15, ground := Ground.phase }, { on := 16, ground := Ground.phase }], guard := none }) (v := ?vr1x17) rfl (by kernel_rfl) (by kernel_rfl) (by kernel_rfl) (fun _ _ _ h => h) (Or.inl ⟨by rfl, ?hyr1x17⟩) (by assumption) ?_
      case hyr1x17 => (intro w hSw; (try dsimp only at hSw); go_simp; (try with_reducible rfl))
      try simp only [Act.put, List.setIfInBounds_toArray, List.set_cons_zero, List.set_cons_succ]
      refine wpAnyH_done (by kernel_rfl) ?_ _
      go_wp2
      exact take_end (W := w2) (q := r.1) (b := r.2) HZ2 HB2 (Nat.le_add_right _ 2) rfl rfl rfl
  · cases ov
    · go_enter Try.func9, Try.ntmps9
      go_upto_region 1 with fail
      rw [← HW0.out]
      go_wp2_with fail
      refine (HF.out _).mono ?_
      rintro e w1 ⟨rfl, hb1⟩
      have HL1 := Lib.hid (HL.out.later hb1)
      have HM1 := Lib.hid (HM.out.later hb1)
      have HZ1 := Lib.hid (HZ.out.later hb1)
      have HB1 := Lib.hid (HB.out.trans (hb1.mono HB.out.size))
      clear hb1 HL HM HZ HB HW0
      clear c0 c1 c2 c3 c4 c5 c6 c7
      clear m0 m1 m2 m3 m4 m5 m6 m7 m8 m9 m10
      obtain ⟨c0, c1, c2, c3, c4, c5, c6, c7⟩ := HL1.out.all
      obtain ⟨m0, m1, m2, m3, m4, m5, m6, m7, m8, m9, m10⟩ := HM1.out.all
      obtain ⟨z0, z1, z2, z3, z4, z5, z6, z7⟩ := HZ1.out.all
      obtain ⟨f0, f1, f2, f3, f4, f5, f6, f7⟩ := HZ1.out.allF
      go_wp2_with fail
      refine (HP.out _).mono ?_
      rintro e w' ⟨rfl, rfl⟩
      go_upto_region 11 with fail
      clear c0 c1 c2 c3 c4 c5 c6 c7 m0 m1 m2 m3 m4 m5 m6 m7 m8 m9 m10
      clear z0 z1 z2 z3 z4 z5 z6 z7 f0 f1 f2 f3 f4 f5 f6 f7
      go_region_held3 (fun w' => w'.cell? ⟨w.heap.size, 0, none⟩ = some (.int .u32 (l.addr : Int)) ∧ w'.cell? ⟨w.heap.size, 1, none⟩ = some (.int .i64 l.bind) ∧ w'.cell? ⟨w.heap.size, 2, none⟩ = some (.string l.cb) ∧ w'.cell? ⟨w.heap.size, 3, none⟩ = some (.int .i64 l.unt) ∧ w'.cell? ⟨w.heap.size, 4, none⟩ = some (.int .i64 l.acked) ∧ w'.cell? ⟨w.heap.size, 5, none⟩ = some (.int .i64 l.told) ∧ w'.cell? ⟨w.heap.size, 6, none⟩ = some (.int .i64 l.at_) ∧ w'.cell? ⟨w.heap.size, 7, none⟩ = some (.int .i64 l.ver) ∧ w'.cell? ⟨w.heap.size + 1, 0, none⟩ = some (.int .i64 m.kind) ∧ w'.cell? ⟨w.heap.size + 1, 1, none⟩ = some (.int .i64 m.life) ∧ w'.cell? ⟨w.heap.size + 1, 2, none⟩ = some (.int .i64 m.seen) ∧ w'.cell? ⟨w.heap.size + 1, 3, none⟩ = some (.int .i64 m.xid) ∧ w'.cell? ⟨w.heap.size + 1, 4, none⟩ = some (.int .i64 m.state) ∧ w'.cell? ⟨w.heap.size + 1, 5, none⟩ = some (.int .u32 (m.addr : Int)) ∧ w'.cell? ⟨w.heap.size + 1, 6, none⟩ = some (.int .i64 m.bind) ∧ w'.cell? ⟨w.heap.size + 1, 7, none⟩ = some (.string m.client) ∧ w'.cell? ⟨w.heap.size + 1, 8, none⟩ = some (.int .i64 m.pot) ∧ w'.cell? ⟨w.heap.size + 1, 9, none⟩ = some (.int .i64 m.at_) ∧ w'.cell? ⟨w.heap.size + 1, 10, none⟩ = some (.bool m.ok))
        (first | with_reducible exact sk_all HL1.out HM1.out | with_reducible exact sk_all HL1.out.drew HM1.out.drew | with_reducible exact sk_all HL2 HM2 | with_reducible exact sk_store HL2 HM2)
        (first
          | (go_at_call 14; (with_reducible refine (HQ.out _).mono ?_); rintro e w' ⟨rfl, rfl⟩)
          | (go_at_call 17; (with_reducible refine (HX.out _).mono ?_); rintro e w2 ⟨rfl, hb2⟩; have HL2 := (by first | exact HL1.out.later hb2 | exact HL1.out.drew.later hb2 : LBox w2 w.heap.size l); have HM2 := (by first | exact HM1.out.later hb2 | exact HM1.out.drew.later hb2 : MBox w2 (w.heap.size + 1) m); have HZ2 := (by first | exact HZ1.out.later hb2 | exact HZ1.out.drew.later hb2 : LBox w2 (w.heap.size + 1 + 1) zeroL); have HB2 := (by first | exact HB1.out.trans (hb2.mono HB1.out.size) | exact HB1.out.drew.trans (hb2.mono HB1.out.size) : Below w.heap.size w w2); obtain ⟨z0, z1, z2, z3, z4, z5, z6, z7⟩ := HZ2.all; obtain ⟨f0, f1, f2, f3, f4, f5, f6, f7⟩ := HZ2.allF))
      all_goals
        go_wp2
        exact take_end (W := w2) (q := r.1) (b := r.2) HZ2 HB2 (Nat.le_add_right _ 2) rfl rfl rfl
    · go_enter Try.func9, Try.ntmps9
      go_upto_region 1 with fail
      rw [← HW0.out]
      go_wp2_with fail
      refine (HF.out _).mono ?_
      rintro e w1 ⟨rfl, hb1⟩
      have HL1 := Lib.hid (HL.out.later hb1)
      have HM1 := Lib.hid (HM.out.later hb1)
      have HZ1 := Lib.hid (HZ.out.later hb1)
      have HB1 := Lib.hid (HB.out.trans (hb1.mono HB.out.size))
      clear hb1 HL HM HZ HB HW0
      clear c0 c1 c2 c3 c4 c5 c6 c7
      clear m0 m1 m2 m3 m4 m5 m6 m7 m8 m9 m10
      obtain ⟨c0, c1, c2, c3, c4, c5, c6, c7⟩ := HL1.out.all
      obtain ⟨m0, m1, m2, m3, m4, m5, m6, m7, m8, m9, m10⟩ := HM1.out.all
      obtain ⟨z0, z1, z2, z3, z4, z5, z6, z7⟩ := HZ1.out.all
      obtain ⟨f0, f1, f2, f3, f4, f5, f6, f7⟩ := HZ1.out.allF
      go_wp2_with fail
      refine (HP.out _).mono ?_
      rintro e w' ⟨rfl, rfl⟩
      go_wp2_with fail
      refine (HC.out _).mono ?_
      rintro e w' ⟨rfl, rfl⟩
      go_upto_region 11 with fail
      clear c0 c1 c2 c3 c4 c5 c6 c7 m0 m1 m2 m3 m4 m5 m6 m7 m8 m9 m10
      clear z0 z1 z2 z3 z4 z5 z6 z7 f0 f1 f2 f3 f4 f5 f6 f7
      go_region_held3 (fun w' => w'.cell? ⟨w.heap.size, 0, none⟩ = some (.int .u32 (l.addr : Int)) ∧ w'.cell? ⟨w.heap.size, 1, none⟩ = some (.int .i64 l.bind) ∧ w'.cell? ⟨w.heap.size, 2, none⟩ = some (.string l.cb) ∧ w'.cell? ⟨w.heap.size, 3, none⟩ = some (.int .i64 l.unt) ∧ w'.cell? ⟨w.heap.size, 4, none⟩ = some (.int .i64 l.acked) ∧ w'.cell? ⟨w.heap.size, 5, none⟩ = some (.int .i64 l.told) ∧ w'.cell? ⟨w.heap.size, 6, none⟩ = some (.int .i64 l.at_) ∧ w'.cell? ⟨w.heap.size, 7, none⟩ = some (.int .i64 l.ver) ∧ w'.cell? ⟨w.heap.size + 1, 0, none⟩ = some (.int .i64 m.kind) ∧ w'.cell? ⟨w.heap.size + 1, 1, none⟩ = some (.int .i64 m.life) ∧ w'.cell? ⟨w.heap.size + 1, 2, none⟩ = some (.int .i64 m.seen) ∧ w'.cell? ⟨w.heap.size + 1, 3, none⟩ = some (.int .i64 m.xid) ∧ w'.cell? ⟨w.heap.size + 1, 4, none⟩ = some (.int .i64 m.state) ∧ w'.cell? ⟨w.heap.size + 1, 5, none⟩ = some (.int .u32 (m.addr : Int)) ∧ w'.cell? ⟨w.heap.size + 1, 6, none⟩ = some (.int .i64 m.bind) ∧ w'.cell? ⟨w.heap.size + 1, 7, none⟩ = some (.string m.client) ∧ w'.cell? ⟨w.heap.size + 1, 8, none⟩ = some (.int .i64 m.pot) ∧ w'.cell? ⟨w.heap.size + 1, 9, none⟩ = some (.int .i64 m.at_) ∧ w'.cell? ⟨w.heap.size + 1, 10, none⟩ = some (.bool m.ok))
        (first | with_reducible exact sk_all HL1.out HM1.out | with_reducible exact sk_all HL1.out.drew HM1.out.drew | with_reducible exact sk_all HL2 HM2 | with_reducible exact sk_store HL2 HM2)
        (first
          | (go_at_call 14; (with_reducible refine (HQ.out _).mono ?_); rintro e w' ⟨rfl, rfl⟩)
          | (go_at_call 17; (with_reducible refine (HX.out _).mono ?_); rintro e w2 ⟨rfl, hb2⟩; have HL2 := (by first | exact HL1.out.later hb2 | exact HL1.out.drew.later hb2 : LBox w2 w.heap.size l); have HM2 := (by first | exact HM1.out.later hb2 | exact HM1.out.drew.later hb2 : MBox w2 (w.heap.size + 1) m); have HZ2 := (by first | exact HZ1.out.later hb2 | exact HZ1.out.drew.later hb2 : LBox w2 (w.heap.size + 1 + 1) zeroL); have HB2 := (by first | exact HB1.out.trans (hb2.mono HB1.out.size) | exact HB1.out.drew.trans (hb2.mono HB1.out.size) : Below w.heap.size w w2); obtain ⟨z0, z1, z2, z3, z4, z5, z6, z7⟩ := HZ2.all; obtain ⟨f0, f1, f2, f3, f4, f5, f6, f7⟩ := HZ2.allF))
      all_goals
        go_wp2
        exact take_end (W := w2) (q := r.1) (b := r.2) HZ2 HB2 (Nat.le_add_right _ 2) rfl rfl rfl
end Go.Proofs.Ytlbgkpkfjaggkaa
