/- message.Right, Encode, Decode. -/
import Derived.Test.YtfikdocpcepmmaaMsgP
import Derived.Lib.QuietBelow
import Derived.BigQuiet
import Derived.Deep.QuietTactic
namespace Go.Proofs.Ytfikdocpcepmmaa
open Go.RowKit Go.Sort
attribute [local go_sem ↓] run_eqlC run_neqC run_guardC

/-- Its cells, in every world of a quiet walk. -/
theorem MBox.allR {w : World} {g : Nat} {m : MsgV} (h : MBox w g m) : (∀ (d : Nat) (os : Array Obj), (grow (redrawn w d) os).cell? ⟨g, 0, none⟩ = some (.int .i64 m.kind)) ∧ (∀ (d : Nat) (os : Array Obj), (grow (redrawn w d) os).cell? ⟨g, 1, none⟩ = some (.int .i64 m.life)) ∧ (∀ (d : Nat) (os : Array Obj), (grow (redrawn w d) os).cell? ⟨g, 2, none⟩ = some (.int .i64 m.seen)) ∧ (∀ (d : Nat) (os : Array Obj), (grow (redrawn w d) os).cell? ⟨g, 3, none⟩ = some (.int .i64 m.xid)) ∧ (∀ (d : Nat) (os : Array Obj), (grow (redrawn w d) os).cell? ⟨g, 4, none⟩ = some (.int .i64 m.state)) ∧ (∀ (d : Nat) (os : Array Obj), (grow (redrawn w d) os).cell? ⟨g, 5, none⟩ = some (.int .u32 (m.addr : Int))) ∧ (∀ (d : Nat) (os : Array Obj), (grow (redrawn w d) os).cell? ⟨g, 6, none⟩ = some (.int .i64 m.bind)) ∧ (∀ (d : Nat) (os : Array Obj), (grow (redrawn w d) os).cell? ⟨g, 7, none⟩ = some (.string m.client)) ∧ (∀ (d : Nat) (os : Array Obj), (grow (redrawn w d) os).cell? ⟨g, 8, none⟩ = some (.int .i64 m.pot)) ∧ (∀ (d : Nat) (os : Array Obj), (grow (redrawn w d) os).cell? ⟨g, 9, none⟩ = some (.int .i64 m.at_)) ∧ (∀ (d : Nat) (os : Array Obj), (grow (redrawn w d) os).cell? ⟨g, 10, none⟩ = some (.bool m.ok)) :=
  ⟨cell_regrown h.c0, cell_regrown h.c1, cell_regrown h.c2, cell_regrown h.c3, cell_regrown h.c4, cell_regrown h.c5, cell_regrown h.c6, cell_regrown h.c7, cell_regrown h.c8, cell_regrown h.c9, cell_regrown h.c10⟩

theorem fits_all {N : Int → Prop} (m : MsgV) (h : ∀ n, N n) : Fits N m := ⟨h _, h _, h _, h _, h _, h _, h _, h _, h _, h _, h _, fun _ => h _⟩

theorem walk_limit (m : MsgV) (ha : m.addr < 4294967296) (w : World) :
    Calls Try.prog 27 #[m.v, .func (.func 28) #[] #[]] w fun e w' => e = .returned (walkG limS () m).1.v ∧ Below w.heap.size w w' :=
  (walk_any (limit_steps w.heap.size) m (fits_all m fun _ => trivial) () (fun _ => ⟨(limI (m.client.size : Int) 0 32).toNat, by show limI _ 0 32 = _; unfold limI; omega, by unfold limI; omega⟩) (fun k => k < w.heap.size) w (fun _ hk => hk) (Nat.le_refl _) ha).mono
    fun _ _ ⟨he, _, hk⟩ => ⟨he, hk.below fun _ hk => hk⟩

set_option maxRecDepth 100000 in
set_option maxHeartbeats 2000000 in
theorem right_any (m : MsgV) (ha : m.addr < 4294967296) (w : World) :
    Calls Try.prog 23 #[m.v] w fun e w' => e = .returned (.bool (rightM m)) ∧ Below w.heap.size w w' := by
  have HR := Lib.hid (show decide ((walkG limS () m).1 = m) = rightM m by unfold rightM; rw [decide_eq_decide]; exact walk_lim m ha)
  obtain ⟨q, hq⟩ : ∃ q, q = (walkG limS () m).1 := ⟨_, rfl⟩
  rw [← hq] at HR
  have HW : Hid (∀ W, Calls Try.prog 27 #[m.v, .func (.func 28) #[] #[]] W fun e w' => e = .returned q.v ∧ Below W.heap.size W w') := Lib.hid (fun W => by rw [hq]; exact walk_limit m ha W)
  obtain ⟨w0, hw0⟩ : ∃ w0, w0 = w.alloc (mbox m) := ⟨_, rfl⟩
  have HX : Hid (MBox w0 w.heap.size m) := Lib.hid (by rw [hw0]; exact MBox.new w m)
  have HB0 : Hid (Below w.heap.size w w0) := Lib.hid (by rw [hw0]; exact (Below.refl _ _).alloc (Nat.le_refl _) _)
  have HW0 := Lib.hid hw0
  have HQ := Lib.hid ((eqB_of q m).trans HR.out)
  have CW := Lib.hid (fun d os => Calls.regrown_of (HW.out (grow (redrawn w0 d) os)))
  obtain ⟨k0, k1, k2, k3, k4, k5, k6, k7, k8, k9, k10⟩ := HX.out.allR
  clear hq hw0
  go_enter Try.func23, Try.ntmps23
  go_wp2
  rw [← HW0.out]
  refine wp_region_quiet_below (by kernel_rfl) (by kernel_rfl) ?_
  repeat (quiet_step ((go_at_call 27; exact CW.out _ _)))
  refine wpQuiet_nil ?_
  intro _ hw'
  obtain ⟨⟨dq, osq⟩, hw''⟩ := hw'
  subst hw''
  go_wp2
  go_ret
  rw [HQ.out]
  exact ⟨rfl, HB0.out.trans ((below_regrown w0 dq osq).mono HB0.out.size)⟩
end Go.Proofs.Ytfikdocpcepmmaa
