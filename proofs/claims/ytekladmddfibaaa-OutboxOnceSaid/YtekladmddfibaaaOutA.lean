/- The program's box: New, out, Busy, Last. -/
import Derived.Test.YtekladmddfibaaaOutP
namespace Go.Proofs.Ytekladmddfibaaa
open Go.RowKit Go.Sort Go.Maps

theorem fw_look {w : World} {b : Nat} {W : List MsgV} (h : FW.Holds w b (wF W)) (a : Nat) (ha : a < 4294967296) : (Instr.lookup 67 (.map (some b)) (.int .u32 (a : Int)) true).run Try.prog w = .ok (.tuple #[((wF W a).getD zeroM).v, .bool (wF W a).isSome]) w := by
  have := h.look_ok a (wf_u32o ha)
  rw [show FW.valF (wF W a) = ((wF W a).getD zeroM).v by cases wF W a <;> rfl] at this
  exact this
theorem fn_look {w : World} {b : Nat} {f : Nat → Option Int} (h : FN.Holds w b f) (a : Nat) (ha : a < 4294967296) : (Instr.lookup 52 (.map (some b)) (.int .u32 (a : Int)) true).run Try.prog w = .ok (.tuple #[.int .i64 ((f a).getD 0), .bool (f a).isSome]) w := by
  have := h.look_ok a (wf_u32o ha)
  rw [show FN.valF (f a) = .int .i64 ((f a).getD 0) by cases f a <;> rfl] at this
  exact this

set_option maxRecDepth 100000 in
theorem onew_any (w : World) : Calls Try.prog 9 #[] w fun e w' => ∃ Q g, e = .returned (.pointer (some ⟨g, 0, none⟩)) ∧ TB w' Q g newB ∧ Below w.heap.size w w' ∧ ∀ b, Q b → w.heap.size ≤ b := by
  have hmm := @run_makeMap Try.prog
  go_enter Try.func9, Try.ntmps9
  go_wp2
  go_ret
  have s1 : (w.alloc (.map #[] 0)).heap.size = w.heap.size + 1 := World.size_alloc _ _
  have s2 : ((w.alloc (.map #[] 0)).alloc (.map #[] 0)).heap.size = w.heap.size + 1 + 1 := by rw [World.size_alloc, s1]
  have s3 : (((w.alloc (.map #[] 0)).alloc (.map #[] 0)).alloc (.map #[] 0)).heap.size = w.heap.size + 1 + 1 + 1 := by rw [World.size_alloc, s2]
  have m1 := FnKd.Holds.made FS w
  have m2 := FnKd.Holds.made FN (w.alloc (.map #[] 0))
  have m3 := FnKd.Holds.made FW ((w.alloc (.map #[] 0)).alloc (.map #[] 0))
  rw [s1] at m2
  rw [s2] at m3
  have hS : sF newB.l (fun _ => 0) = fun _ => none := rfl
  have hN : nF newB.l = fun _ => none := rfl
  have hW : wF newB.w = fun _ => none := rfl
  have hg := heap_alloc_new (((w.alloc (.map #[] 0)).alloc (.map #[] 0)).alloc (.map #[] 0)) (.cells #[.map (some w.heap.size), .map (some (w.heap.size + 1)), .map (some (w.heap.size + 1 + 1)), .int .i64 0] 69)
  rw [s3] at hg
  have hT : TBt ((((w.alloc (.map #[] 0)).alloc (.map #[] 0)).alloc (.map #[] 0)).alloc (.cells #[.map (some w.heap.size), .map (some (w.heap.size + 1)), .map (some (w.heap.size + 1 + 1)), .int .i64 0] 69)) (w.heap.size + 1 + 1 + 1) w.heap.size (w.heap.size + 1) (w.heap.size + 1 + 1) (fun _ => 0) newB :=
    ⟨hg, by
      rw [hS]
      exact ((m1.kept (World.grownBy_alloc _ _ none) (by simp)).kept (World.grownBy_alloc _ _ none) (by simp)).kept (World.grownBy_alloc _ _ none) (by simp), by
      rw [hN]
      exact (m2.kept (World.grownBy_alloc _ _ none) (by simp)).kept (World.grownBy_alloc _ _ none) (by simp), by
      rw [hW]
      exact m3.kept (World.grownBy_alloc _ _ none) (by simp), (fun o ho => by cases ho), (fun o ho => by cases ho), by omega, by omega, by omega⟩
  refine ⟨_, _, rfl, ⟨_, _, _, _, hT, new_ok, rfl⟩, ((((Below.refl _ w).alloc (Nat.le_refl _) _).alloc (by rw [s1]; omega) _).alloc (by rw [s2]; omega) _).alloc (by rw [s3]; omega) _, ?_⟩
  rintro b (rfl | rfl | rfl | rfl | ⟨o, ho, -⟩)
  · omega
  · omega
  · omega
  · omega
  · cases ho

set_option maxRecDepth 100000 in
theorem oout_any {w : World} {g bS bN bW : Nat} {P : Int → Nat} {B : BxV} (a : Nat) (ha : a < 4294967296) (h : TBt w g bS bN bW P B) :
    Calls Try.prog 33 #[.pointer (some ⟨g, 0, none⟩), .int .u32 (a : Int)] w fun e w' => e = .returned (.bool (B.out a)) ∧ w = w' := by
  have c1 := h.cN
  have hlk := fn_look h.n a ha
  rw [nF_is] at hlk
  generalize (nF B.l a).getD 0 = n at hlk
  clear h
  go_enter Try.func33, Try.ntmps33
  go_wp2
  go_ret
  exact ⟨rfl, rfl⟩

set_option maxRecDepth 100000 in
theorem obusy_any {w : World} {g bS bN bW : Nat} {P : Int → Nat} {B : BxV} (a : Nat) (ha : a < 4294967296) (h : TBt w g bS bN bW P B) :
    Calls Try.prog 15 #[.pointer (some ⟨g, 0, none⟩), .int .u32 (a : Int)] w fun e w' => e = .returned (.bool (B.busy a)) ∧ Below w.heap.size w w' := by
  have c2 := h.cW
  have hlk := fw_look h.w_ a ha
  have HIS : Hid (B.busy a = ((wF B.w a).isSome || B.out a)) := Lib.hid (by
    unfold BxV.busy wF
    congr 1
    rw [Bool.eq_iff_iff, List.find?_isSome, List.any_eq_true])
  generalize (wF B.w a).getD zeroM = m at hlk
  have HT := Lib.hid (fun W (hb : Below w.heap.size w W) => oout_any a ha (h.later hb))
  clear h
  cases hq : (wF B.w a).isSome
  · rw [hq] at hlk HIS
    clear hq
    go_enter Try.func15, Try.ntmps15
    go_wp2_with fail
    refine (HT.out _ ((Below.refl _ _).alloc (Nat.le_refl _) _)).mono ?_
    rintro e w' ⟨rfl, rfl⟩
    go_wp2
    go_ret
    rw [HIS.out]
    exact ⟨by simp, (Below.refl _ _).alloc (Nat.le_refl _) _⟩
  · rw [hq] at hlk HIS
    clear hq
    go_enter Try.func15, Try.ntmps15
    go_wp2
    go_ret
    rw [HIS.out]
    exact ⟨by simp, (Below.refl _ _).alloc (Nat.le_refl _) _⟩

set_option maxRecDepth 100000 in
theorem olast_any {w : World} {g bS bN bW : Nat} {P : Int → Nat} {B : BxV} (h : TBt w g bS bN bW P B) :
    Calls Try.prog 14 #[.pointer (some ⟨g, 0, none⟩)] w fun e w' => e = .returned (.int .i64 B.xid) ∧ Below w.heap.size w w' := by
  have c3 := h.x
  clear h
  go_enter Try.func14, Try.ntmps14
  go_wp2
  go_ret
  exact ⟨rfl, Below.refl _ _⟩
end Go.Proofs.Ytekladmddfibaaa
