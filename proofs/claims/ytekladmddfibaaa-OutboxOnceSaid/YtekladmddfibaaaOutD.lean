/- The program's box: Again, Len. -/
import Derived.Test.YtekladmddfibaaaOutB
import Derived.Test.YtekladmddfibaaaMapI
namespace Go.Proofs.Ytekladmddfibaaa
open Go.RowKit Go.Sort Go.Maps Go.Shelf
attribute [local go_sem] Oper.semAt_some

section
variable {w w' : World} {g bS bN bW : Nat} {P : Int → Nat} {B : BxV}
/-- One update is marked. -/
theorem TBt.mark (h : TBt w g bS bN bW P B) {x t : Int} (f : OutV → OutV) (hx : ∃ o ∈ B.l, o.m.xid = x) (hf : ∀ o, (f o).m = o.m) (h1 : ∀ o ∈ B.l, o.m.xid = x → atO (f o) = t) (h2 : ∀ o ∈ B.l, o.m.xid ≠ x → atO (f o) = atO o) :
    TBt (w.setCell ⟨P x, 11, none⟩ (.int .i64 t)) g bS bN bW P ⟨B.l.map f, B.w, B.xid⟩ := by
  obtain ⟨o, ho, hox⟩ := hx
  have hu := h.at_ o ho
  rw [hox] at hu
  have hb : ∀ k, k ≠ P x → (w.setCell ⟨P x, 11, none⟩ (.int .i64 t)).heap[k]? = w.heap[k]? := fun k hk => Below.heap_setCell w ⟨P x, 11, none⟩ _ k hk
  refine ⟨(hb g (fun e => by have := h.ug ho; rw [hox] at this; exact this e.symm)).trans h.box, ?_, ?_, ?_, ?_, ?_, h.sn, h.sw, h.nw⟩
  · rw [sF_map _ _ _ hf]
    exact h.s.block (hb bS (fun e => h.s.ne hu e.symm))
  · rw [nF_map _ _ hf]
    exact h.n.block (hb bN (fun e => h.n.ne hu e.symm))
  · exact h.w_.block (hb bW (fun e => h.w_.ne hu e.symm))
  · intro q hq
    obtain ⟨p, hp, rfl⟩ := List.mem_map.1 hq
    rw [hf]
    have h3 := h.at_ p hp
    by_cases hpx : p.m.xid = x
    · have h4 := h3.mark t
      rw [hpx] at h4 ⊢
      have e : atV (f p) = ⟨(atV p).m, t⟩ := by unfold atV; rw [hf, h1 p hp hpx]
      rw [e]
      exact h4
    · have e : atV (f p) = atV p := by unfold atV; rw [hf, h2 p hp hpx]
      rw [e]
      exact h3.block (hb _ (fun e2 => hpx ((h.inj p hp o ho (by rw [e2, hox])).trans hox)))
  · intro p hp q hq e
    obtain ⟨p', hp', rfl⟩ := List.mem_map.1 hp
    obtain ⟨q', hq', rfl⟩ := List.mem_map.1 hq
    rw [hf, hf] at e ⊢
    exact h.inj p' hp' q' hq' e
theorem tq_map (l : List OutV) (f : OutV → OutV) (hf : ∀ o, (f o).m = o.m) : TQ g bS bN bW P (l.map f) = TQ g bS bN bW P l := by
  funext k
  unfold TQ
  have e : (∃ o ∈ l.map f, k = P o.m.xid) = ∃ o ∈ l, k = P o.m.xid := by
    apply propext
    constructor
    · rintro ⟨o, ho, e⟩
      obtain ⟨p, hp, rfl⟩ := List.mem_map.1 ho
      rw [hf] at e
      exact ⟨p, hp, e⟩
    · rintro ⟨p, hp, e⟩
      exact ⟨f p, List.mem_map.2 ⟨p, hp, rfl⟩, by rw [hf]; exact e⟩
  rw [e]
end

/-- What is left is as it was, all else is to be sent. -/
def leftF (R : List (Int × Nat)) (o : OutV) : OutV := if (R.any fun p => p.1 == o.m.xid) = true then o else ⟨o.m, -1⟩
theorem left_m (R : List (Int × Nat)) (o : OutV) : (leftF R o).m = o.m := by unfold leftF; split <;> rfl
def markF (x : Int) (o : OutV) : OutV := if o.m.xid = x then ⟨o.m, -1⟩ else o
theorem mark_m (x : Int) (o : OutV) : (markF x o).m = o.m := by unfold markF; split <;> rfl
theorem left_mark (R1 R2 : List (Int × Nat)) (p : Int × Nat) (hn : ∀ q ∈ R1 ++ R2, q.1 ≠ p.1) (o : OutV) : markF p.1 (leftF (R1 ++ p :: R2) o) = leftF (R1 ++ R2) o := by
  unfold markF
  rw [left_m]
  by_cases h : o.m.xid = p.1
  · rw [if_pos h]
    unfold leftF
    rw [if_neg]
    rw [List.any_eq_true]
    rintro ⟨q, hq, e⟩
    exact hn q hq (by rw [← h]; simpa using e)
  · rw [if_neg h]
    unfold leftF
    have e : (p.1 == o.m.xid) = false := by simpa using fun e => h e.symm
    rw [List.any_append, List.any_append, List.any_cons, e, Bool.false_or]

set_option maxRecDepth 100000 in
set_option maxHeartbeats 2000000 in
theorem oagain_in (n : Nat) {w : World} {g bS bN bW : Nat} {P : Int → Nat} {B : BxV} (h : TBt w g bS bN bW P B) :
    CallsIn Fence.wide n Try.prog 27 #[.pointer (some ⟨g, 0, none⟩)] w fun e w' => e = .returned (.tuple #[]) ∧ TBt w' g bS bN bW P B.again ∧ Way (TQ g bS bN bW P B.l) w (TQ g bS bN bW P B.l) w' := by
  obtain ⟨S, hS, hR, hSm⟩ := h.s.ex
  have HSM := Lib.hid hSm
  have HD := Lib.hid h
  have c0 := h.cS
  have HM := Lib.hid hS
  clear hS hR hSm h
  refine callsIn_of_wp Try.func27 rfl trivial ?_ rfl
  simp only [Try.ntmps27, List.size_toArray, List.length_cons, List.length_nil, Nat.reduceAdd, Nat.reduceSub, Array.replicate_succ, Array.replicate_zero, List.push_toArray, List.append_toArray, List.nil_append, List.cons_append]
  gi_wp2_with (first
    | (gi_at_range; refine wpListIn_rangeM FS.K HM.out rfl _ rfl rfl ?_; intro w0 hgo hg0 hs0)
    | gi_in)
  have hb0 : Below w.heap.size w w0 := below_of_grown hg0 (Nat.le_refl _) (by simp)
  have HD0 := Lib.hid (HD.out.later hb0)
  have HW0 : Hid (Way (TQ g bS bN bW P B.l) w (TQ g bS bN bW P B.l) w0) := Lib.hid (Way.of_below hb0)
  have HG0 := Lib.hid hgo
  obtain ⟨r, hr⟩ : ∃ r, r = w.heap.size := ⟨_, rfl⟩
  have HRR := Lib.hid hr
  rw [← hr] at HG0 ⊢
  clear hr hgo hg0 hs0 hb0 c0
  go_frame
  gi_loopw [3] (fun _ wr => ∃ R : List (Int × Nat), FS.K.Goes wr bS r S R ∧ Hid (TBt wr g bS bN bW P ⟨B.l.map (leftF R), B.w, B.xid⟩) ∧ Hid (Way (TQ g bS bN bW P B.l) w (TQ g bS bN bW P B.l) wr)) (fun _ wr => wr.rangeLeft bS r)
  case atStart =>
    refine ⟨S, HG0.out, Lib.hid ?_, HW0⟩
    have e : B.l.map (leftF S) = B.l := by
      conv => rhs; rw [← List.map_id B.l]
      refine List.map_congr_left fun o ho => ?_
      unfold leftF
      rw [if_pos]
      · rfl
      · refine List.any_eq_true.2 ⟨(o.m.xid, P o.m.xid), (HSM.out _ _).1 (sF_iff.2 ⟨⟨o, ho, rfl⟩, rfl⟩), by simp⟩
    rw [e]
    exact HD0.out
  case round =>
    obtain ⟨R, hgo, HT, HY⟩ := hrel
    have HG := Lib.hid hgo
    have c0 := HT.out.cS
    clear hgo
    gi_wp2_with (first
      | (gi_at_next; refine wpListIn_nextM FS.K HG.out rfl _ rfl rfl ?_ ?_)
      | gi_in)
    · intro hR0
      subst hR0
      gi_wp2
      first | go_end0 | refine bodyPost_ret (results_none rfl _ _ _) rfl ?_
      refine ⟨rfl, ?_, HY.out⟩
      have e : B.l.map (leftF []) = B.l.map fun o => ⟨o.m, -1⟩ := rfl
      have h1 := HT.out
      rw [e] at h1
      exact h1
    · intro xk xp R1 R2 w2 hR hgo2 hg2 hs2 hen hlt
      subst hR
      have hxm : (xk, xp) ∈ S := HG.out.sub (xk, xp) (by simp)
      obtain ⟨⟨o, ho, hox⟩, hpx⟩ := sF_iff.1 ((HSM.out xk xp).2 hxm)
      have hT2 : TBt w2 g bS bN bW P ⟨B.l.map (leftF (R1 ++ (xk, xp) :: R2)), B.w, B.xid⟩ := HT.out.keep (KpT.of_grown hg2 HT.out.lt (fun k e hk => by
        injection e with e
        rw [tq_map _ _ (left_m _)] at hk
        have := HD.out.lt k hk
        have := HRR.out
        omega))
      have hO2 : OthT (TQ g bS bN bW P B.l) w w2 := ⟨hg2.os.trans HY.out.oth.os, hg2.tape.trans HY.out.oth.tape, hg2.output.trans HY.out.oth.output, Nat.le_trans HY.out.oth.size hg2.size, fun k hk hn => (hg2.block k (Nat.lt_of_lt_of_le hk HY.out.oth.size) (fun e => by
        injection e with e
        have := HRR.out
        omega)).trans (HY.out.oth.block k hk hn)⟩
      have hen2 : (Instr.entry (.pointer (some ⟨r, 0, none⟩))).run Try.prog w2 = .ok (.tuple #[.int .i64 xk, .pointer (some ⟨xp, 0, none⟩)]) w2 := hen
      have hu := hT2.at_ _ (List.mem_map.2 ⟨o, ho, rfl⟩)
      rw [left_m, hox, hpx] at hu
      have u11 := hu.all.2
      have f11 := hu.free 11
      have hT3 : Hid (TBt (w2.setCell ⟨xp, 11, none⟩ (.int .i64 (-3))) g bS bN bW P ⟨B.l.map (leftF (R1 ++ R2)), B.w, B.xid⟩) := Lib.hid (by
        have h1 := hT2.mark (x := xk) (t := -3) (markF xk) ⟨_, List.mem_map.2 ⟨o, ho, rfl⟩, by rw [left_m]; exact hox⟩ (mark_m xk) (fun q _ e => by unfold markF; rw [if_pos e]; rfl) (fun q _ e => by unfold markF; rw [if_neg e])
        rw [hpx] at h1
        have hnd : ∀ q ∈ R1 ++ R2, q.1 ≠ xk := by
          have h2 := HG.out.nd
          rw [List.pairwise_append, List.pairwise_cons] at h2
          obtain ⟨-, ⟨h3, -⟩, h4⟩ := h2
          intro q hq e
          rcases List.mem_append.1 hq with hq | hq
          · exact h4 q hq (xk, xp) (by simp) e
          · exact h3 q hq e.symm
        have e : (B.l.map (leftF (R1 ++ (xk, xp) :: R2))).map (markF xk) = B.l.map (leftF (R1 ++ R2)) := by
          rw [List.map_map]
          refine List.map_congr_left fun q _ => ?_
          exact left_mark R1 R2 (xk, xp) hnd q
        rw [← e]
        exact h1)
      have HY3 : Hid (Way (TQ g bS bN bW P B.l) w (TQ g bS bN bW P B.l) (w2.setCell ⟨xp, 11, none⟩ (.int .i64 (-3)))) := Lib.hid ⟨hO2.trans' (fun _ h => .inl h) (OthT.set w2 xp 11 _ (.inr (.inr (.inr (.inr ⟨o, ho, by rw [hox, hpx]⟩))))), fun _ h => .inl h⟩
      have HG3 : Hid (FS.K.Goes (w2.setCell ⟨xp, 11, none⟩ (.int .i64 (-3))) bS r S (R1 ++ R2)) := Lib.hid (hgo2.walks FS.K (KeepsWalks.setCell w2 _ _))
      have HLT : Hid ((w2.setCell ⟨xp, 11, none⟩ (.int .i64 (-3))).rangeLeft bS r < wr.rangeLeft bS r) := Lib.hid (by
        rw [MapKd.Goes.left_walks FS.K hgo2 (KeepsWalks.setCell w2 _ _)]
        exact hlt)
      clear hxm ho hox hpx hT2 hO2 hen hu hgo2 hg2 hs2 hlt HG HT HY c0
      gi_wp2
      go_roundw
      case rel => exact ⟨R1 ++ R2, HG3.out, hT3, HY3⟩
      case measure => exact HLT.out

set_option maxRecDepth 100000 in
set_option maxHeartbeats 2000000 in
theorem olen_in (n : Nat) (hn : 1 ≤ n) {w : World} {g bS bN bW : Nat} {P : Int → Nat} {B : BxV} (h : TBt w g bS bN bW P B) (hok : B.Ok) :
    CallsIn Fence.wide n Try.prog 12 #[.pointer (some ⟨g, 0, none⟩)] w fun e w' => e = .returned (.int .i64 ((B.len : Nat) : Int)) ∧ Below w.heap.size w w' := by
  obtain ⟨S, hS, hR, hSm⟩ := h.w_.ex
  have hlen := hok.len
  have hnl := fun ty => h.n.len (B.l.map fun o => o.m.addr) (List.pairwise_map.2 hok.onceL) (fun a => by
    rw [nF_is, out_mem, List.mem_map]) ty
  simp only [List.length_map] at hnl
  have hnl : ∀ ty, (Builtin.len_ #[52] ty #[.map (some bN)]).run Try.prog w = .ok (.int .i64 B.l.length) w := hnl
  have HPERM : Hid ((S.map Prod.fst).Perm (B.w.map MsgV.addr)) := Lib.hid ((List.perm_ext_iff_of_nodup (FnKd.keys_nodup hS.2) (List.pairwise_map.2 hok.onceW)).2 fun a => by
    rw [List.mem_map, List.mem_map]
    constructor
    · rintro ⟨p, hp, rfl⟩
      obtain ⟨h1, h2⟩ := wF_some ((hSm p.1 p.2).2 hp)
      exact ⟨p.2, h1, h2⟩
    · rintro ⟨m, hm, rfl⟩
      cases hf : wF B.w m.addr with
      | none => exact absurd rfl (wF_none hf m hm)
      | some q => exact ⟨(m.addr, q), (hSm _ _).1 hf, rfl⟩)
  have hSl : S.length ≤ 4294967296 := by
    have := HPERM.out.length_eq
    rw [List.length_map, List.length_map] at this
    rw [this]
    exact hok.lenW
  have HCNT : Hid (S.countP (fun p => ! B.out p.1) = B.w.countP fun m => ! B.out m.addr) := Lib.hid (by
    have h1 := HPERM.out.countP_eq (fun a => ! B.out a)
    rw [List.countP_map, List.countP_map] at h1
    exact h1)
  have HLOW : Hid (∀ p ∈ S, p.1 < 4294967296) := Lib.hid (fun p hp => by have h1 := (hR p hp).2; have h1 : (p.1 : Int) < 4294967296 := h1; omega)
  have HD := Lib.hid h
  have c1 := h.cN
  have c2 := h.cW
  have HM := Lib.hid hS
  clear hS hR hSm h hok
  refine callsIn_of_wp Try.func12 rfl trivial ?_ rfl
  simp only [Try.ntmps12, List.size_toArray, List.length_cons, List.length_nil, Nat.reduceAdd, Nat.reduceSub, Array.replicate_succ, Array.replicate_zero, List.push_toArray, List.append_toArray, List.nil_append, List.cons_append]
  gi_wp2_with (first
    | (gi_at_range; refine wpListIn_rangeM FW.K HM.out rfl _ rfl rfl ?_; intro w0 hgo hg0 hs0)
    | gi_in)
  have hb0 : Below w.heap.size w w0 := below_of_grown hg0 (Nat.le_refl _) (by simp)
  have HB0 := Lib.hid hb0
  have HG0 := Lib.hid hgo
  obtain ⟨r, hr⟩ : ∃ r, r = w.heap.size := ⟨_, rfl⟩
  have HRR := Lib.hid hr
  rw [← hr] at HG0 ⊢
  clear hr hgo hg0 hs0 hb0 c1 c2 hnl
  go_frame
  gi_loopw [3, 4] (fun c _ wr => ∃ (R : List (Nat × MsgV)) (k : Nat), FW.K.Goes wr bW r S R ∧ c = .int .i64 ((B.l.length : Int) + (k : Int)) ∧ k + R.length ≤ S.length ∧ Hid (k + R.countP (fun p => ! B.out p.1) = S.countP fun p => ! B.out p.1) ∧ Hid (Below w.heap.size w wr)) (fun _ _ wr => wr.rangeLeft bW r)
  case atStart => exact ⟨S, 0, HG0.out, by simp, by omega, Lib.hid (by simp), HB0⟩
  case round =>
    obtain ⟨R, k, hgo, rfl, hk, HK, HB⟩ := hrel
    have HG := Lib.hid hgo
    clear hgo
    gi_wp2_with (first
      | (gi_at_next; refine wpListIn_nextM FW.K HG.out rfl _ rfl rfl ?_ ?_)
      | gi_in)
    · intro hR0
      subst hR0
      have HI : Hid ((B.l.length : Int) + (k : Int) = ((B.len : Nat) : Int)) := Lib.hid (by
        have h1 := HK.out
        have h2 := HCNT.out
        simp at h1
        unfold BxV.len
        rw [← h2, ← h1]
        simp)
      gi_wp2
      go_ret
      rw [HI.out]
      exact ⟨rfl, HB.out⟩
    · intro ak am R1 R2 w2 hR hgo2 hg2 hs2 hen hlt
      subst hR
      have hxm : (ak, am) ∈ S := HG.out.sub (ak, am) (by simp)
      have hal := HLOW.out _ hxm
      have hb2 : Below w.heap.size w w2 := HB.out.grown hg2 HB.out.size (fun k e => by
        injection e with e
        have := HRR.out
        omega)
      have hen2 : (Instr.entry (.pointer (some ⟨r, 0, none⟩))).run Try.prog w2 = .ok (.tuple #[.int .u32 (ak : Int), am.v]) w2 := hen
      have HO := Lib.hid (oout_any ak hal (HD.out.later hb2))
      have HG2 := Lib.hid hgo2
      have HLT := Lib.hid hlt
      have HB2 := Lib.hid hb2
      have hkl : k + (R1.length + R2.length) + 1 ≤ S.length := by
        rw [List.length_append, List.length_cons] at hk
        omega
      have HKK : Hid (k + (R1.countP (fun p => ! B.out p.1) + (R2.countP (fun p => ! B.out p.1) + if (! B.out ak) = true then 1 else 0)) = S.countP fun p => ! B.out p.1) := Lib.hid (by
        have := HK.out
        rw [List.countP_append, List.countP_cons] at this
        exact this)
      clear hxm hal hb2 hen hgo2 hg2 hs2 hlt HG HB HK hk
      gi_wp2_with fail
      refine ⟨trivial, (wideI HO.out).mono ?_⟩
      rintro e w3 ⟨rfl, rfl⟩
      cases hq : B.out ak
      · rw [hq] at HKK
        have HK2 : Hid ((k + 1) + (R1 ++ R2).countP (fun p => ! B.out p.1) = S.countP fun p => ! B.out p.1) := Lib.hid (by
          have h1 := HKK.out
          simp only [Bool.not_false, if_pos] at h1
          rw [List.countP_append]
          omega)
        clear hq hen2
        gi_wp2
        go_roundw
        case rel => exact ⟨R1 ++ R2, k + 1, HG2.out, by go_num, by rw [List.length_append]; omega, HK2, HB2⟩
        case measure => exact HLT.out
      · rw [hq] at HKK
        have HK2 : Hid (k + (R1 ++ R2).countP (fun p => ! B.out p.1) = S.countP fun p => ! B.out p.1) := Lib.hid (by
          have h1 := HKK.out
          simp only [Bool.not_true, Bool.false_eq_true, if_neg, not_false_eq_true] at h1
          rw [List.countP_append]
          omega)
        clear hq hen2
        gi_wp2
        go_roundw
        case rel => exact ⟨R1 ++ R2, k, HG2.out, rfl, by rw [List.length_append]; omega, HK2, HB2⟩
        case measure => exact HLT.out

theorem oagain_any {w : World} {g bS bN bW : Nat} {P : Int → Nat} {B : BxV} (h : TBt w g bS bN bW P B) :
    Calls Try.prog 27 #[.pointer (some ⟨g, 0, none⟩)] w fun e w' => e = .returned (.tuple #[]) ∧ TBt w' g bS bN bW P B.again ∧ Way (TQ g bS bN bW P B.l) w (TQ g bS bN bW P B.l) w' := callsIn_wide.1 (oagain_in 2 h)
theorem olen_any {w : World} {g bS bN bW : Nat} {P : Int → Nat} {B : BxV} (h : TBt w g bS bN bW P B) (hok : B.Ok) :
    Calls Try.prog 12 #[.pointer (some ⟨g, 0, none⟩)] w fun e w' => e = .returned (.int .i64 ((B.len : Nat) : Int)) ∧ Below w.heap.size w w' := callsIn_wide.1 (olen_in 2 (by omega) h hok)
end Go.Proofs.Ytekladmddfibaaa
