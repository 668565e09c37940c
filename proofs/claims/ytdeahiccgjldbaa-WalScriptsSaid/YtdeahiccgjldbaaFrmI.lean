/- frame.frames: the frames of bytes, one by one. -/
import Derived.Test.YtdeahiccgjldbaaRangeF
namespace Go.Proofs.Ytdeahiccgjldbaa
open Go.RowKit Go.Shelf
attribute [local go_sem] Oper.semAt_some

theorem grown_of_below {V V' : World} (hb : Below V.heap.size V V') : V.grownBy V' none := ⟨hb.os, hb.tape, hb.output, hb.size, fun i hi _ => hb.block i hi⟩
theorem wide_of {m : Nat} {P : Program} {f : FuncId} {args : Array Value} {w : World} {R : Ending → World → Prop} (h : Calls P f args w R) : CallsIn Fence.wide m P f args w R := callsIn_wide.2 h

theorem frames_any (A : Option Addr) (len cap : Nat) (w : World) :
    Calls Try.prog 40 #[.slice A len cap] w fun e w' => e = .returned (.func (.func 48) #[] #[.pointer (some ⟨w.heap.size, 0, none⟩)]) ∧ w' = w.alloc (.cells #[.slice A len cap] 40) := by
  go_enter Try.func40, Try.ntmps40
  go_wp2
  go_ret
  exact ⟨rfl, rfl⟩

/-- What a round keeps: every block below M but those from lo to hi. -/
def Kq (M lo hi : Nat) (V V' : World) : Prop := V.heap.size ≤ V'.heap.size ∧ ∀ k, k < M → ¬ (lo ≤ k ∧ k < hi) → V'.heap[k]? = V.heap[k]?
section
variable {M lo hi : Nat}
theorem Kq.refl (V : World) : Kq M lo hi V V := ⟨Nat.le_refl _, fun _ _ _ => rfl⟩
theorem kq_t {A B C : World} (h : Kq M lo hi A B) (k : Kq M lo hi B C) : Kq M lo hi A C := ⟨Nat.le_trans h.1 k.1, fun i h1 h2 => (k.2 i h1 h2).trans (h.2 i h1 h2)⟩
theorem kq_b {B : Nat} (hM : M ≤ B) (V : World) : Booked B (Kq M lo hi V) := fun V' l o o' h hl _ _ => ⟨by rw [World.putObj_size]; exact h.1, fun k h1 h2 => (World.putObj_heap_other (by omega)).trans (h.2 k h1 h2)⟩
theorem Kq.grown {V V' V2 : World} (h : Kq M lo hi V V') {row : Option Nat} (hg : V'.grownBy V2 row) (hM : M ≤ V'.heap.size) (hr : ∀ g, row = some g → M ≤ g ∨ (lo ≤ g ∧ g < hi)) : Kq M lo hi V V2 :=
  ⟨Nat.le_trans h.1 hg.size, fun k h1 h2 => (hg.block k (by omega) (fun e => by rcases hr k e.symm with h' | h' <;> omega)).trans (h.2 k h1 h2)⟩
theorem Kq.boxed {V V' : World} (h : Kq M lo hi V V') {k : Nat} {t : TypeId} {v : Value} (hb : Boxed V k t v) (h1 : k < M) (h2 : ¬ (lo ≤ k ∧ k < hi)) : Boxed V' k t v := (h.2 k h1 h2).trans hb
theorem Kq.by_ {n : Nat} {V V' : World} (h : Kq M lo hi V V') {A : Option Addr} {l : List UInt8} (ho : By V n A l) (hn : n ≤ lo) (hM : n ≤ M) : By V' n A l :=
  ho.keep fun p hp => World.cell?_of_block (h.2 p.block (by omega) (by omega))
theorem Kq.back {n : Nat} {V V' : World} (h : Kq M lo hi V V') {A : Option Addr} {l : List UInt8} (ho : By V' n A l) (hn : n ≤ lo) (hM : n ≤ M) : By V n A l :=
  ho.keep fun p hp => World.cell?_of_block (h.2 p.block (by omega) (by omega)).symm
end

/-- A record that lies in bytes which were there from the start, and where its frame ends. -/
abbrev Rec (w0 : World) := { x : Nat × SlV // By w0 w0.heap.size x.2.ad x.2.data ∧ x.2.data.length ≤ x.2.cap ∧ x.2.data.length ≤ 1048576 }
def encR {w0 : World} (x : Rec w0) : Array Value := #[.int .i64 (x.1.1 : Int), x.1.2.v]
def recs {w0 : World} (l : List (Rec w0)) : List (List UInt8) := l.map fun x => x.1.2.data
def lastE {w0 : World} (l : List (Rec w0)) : Nat := match l.getLast? with
  | some x => x.1.1
  | none => 0
theorem recs_snoc {w0 : World} (l : List (Rec w0)) (x : Rec w0) : recs (l ++ [x]) = recs l ++ [x.1.2.data] := by simp [recs]
theorem recs_length {w0 : World} (l : List (Rec w0)) : (recs l).length = l.length := by simp [recs]
theorem lastE_snoc {w0 : World} (l : List (Rec w0)) (x : Rec w0) : lastE (l ++ [x]) = x.1.1 := by simp [lastE]
theorem len_tot (l : List (List UInt8)) : l.length ≤ tot l := by
  induction l with
  | nil => exact Nat.zero_le _
  | cons r l ih => rw [tot_cons, List.length_cons]; omega

/-- All frames came. -/
def AllR (b : List UInt8) {w0 : World} (xs : List (Rec w0)) : Prop := recs xs = scanL b ∧ lastE xs = tot (scanL b)

set_option maxRecDepth 100000 in
set_option maxHeartbeats 2000000 in
theorem frames1_in (n : Nat) (hn : 1 ≤ n) (lp Bs M lo hi : Nat) (w0 : World) (A : Option Addr) (c : Nat) (b : List UInt8) (hb : b.length ≤ 1048576) (hcap : b.length ≤ c) (J Jx : List (Rec w0) → World → Prop)
    (W : World) (hM : M ≤ W.heap.size) (hBs : Bs < M ∧ hi ≤ Bs) (hlo : w0.heap.size ≤ lo) (h0M : w0.heap.size ≤ M) (hW0 : Below w0.heap.size w0 W) (hJa : AbidesFrom W.heap.size J)
    (hY : ∀ pre x V, J pre V → pre.length < b.length + 1 → YieldAt Fence.wide (n - 1) Try.prog lp (encR x) V fun e V' => (e = .returned (.bool true) ∧ J (pre ++ [x]) V' ∧ Kq M lo hi V V') ∨ (e = .returned (.bool false) ∧ Jx (pre ++ [x]) V'))
    (b1 : Boxed W Bs 40 (.slice A b.length c)) (hR : By w0 w0.heap.size A b) (h0 : J [] W) :
    CallsIn Fence.wide n Try.prog 48 #[.func (.yield lp) #[] #[], .pointer (some ⟨Bs, 0, none⟩)] W fun e V => (∃ v, e = .returned v) ∧ ((∃ xs, AllR b xs ∧ J xs V) ∨ (∃ pre, True ∧ Jx pre V)) := by
  refine callsIn_of_wp Try.func48 rfl trivial ?_ rfl
  simp only [Try.ntmps48, List.size_toArray, List.length_cons, List.length_nil, Nat.reduceAdd, Nat.reduceSub, Array.replicate_succ, Array.replicate_zero, List.push_toArray, List.append_toArray, List.nil_append, List.cons_append]
  gi_wp2
  gi_loopw [3] (fun iv V => ∃ (k : Nat) (pre : List (Rec w0)), k ≤ b.length ∧ iv = .int .i64 k ∧ k = tot (recs pre) ∧ lastE pre = k ∧ scanL b = recs pre ++ scanL (b.drop k) ∧ J pre V ∧ Kq M lo hi W V) (fun iv _ => b.length - (intOf iv).toNat)
  case atStart => exact ⟨0, [], Nat.zero_le _, rfl, rfl, rfl, rfl, h0, Kq.refl _⟩
  case round =>
    obtain ⟨k, pre, hk, rfl, hkt, hke, hsc, hJ, hK⟩ := hrel
    have hpl : pre.length < b.length + 1 := by have h1 := len_tot (recs pre); rw [recs_length] at h1; omega
    have HKT := Lib.hid hkt
    have HKE := Lib.hid hke
    have HSC := Lib.hid hsc
    clear hkt hke hsc
    have e1 := (hK.boxed b1 hBs.1 (by omega)).cell
    have hsl := run_tailB A b.length c (k : Int) (by omega) (by omega)
    have hbyk : By wr w0.heap.size (if c = (k : Int).toNat then A else A.map (·.add (k : Int).toNat)) (b.drop k) := hK.by_ ((hR.below hW0).cut hk hcap) hlo h0M
    have hlk : (b.drop k).length = b.length - (k : Int).toNat := by rw [List.length_drop]; omega
    have HFI := first_any w0.heap.size _ (c - (k : Int).toNat) (b.drop k) wr hbyk (by rw [hlk]; omega) (by rw [hlk]; omega)
    rw [hlk] at HFI
    have HFI := Lib.hid HFI
    clear hbyk
    generalize (if c = (k : Int).toNat then A else A.map (·.add (k : Int).toNat)) = A1 at *
    generalize hz1 : b.length - (k : Int).toNat = z1 at *
    generalize hz2 : c - (k : Int).toNat = z2 at *
    gi_wp2_with fail
    refine ⟨trivial, (wide_of HFI.out).mono ?_⟩
    rintro e w' ⟨⟨m, rfl⟩, (⟨hnone, rfl⟩ | ⟨r, A', c', hsome, rfl, hby, hrc⟩)⟩
    · have HN := Lib.hid (scan_none hnone)
      clear hnone
      have hb0 : Below wr.heap.size wr (wr.drewN m) := ⟨rfl, rfl, rfl, Nat.le_refl _, fun _ _ => rfl⟩
      have hJ2 : J pre (wr.drewN m) := hJa _ _ _ none hJ (grown_of_below hb0) (fun r e => by cases e)
      gi_wp2
      refine bodyPost_ret (results_none rfl _ _ _) rfl ?_
      refine ⟨⟨_, rfl⟩, .inl ⟨pre, ⟨?_, ?_⟩, hJ2⟩⟩
      · rw [HSC.out, HN.out, List.append_nil]
      · rw [HSC.out, HN.out, List.append_nil, HKE.out, HKT.out]
    · have hlr := first_len hsome
      rw [List.length_drop] at hlr
      have HN := Lib.hid (scan_some hsome)
      clear hsome
      have hb0 : Below wr.heap.size wr (wr.drewN m) := ⟨rfl, rfl, rfl, Nat.le_refl _, fun _ _ => rfl⟩
      have hJ2 : J pre (wr.drewN m) := hJa _ _ _ none hJ (grown_of_below hb0) (fun r e => by cases e)
      have hK2 : Kq M lo hi W (wr.drewN m) := hK.grown (grown_of_below hb0) (by have := hK.1; omega) (fun g e => by cases e)
      have hbyW : By W w0.heap.size A' r := hK.back hby hlo h0M
      have hby0 : By w0 w0.heap.size A' r := hbyW.keep fun p hp => (hW0.cell hp).symm
      have hrl : r.length ≤ 1048576 := by omega
      obtain ⟨x, hx⟩ : ∃ x : Rec w0, x = ⟨(k + (r.length + 3), ⟨A', c', r⟩), hby0, hrc, hrl⟩ := ⟨_, rfl⟩
      obtain ⟨fn, tmps, assign, body, hy0, hRr⟩ := hY pre x _ hJ2 hpl
      have hy : (Instr.yield lp #[.int .i64 ((k : Int) + (2 + (r.length : Int) + 1)), .slice A' r.length c']).run Try.prog (wr.drewN m) = .ok (.round lp fn tmps assign body) (wr.drewN m) := by
        have e : encR x = #[.int .i64 ((k : Int) + (2 + (r.length : Int) + 1)), .slice A' r.length c'] := by
          rw [hx]
          simp only [encR]
          rw [show ((k + (r.length + 3) : Nat) : Int) = (k : Int) + (2 + (r.length : Int) + 1) by omega]
        rw [← e]
        exact hy0
      have HX : Hid (x.1.1 = k + (r.length + 3) ∧ x.1.2.data = r) := by rw [hx]; exact ⟨rfl, rfl⟩
      clear hy0 hx
      gi_wp2
      refine hRr.mono ?_
      clear hRr hy
      rintro e W3 (⟨rfl, hJ3, hk3⟩ | ⟨rfl, hJx3⟩)
      · gi_wp2
        go_roundw
        case rel =>
          refine ⟨k + (r.length + 3), pre ++ [x], by omega, by go_num, ?_, ?_, ?_, hJ3, kq_t hK2 hk3⟩
          · rw [recs_snoc, tot_snoc, ← HKT.out, HX.out.2]
          · rw [lastE_snoc, HX.out.1]
          · rw [HSC.out, HN.out, recs_snoc, HX.out.2, List.drop_drop, List.append_assoc]
            rfl
        case measure => simp [intOf]; omega
      · gi_wp2
        refine bodyPost_ret (results_none rfl _ _ _) rfl ?_
        exact ⟨⟨_, rfl⟩, .inr ⟨_, trivial, hJx3⟩⟩

theorem frames_ends (n : Nat) (hn : 1 ≤ n) (Bs lo hi : Nat) (w0 : World) (A : Option Addr) (c : Nat) (b : List UInt8) (hb : b.length ≤ 1048576) (hcap : b.length ≤ c) (w : World)
    (hBs : Bs < w.heap.size ∧ hi ≤ Bs) (hlo : w0.heap.size ≤ lo) (hw : Below w0.heap.size w0 w) (b1 : Boxed w Bs 40 (.slice A b.length c)) (hR : By w0 w0.heap.size A b) :
    SeqEnds Fence.wide n Try.prog 48 #[.pointer (some ⟨Bs, 0, none⟩)] (encR (w0 := w0)) (Kq w.heap.size lo hi) (fun xs _ => AllR b xs) (fun _ _ => True) (b.length + 1) w := fun lp J Jx W hW hJ _ hY h0 =>
  frames1_in n hn lp Bs w.heap.size lo hi w0 A c b hb hcap J Jx W hW.size hBs hlo hw.size (hw.trans (hW.mono hw.size)) hJ hY ((hW.block _ hBs.1).trans b1) hR h0
end Go.Proofs.Ytdeahiccgjldbaa
