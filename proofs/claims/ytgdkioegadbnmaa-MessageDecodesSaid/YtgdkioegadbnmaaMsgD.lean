/- message.Decode. -/
import Derived.Test.YtgdkioegadbnmaaMsgE
import Derived.BigQuiet
namespace Go.Proofs.Ytgdkioegadbnmaa
open Go.RowKit Go.Sort

/-- A message and an error's number are answered; nothing that lay has turned. -/
def GivesM (w : World) (r : MsgV × Int) (e : Ending) (w' : World) : Prop := e = .returned (.tuple #[r.1.v, .int .i64 r.2]) ∧ Below w.heap.size w w'

theorem dec_results {W : World} {g : Nat} {q : MsgV} {k : Int} (hp : MBox W g q) (t : Array Value) (h2 : t[2]?.getD undef = .pointer (some ⟨g, 0, none⟩)) (h3 : t[3]?.getD undef = .int .i64 k) :
    (results Try.f14 t).run Try.prog W = .ok (.tuple #[q.v, .int .i64 k]) W := by
  obtain ⟨r0, r1, r2, r3, r4, r5, r6, r7, r8, r9, r10⟩ := hp.all
  simp [results, Try.f14, go_sem, h2, h3, r0, r1, r2, r3, r4, r5, r6, r7, r8, r9, r10]

theorem dec_len (s : List UInt8) (n : Int) : ∃ k : Nat, (decS s n 1 0 32).1 = k ∧ k ≤ 255 := by
  unfold decS
  split
  · exact ⟨0, rfl, by omega⟩
  · refine ⟨_, rfl, ?_⟩
    have := numL_lt (s.take 1)
    rw [List.length_take] at this
    have h2 : 256 ^ min 1 s.length ≤ 256 ^ 1 := Nat.pow_le_pow_right (by omega) (by omega)
    omega

theorem walk_decode (A : Option Addr) (c : Nat) (b : List UInt8) (w : World) (hb : By w w.heap.size A b) (hbc : b.length ≤ c) :
    Calls Try.prog 16 #[zeroM.v, .func (.func 21) #[] #[.pointer (some ⟨w.heap.size, 0, none⟩)]] (w.alloc (.cells #[.slice A b.length c] 27)) fun e w' =>
      e = .returned (decF b).v ∧ Below w.heap.size w w' := by
  have hI : decV (w.heap.size + 1) w.heap.size 290 (fun k => k < w.heap.size) b (w.alloc (.cells #[.slice A b.length c] 27)) :=
    ⟨A, c, heap_alloc_new w _, hb.below ((Below.refl _ _).alloc (Nat.le_refl _) _), hbc, by omega, by simp, by omega, fun k hk => by simp; omega⟩
  exact (walk_any (dec_steps (w.heap.size + 1) w.heap.size) zeroM (fits_all zeroM fun _ => trivial) b (fun s => dec_len s _) _ _ hI (by simp) (by decide)).mono fun e w' ⟨he, _, hk⟩ =>
    ⟨he, ((Below.refl _ w).alloc (Nat.le_refl _) _).trans (hk.below fun _ hk => hk)⟩

theorem dec_end {w W : World} {g : Nat} {b : List UInt8} {q : MsgV} {k : Int} {t : Array Value} (hz : MBox W g zeroM) (hB : Below w.heap.size w W) (hg : w.heap.size ≤ g) (hD : decM b = (q, k)) (h2 : t[2]?.getD undef = .pointer (some ⟨g, 0, none⟩)) (h3 : t[3]?.getD undef = .int .i64 k) :
    bodyPost Try.prog Try.f14 (GivesM w (decM b)) .ret { tmps := t, defers := [] } (storeM W g q) := by
  refine bodyPost_ret (v := .tuple #[q.v, .int .i64 k]) ?_ ?_ ?_
  · exact dec_results (storeM_box hz q) _ h2 h3
  · rfl
  · rw [hD]
    exact ⟨rfl, hB.trans ((storeM_kp W g q).below fun k hk => by show k ≠ g; omega)⟩

set_option maxRecDepth 100000 in
set_option maxHeartbeats 2000000 in
theorem decode_any (A : Option Addr) (c : Nat) (b : List UInt8) (w : World) (hb : By w w.heap.size A b) (hbc : b.length ≤ c) :
    Calls Try.prog 14 #[.slice A b.length c] w (GivesM w (decM b)) := by
  obtain ⟨w0, hw0⟩ : ∃ w0, w0 = w.alloc (.cells #[.int .i64 0, .int .i64 0, .int .i64 0, .int .i64 0, .int .i64 0, .int .u32 0, .int .i64 0, .string ⟨#[]⟩, .int .i64 0, .int .i64 0, .bool false] 25) := ⟨_, rfl⟩
  have HZ : Hid (MBox w0 w.heap.size zeroM) := Lib.hid (by rw [hw0]; exact MBox.new w zeroM)
  have HB0 : Hid (Below w.heap.size w w0) := Lib.hid (by rw [hw0]; exact (Below.refl _ _).alloc (Nat.le_refl _) _)
  have HY0 : Hid (By w0 w0.heap.size A b) := Lib.hid (hb.later HB0.out)
  have hz0 : w0.heap.size = w.heap.size + 1 := by rw [hw0]; simp
  have HC := walk_decode A c b w0 HY0.out hbc
  rw [hz0] at HC
  have HW0 := Lib.hid hw0
  have hmf : ∀ (fn : Fn) (first cap : Array Value) (w : World), (Instr.makeFunc fn first cap).run Try.prog w = .ok (.func fn first cap) w := fun _ _ _ _ => rfl
  obtain ⟨q, hq⟩ : ∃ q, q = decF b := ⟨_, rfl⟩
  have hqa : q.addr < 4294967296 := by rw [hq]; exact walk_addr b
  rw [← hq] at HC
  have HC := Lib.hid HC
  have HZ0 := Lib.hid hz0
  have HE := Lib.hid (fun W => encode_any q hqa W)
  have HD : Hid (decM b = if rightM q = true ∧ encM q = b then (q, 0) else (zeroM, 2)) := Lib.hid (by rw [hq]; rfl)
  clear hw0 hb hq hz0
  go_enter Try.func14, Try.ntmps14
  go_wp2_with fail
  rw [← HW0.out]
  refine HC.out.mono ?_
  rintro e w1 ⟨rfl, hB1⟩
  rw [← HZ0.out] at hB1
  have HB1 := Lib.hid (HB0.out.trans (hB1.mono HB0.out.size))
  have HY1 := Lib.hid (HY0.out.later hB1)
  have HZ1 := Lib.hid (HZ.out.later hB1)
  obtain ⟨w2, hw2⟩ : ∃ w2, w2 = w1.alloc (mbox q) := ⟨_, rfl⟩
  have hB2 : Below w1.heap.size w1 w2 := by rw [hw2]; exact (Below.refl _ _).alloc (Nat.le_refl _) _
  have HX2 : Hid (MBox w2 w1.heap.size q) := Lib.hid (by rw [hw2]; exact MBox.new w1 q)
  have HB2 := Lib.hid (HB1.out.trans (hB2.mono HB1.out.size))
  have HY2 := Lib.hid (HY1.out.later hB2)
  have HZ2 := Lib.hid (HZ1.out.later hB2)
  have HW2 := Lib.hid hw2
  clear hB1 hB2 hw2
  go_wp2_with fail
  rw [← HW2.out]
  cases hr : rightM q
  · have HR := Lib.hid (show encR q = ([], 1) by simp [encR, hr])
    simp only [HR.out] at HE
    have HDD := Lib.hid (show decM b = (zeroM, 2) by rw [HD.out, if_neg (by rw [hr]; simp)])
    refine (HE.out _).mono ?_
    rintro e w3 ⟨A3, c3, rfl, hby3, _, hB3⟩
    have HB3 := Lib.hid (HB2.out.trans (hB3.mono HB2.out.size))
    have HZ3 := Lib.hid (HZ2.out.later hB3)
    clear hr hB3 hby3
    obtain ⟨z0, z1, z2, z3, z4, z5, z6, z7, z8, z9, z10⟩ := HZ3.out.all
    have f0 := HZ3.out.free 0
    have f1 := HZ3.out.free 1
    have f2 := HZ3.out.free 2
    have f3 := HZ3.out.free 3
    have f4 := HZ3.out.free 4
    have f5 := HZ3.out.free 5
    have f6 := HZ3.out.free 6
    have f7 := HZ3.out.free 7
    have f8 := HZ3.out.free 8
    have f9 := HZ3.out.free 9
    have f10 := HZ3.out.free 10
    go_wp2
    exact dec_end (q := zeroM) (W := w3) HZ3.out HB3.out (Nat.le_refl _) HDD.out rfl rfl
  · have HR := Lib.hid (show encR q = (encM q, 0) by simp [encR, hr])
    simp only [HR.out] at HE
    refine (HE.out _).mono ?_
    rintro e w3 ⟨A3, c3, rfl, hby3, _, hB3⟩
    have HB3 := Lib.hid (HB2.out.trans (hB3.mono HB2.out.size))
    have HZ3 := Lib.hid (HZ2.out.later hB3)
    have HX3 := Lib.hid (HX2.out.later hB3)
    have hs1 := str_run c3 hby3
    have hs2 := str_run c (HY2.out.later hB3)
    clear hB3 hby3
    obtain ⟨z0, z1, z2, z3, z4, z5, z6, z7, z8, z9, z10⟩ := HZ3.out.all
    have f0 := HZ3.out.free 0
    have f1 := HZ3.out.free 1
    have f2 := HZ3.out.free 2
    have f3 := HZ3.out.free 3
    have f4 := HZ3.out.free 4
    have f5 := HZ3.out.free 5
    have f6 := HZ3.out.free 6
    have f7 := HZ3.out.free 7
    have f8 := HZ3.out.free 8
    have f9 := HZ3.out.free 9
    have f10 := HZ3.out.free 10
    by_cases hq : encM q = b
    · have HDD := Lib.hid (show decM b = (q, 0) by rw [HD.out, if_pos ⟨hr, hq⟩])
      have hself : (encM q == b) = true := by simpa using hq
      have hself2 : (encM q != b) = false := by simpa using hq
      clear hq hr HE HD
      generalize encM q = bl at hs1 hself hself2 ⊢
      obtain ⟨x0, x1, x2, x3, x4, x5, x6, x7, x8, x9, x10⟩ := HX3.out.all
      go_wp2
      exact dec_end (q := q) (W := w3) HZ3.out HB3.out (Nat.le_refl _) HDD.out rfl rfl
    · have HDD := Lib.hid (show decM b = (zeroM, 2) by rw [HD.out, if_neg (fun h => hq h.2)])
      have hself : (encM q == b) = false := by simpa using hq
      have hself2 : (encM q != b) = true := by simpa using hq
      clear hq hr HE HD
      generalize encM q = bl at hs1 hself hself2 ⊢
      go_wp2
      exact dec_end (q := zeroM) (W := w3) HZ3.out HB3.out (Nat.le_refl _) HDD.out rfl rfl
end Go.Proofs.Ytgdkioegadbnmaa
