/- The disk of the code: Append, Sync, Swap. -/
import Derived.Test.YtdeahiccgjldbaaDskG
namespace Go.Proofs.Ytdeahiccgjldbaa
open Go.RowKit Go.Shelf

/-- What a change answers, and what the disk came to hold. -/
def Ans (ty : TypeId) (base : Nat) (w : World) (D : Nat) (v : Value) (r : Int × DS) (e : Ending) (w' : World) : Prop :=
  e = .returned (.int .i64 r.1) ∧ Did ty base w D v w' r.2

/-- Bytes that lie in none of the disk's blocks. -/
def ByO (w : World) (D : Nat) (v : Value) (A : Option Addr) (l : List UInt8) : Prop :=
  ∀ i x, l[i]? = some x → ∃ b o, A = some ⟨b, o, none⟩ ∧ Oth w D v b ∧ w.cell? ⟨b, o + i, none⟩ = some (bV x)
theorem ByO.by_ {w : World} {D : Nat} {v : Value} {A : Option Addr} {l : List UInt8} (h : ByO w D v A l) : By w w.heap.size A l :=
  ⟨fun i x hx => by obtain ⟨b, o, h1, h2, h3⟩ := h i x hx; exact ⟨b, o, h1, h2.1, h3⟩⟩
theorem ByO.kp {w w1 : World} {D : Nat} {v : Value} {A : Option Addr} {l : List UInt8} (h : ByO w D v A l) (hk : Kp (Oth w D v) w w1) : ByO w1 D v A l :=
  fun i x hx => by
    obtain ⟨b, o, h1, h2, h3⟩ := h i x hx
    exact ⟨b, o, h1, ⟨Nat.lt_of_lt_of_le h2.1 hk.size, h2.2⟩, (World.cell?_of_block (hk.block b h2)).trans h3⟩
theorem ByO.of {w : World} {B D : Nat} {v : Value} {A : Option Addr} {l : List UInt8} (h : By w B A l) (hB : ∀ k, k < B → Oth w D v k) : ByO w D v A l :=
  fun i x hx => by obtain ⟨b, o, h1, h2, h3⟩ := h.at_ i x hx; exact ⟨b, o, h1, hB b h2, h3⟩

/-- A box that is laid now. -/
theorem Bx.new {ty : TypeId} {base : Nat} {w : World} {D : Nat} {s : DS} {v : Value} (h : DAt ty base w D s v) (u : Value) (t : TypeId) : Bx (w.alloc (.cells #[u] t)) D v w.heap.size u t :=
  ⟨heap_alloc_new w _, fun e => by have := h.dlt; omega, fun e => by have := (h.ob _ e).2; omega⟩

set_option maxRecDepth 100000 in
set_option maxHeartbeats 1000000 in
theorem sync_any {base : Nat} {w : World} {D : Nat} {s : DS} {v : Value} (h : DAt DT base w D s v) (ho : s.Ok) :
    Calls Try.prog 22 #[ptr D] w (Ans DT base w D v (syncD s)) := by
  have hen : ∀ args w, (callFunc 39 args).run Try.prog w = .ok (.enter 39 args) w := enters_of Try.func39 (by kernel_rfl) rfl
  have hW := h.alloc (.cells #[ptr D] 25)
  have hB := Bx.new h (ptr D) 25
  have hK : Kp (Oth w D v) w (w.alloc (.cells #[ptr D] 25)) := Oth.alloc (Kp.refl _ _) _
  have HC := Lib.hid (change_any hW ho 39 #[ptr w.heap.size] hen (fun n w' => n = (syncD s).1 ∧ Did DT base (w.alloc (.cells #[ptr D] 25)) D v w' (syncD s).2)
    (fun h0 => by unfold syncD; rw [if_pos h0]; exact ⟨rfl, Did.refl hW⟩)
    (fun h0 w1 h1 hk1 _ => (sync1_any h1 (hB.kp hk1)).mono fun e w' ⟨n, e1, e2, e3⟩ => ⟨n, e1, by unfold syncD; rw [if_neg h0]; exact e2, by unfold syncD; rw [if_neg h0]; exact Did.after hk1 e3⟩))
  have HK := Lib.hid hK
  clear hW hB hK hen h
  go_enter Try.func22, Try.ntmps22
  go_wp2_with fail
  refine HC.out.mono ?_
  rintro e w' ⟨n, rfl, rfl, hd⟩
  go_wp2
  go_ret
  exact ⟨rfl, Did.after HK.out hd⟩

set_option maxRecDepth 100000 in
set_option maxHeartbeats 1000000 in
theorem append_any {base : Nat} {w : World} {D : Nat} {s : DS} {v : Value} (h : DAt DT base w D s v) (ho : s.Ok) {A : Option Addr} {c : Nat} {b : List UInt8} (hA : ByO w D v A b) :
    Calls Try.prog 37 #[ptr D, .slice A b.length c] w (Ans DT base w D v (appD s b)) := by
  have hen : ∀ args w, (callFunc 47 args).run Try.prog w = .ok (.enter 47 args) w := enters_of Try.func47 (by kernel_rfl) rfl
  obtain ⟨W1, hW1⟩ : ∃ W1, W1 = w.alloc (.cells #[ptr D] 25) := ⟨_, rfl⟩
  have h1 : DAt DT base W1 D s v := by rw [hW1]; exact h.alloc _
  have hz1 : W1.heap.size = w.heap.size + 1 := by rw [hW1]; exact Array.size_push _
  have hB1 : Bx W1 D v w.heap.size (ptr D) 25 := by rw [hW1]; exact Bx.new h _ _
  have hk1 : Kp (Oth w D v) w W1 := by rw [hW1]; exact Oth.alloc (Kp.refl _ _) _
  obtain ⟨W2, hW2⟩ : ∃ W2, W2 = W1.alloc (.cells #[.slice A b.length c] 40) := ⟨_, rfl⟩
  have h2 : DAt DT base W2 D s v := by rw [hW2]; exact h1.alloc _
  have hk2' : Kp (Oth W1 D v) W1 W2 := by rw [hW2]; exact Oth.alloc (Kp.refl _ _) _
  have hB2 : Bx W2 D v w.heap.size (ptr D) 25 := hB1.kp hk2'
  have hC2 : Bx W2 D v (w.heap.size + 1) (.slice A b.length c) 40 := by rw [hW2, ← hz1]; exact Bx.new h1 _ _
  have hk2 : Kp (Oth w D v) w W2 := hk1.trans (hk2'.weak fun k hk => ⟨by have := hk.1; omega, hk.2⟩)
  have hA2 : ByO W2 D v A b := hA.kp hk2
  have HC := Lib.hid (change_any h2 ho 47 #[ptr (w.heap.size + 1), ptr w.heap.size] hen (fun n w' => n = (appD s b).1 ∧ Did DT base W2 D v w' (appD s b).2)
    (fun h0 => by unfold appD; rw [if_pos h0]; exact ⟨rfl, Did.refl h2⟩)
    (fun h0 w1 h1 hk _ => (append1_any h1 (DS.count_ok ho) (b := b) (c := c) (hA2.kp hk).by_ (hC2.kp hk) (hB2.kp hk)).mono fun e w' ⟨n, e1, e2⟩ => ⟨n, e1, by
      unfold appD
      rw [if_neg h0]
      rcases e2 with ⟨q1, q2, q3⟩ | ⟨q1, q2, q3⟩
      · rw [if_pos (show s.room < s.bs.length + b.length from q1)]
        exact ⟨q2, Did.after hk q3⟩
      · rw [if_neg (show ¬ s.room < s.bs.length + b.length from q1)]
        exact ⟨q2, Did.after hk q3⟩⟩))
  have HK := Lib.hid hk2
  have HW1 := Lib.hid hW1
  have HW2 := Lib.hid hW2
  clear hk2 hW1 hW2 h1 h2 hB1 hB2 hC2 hA2 hk1 hk2' hz1 hen h hA
  go_enter Try.func37, Try.ntmps37
  go_wp2_with fail
  rw [← HW1.out, ← HW2.out]
  refine HC.out.mono ?_
  rintro e w' ⟨n, rfl, rfl, hd⟩
  go_wp2
  go_ret
  exact ⟨rfl, Did.after HK.out hd⟩

set_option maxRecDepth 100000 in
set_option maxHeartbeats 1000000 in
theorem swap_any {base : Nat} {w : World} {D : Nat} {s : DS} {v : Value} (h : DAt DT base w D s v) (ho : s.Ok) {A : Option Addr} {c : Nat} {b : List UInt8} (hA : ByO w D v A b) :
    Calls Try.prog 26 #[ptr D, .slice A b.length c] w (Ans DT base w D v (swapD s b)) := by
  have hen : ∀ args w, (callFunc 42 args).run Try.prog w = .ok (.enter 42 args) w := enters_of Try.func42 (by kernel_rfl) rfl
  obtain ⟨W1, hW1⟩ : ∃ W1, W1 = w.alloc (.cells #[ptr D] 25) := ⟨_, rfl⟩
  have h1 : DAt DT base W1 D s v := by rw [hW1]; exact h.alloc _
  have hz1 : W1.heap.size = w.heap.size + 1 := by rw [hW1]; exact Array.size_push _
  have hB1 : Bx W1 D v w.heap.size (ptr D) 25 := by rw [hW1]; exact Bx.new h _ _
  have hk1 : Kp (Oth w D v) w W1 := by rw [hW1]; exact Oth.alloc (Kp.refl _ _) _
  obtain ⟨W2, hW2⟩ : ∃ W2, W2 = W1.alloc (.cells #[.slice A b.length c] 40) := ⟨_, rfl⟩
  have h2 : DAt DT base W2 D s v := by rw [hW2]; exact h1.alloc _
  have hk2' : Kp (Oth W1 D v) W1 W2 := by rw [hW2]; exact Oth.alloc (Kp.refl _ _) _
  have hB2 : Bx W2 D v w.heap.size (ptr D) 25 := hB1.kp hk2'
  have hC2 : Bx W2 D v (w.heap.size + 1) (.slice A b.length c) 40 := by rw [hW2, ← hz1]; exact Bx.new h1 _ _
  have hk2 : Kp (Oth w D v) w W2 := hk1.trans (hk2'.weak fun k hk => ⟨by have := hk.1; omega, hk.2⟩)
  have hA2 : ByO W2 D v A b := hA.kp hk2
  have HC := Lib.hid (change_any h2 ho 42 #[ptr (w.heap.size + 1), ptr w.heap.size] hen (fun n w' => n = (swapD s b).1 ∧ Did DT base W2 D v w' (swapD s b).2)
    (fun h0 => by unfold swapD; rw [if_pos h0]; exact ⟨rfl, Did.refl h2⟩)
    (fun h0 w1 h1 hk _ => (swap1_any h1 (DS.count_ok ho) (b := b) (c := c) (hA2.kp hk).by_ (hC2.kp hk) (hB2.kp hk)).mono fun e w' ⟨n, e1, e2⟩ => ⟨n, e1, by
      unfold swapD
      rw [if_neg h0]
      rcases e2 with ⟨q1, q2, q3⟩ | ⟨q1, q2, q3⟩
      · rw [if_pos (show s.room < b.length from q1)]
        exact ⟨q2, Did.after hk q3⟩
      · rw [if_neg (show ¬ s.room < b.length from q1)]
        exact ⟨q2, Did.after hk q3⟩⟩))
  have HK := Lib.hid hk2
  have HW1 := Lib.hid hW1
  have HW2 := Lib.hid hW2
  clear hk2 hW1 hW2 h1 h2 hB1 hB2 hC2 hA2 hk1 hk2' hz1 hen h hA
  go_enter Try.func26, Try.ntmps26
  go_wp2_with fail
  rw [← HW1.out, ← HW2.out]
  refine HC.out.mono ?_
  rintro e w' ⟨n, rfl, rfl, hd⟩
  go_wp2
  go_ret
  exact ⟨rfl, Did.after HK.out hd⟩

end Go.Proofs.Ytdeahiccgjldbaa
