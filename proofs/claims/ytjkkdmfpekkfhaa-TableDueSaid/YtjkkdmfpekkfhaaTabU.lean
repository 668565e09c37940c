/- The program's table: All, Of, Due. -/
import Derived.Test.YtjkkdmfpekkfhaaTabJ
import Derived.Test.YtjkkdmfpekkfhaaTabG
namespace Go.Proofs.Ytjkkdmfpekkfhaa
open Go.RowKit Go.Sort Go.Maps Go.Shelf Go.Lib

theorem byaddr_tells : TellsL 35 #[] cmpA := fun x y W => (byaddr_any x y W).mono fun e w' h => ⟨h.1, 0, #[lbox x, lbox y], by rw [h.2, alloc_eq_grow, alloc_eq_grow, grow_grow]; rfl⟩
theorem due2_tells : TellsL 37 #[] cmpD := fun x y W => due2_any x y W

/-- The two boxes of the iterator, laid now. -/
theorem iter_made {w1 : World} {g b : Nat} {S : Nat → Prop} {L : List LV} {fc : FuncId} {bs : Array Value} {p : LV → Bool} (hb : w1.heap[g]? = some (.cells #[.map (some b)] 66 (0, 0))) (hM : KL.Has w1 b L)
    (ht : TestsL S ((w1.alloc (.cells #[.pointer (some ⟨g, 0, none⟩)] 27)).alloc (.cells #[.func (.func fc) #[] bs] 50)) fc bs p) (eg : ∀ args w, (callFunc fc args).run Try.prog w = .ok (.enter fc args) w) (hS : ∀ k, S k → k < w1.heap.size) :
    Iter ((w1.alloc (.cells #[.pointer (some ⟨g, 0, none⟩)] 27)).alloc (.cells #[.func (.func fc) #[] bs] 50)) w1.heap.size (w1.heap.size + 1) g b S L fc bs p where
  tests := ht
  eg := eg
  lt := fun k hk => by have := hS k hk; simp; omega
  b1 := (Boxed.new w1 _ _).alloc _
  b2 := by have := Boxed.new (w1.alloc (.cells #[.pointer (some ⟨g, 0, none⟩)] 27)) 50 (.func (.func fc) #[] bs); rwa [World.size_alloc] at this
  tb := by
    have h1 := (Below.heap_alloc w1 (.cells #[.pointer (some ⟨g, 0, none⟩)] 27) g (Array.getElem?_eq_some_iff.1 hb).1).trans hb
    exact (Below.heap_alloc _ _ g (Array.getElem?_eq_some_iff.1 h1).1).trans h1
  has := (hM.alloc _).alloc _

set_option maxRecDepth 100000 in
set_option maxHeartbeats 1000000 in
theorem tall_any {w : World} {Q : Nat → Prop} {g : Nat} {L : List LV} (h : TT w Q g L) : Calls Try.prog 16 #[.pointer (some ⟨g, 0, none⟩)] w (GivesE w L) := by
  obtain ⟨b, h1, h2, h3, h4, h5, rfl⟩ := h
  have HI := Lib.hid (iter_made (w1 := w) (S := fun _ => False) (fc := 33) (bs := #[]) (p := fun _ => true) h1 h2 (all1_tests _) (enters_of Try.func33 (by kernel_rfl) rfl) (fun k hk => hk.elim))
  have HT := Lib.hid h3
  obtain ⟨w2, hw2⟩ : ∃ w2, w2 = (w.alloc (.cells #[.pointer (some ⟨g, 0, none⟩)] 27)).alloc (.cells #[.func (.func 33) #[] #[]] 50) := ⟨_, rfl⟩
  have HB : Hid (Below w.heap.size w w2) := Lib.hid (by rw [hw2]; exact ((Below.refl _ w).alloc (Nat.le_refl _) _).alloc (by simp) _)
  rw [← hw2] at HI
  have HW2 := Lib.hid hw2
  have HS := Lib.hid (sortedF_any HI.out (by omega) swoA (enters_of Try.func35 (by kernel_rfl) rfl) byaddr_tells)
  clear h1 h2 h3 h5 hw2 HI
  go_enter Try.func16, Try.ntmps16
  go_wp2_with (go_at_call 32; refine (those_any _ _ _ _).mono ?_; rintro e w' ⟨rfl, rfl⟩; rw [← HW2.out])
  refine HS.out.mono ?_
  rintro e w3 ⟨A, c, l', rfl, hp, hs, hr⟩
  have HL : Hid (l' = L) := Lib.hid (addr_only HT.out.up (by rwa [List.filter_eq_self.2 (fun _ _ => rfl)] at hp) hs)
  have HR := Lib.hid (hr.base HB.out)
  have HC : Hid (l'.length ≤ c) := Lib.hid (by obtain ⟨_, _, e, hc, _⟩ := hr.form; injection e with _ _ e3; subst e3; exact hc)
  clear hp hs hr
  go_wp2
  go_ret
  exact ⟨A, c, l', rfl, HL, HR.out, HC.out⟩

set_option maxRecDepth 100000 in
set_option maxHeartbeats 1000000 in
theorem tof_any {w : World} {Q : Nat → Prop} {g : Nat} {L : List LV} (s : ByteArray) (h : TT w Q g L) : Calls Try.prog 21 #[.pointer (some ⟨g, 0, none⟩), .string s] w (GivesE w (ofL L s.data.toList)) := by
  obtain ⟨b, h1, h2, h3, h4, h5, rfl⟩ := h
  obtain ⟨w1, hw1⟩ : ∃ w1, w1 = w.alloc (.cells #[.string s] 9) := ⟨_, rfl⟩
  have hB1 : Below w.heap.size w w1 := by rw [hw1]; exact (Below.refl _ w).alloc (Nat.le_refl _) _
  have hz1 : w1.heap.size = w.heap.size + 1 := by rw [hw1]; simp
  have hb1 : Boxed w1 w.heap.size 9 (.string s) := by rw [hw1]; exact Boxed.new w _ _
  have hg1 := (hB1.block g (Array.getElem?_eq_some_iff.1 h1).1).trans h1
  have hM1 := h2.block (hB1.block b h2.lt)
  have hb2 : Boxed ((w1.alloc (.cells #[.pointer (some ⟨g, 0, none⟩)] 27)).alloc (.cells #[.func (.func 40) #[] #[.pointer (some ⟨w.heap.size, 0, none⟩)]] 50)) w.heap.size 9 (.string s) := Boxed.alloc (Boxed.alloc hb1 _) _
  have ht2 := of1_tests hb2
  have HI := Lib.hid (iter_made hg1 hM1 ht2 (enters_of Try.func40 (by kernel_rfl) rfl) (fun k hk => by rw [hk, hz1]; omega))
  have HT := Lib.hid h3
  obtain ⟨w2, hw2⟩ : ∃ w2, w2 = (w1.alloc (.cells #[.pointer (some ⟨g, 0, none⟩)] 27)).alloc (.cells #[.func (.func 40) #[] #[.pointer (some ⟨w.heap.size, 0, none⟩)]] 50) := ⟨_, rfl⟩
  have HB : Hid (Below w.heap.size w w2) := Lib.hid (by rw [hw2]; exact (hB1.alloc hB1.size _).alloc (by have := hB1.size; simp; omega) _)
  rw [← hw2] at HI
  have HW1 := Lib.hid hw1
  have HW2 := Lib.hid hw2
  have HS := Lib.hid (sortedF_any HI.out (by omega) swoA (enters_of Try.func35 (by kernel_rfl) rfl) byaddr_tells)
  clear h1 h2 h3 h5 hw1 hw2 HI hB1 hb1 hg1 hM1 hb2 ht2 hz1
  go_enter Try.func21, Try.ntmps21
  go_upto_region 1 with fail
  rw [← HW1.out]
  go_wp2_with (go_at_call 32; refine (those_any _ _ _ _).mono ?_; rintro e w' ⟨rfl, rfl⟩; rw [← HW2.out])
  refine HS.out.mono ?_
  rintro e w3 ⟨A, c, l', rfl, hp, hs, hr⟩
  have HL : Hid (l' = ofL L s.data.toList) := Lib.hid (addr_only (HT.out.up.filter _) hp hs)
  have HR := Lib.hid (hr.base HB.out)
  have HC : Hid (l'.length ≤ c) := Lib.hid (by obtain ⟨_, _, e, hc, _⟩ := hr.form; injection e with _ _ e3; subst e3; exact hc)
  clear hp hs hr
  go_wp2
  go_ret
  exact ⟨A, c, l', rfl, HL, HR.out, HC.out⟩

set_option maxRecDepth 100000 in
set_option maxHeartbeats 1000000 in
theorem tdue_any {w : World} {Q : Nat → Prop} {g : Nat} {L : List LV} (now : Int) (h : TT w Q g L) : Calls Try.prog 17 #[.pointer (some ⟨g, 0, none⟩), .int .i64 now] w (GivesE w (dueL L now)) := by
  obtain ⟨b, h1, h2, h3, h4, h5, rfl⟩ := h
  obtain ⟨w1, hw1⟩ : ∃ w1, w1 = w.alloc (.cells #[.int .i64 now] 3) := ⟨_, rfl⟩
  have hB1 : Below w.heap.size w w1 := by rw [hw1]; exact (Below.refl _ w).alloc (Nat.le_refl _) _
  have hz1 : w1.heap.size = w.heap.size + 1 := by rw [hw1]; simp
  have hb1 : Boxed w1 w.heap.size 3 (.int .i64 now) := by rw [hw1]; exact Boxed.new w _ _
  have hg1 := (hB1.block g (Array.getElem?_eq_some_iff.1 h1).1).trans h1
  have hM1 := h2.block (hB1.block b h2.lt)
  have hb2 : Boxed ((w1.alloc (.cells #[.pointer (some ⟨g, 0, none⟩)] 27)).alloc (.cells #[.func (.func 36) #[] #[.pointer (some ⟨w.heap.size, 0, none⟩)]] 50)) w.heap.size 3 (.int .i64 now) := Boxed.alloc (Boxed.alloc hb1 _) _
  have ht2 := due1_tests hb2
  have HI := Lib.hid (iter_made hg1 hM1 ht2 (enters_of Try.func36 (by kernel_rfl) rfl) (fun k hk => by rw [hk, hz1]; omega))
  have HT := Lib.hid h3
  obtain ⟨w2, hw2⟩ : ∃ w2, w2 = (w1.alloc (.cells #[.pointer (some ⟨g, 0, none⟩)] 27)).alloc (.cells #[.func (.func 36) #[] #[.pointer (some ⟨w.heap.size, 0, none⟩)]] 50) := ⟨_, rfl⟩
  have HB : Hid (Below w.heap.size w w2) := Lib.hid (by rw [hw2]; exact (hB1.alloc hB1.size _).alloc (by have := hB1.size; simp; omega) _)
  rw [← hw2] at HI
  have HW1 := Lib.hid hw1
  have HW2 := Lib.hid hw2
  have HS := Lib.hid (sortedF_any HI.out (by omega) swoD (enters_of Try.func37 (by kernel_rfl) rfl) due2_tells)
  clear h1 h2 h3 h5 hw1 hw2 HI hB1 hb1 hg1 hM1 hb2 ht2 hz1
  go_enter Try.func17, Try.ntmps17
  go_upto_region 1 with fail
  rw [← HW1.out]
  go_wp2_with (go_at_call 32; refine (those_any _ _ _ _).mono ?_; rintro e w' ⟨rfl, rfl⟩; rw [← HW2.out])
  refine HS.out.mono ?_
  rintro e w3 ⟨A, c, l', rfl, hp, hs, hr⟩
  have HL : Hid (l' = dueL L now) := Lib.hid (due_sorted HT.out hp hs)
  have HR := Lib.hid (hr.base HB.out)
  have HC : Hid (l'.length ≤ c) := Lib.hid (by obtain ⟨_, _, e, hc, _⟩ := hr.form; injection e with _ _ e3; subst e3; exact hc)
  clear hp hs hr
  go_wp2
  go_ret
  exact ⟨A, c, l', rfl, HL, HR.out, HC.out⟩
end Go.Proofs.Ytjkkdmfpekkfhaa
