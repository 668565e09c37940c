/- Steps of a log in memory; long. -/
import Derived.Test.YtdeahiccgjldbaaWalN
namespace Go.Proofs.Ytdeahiccgjldbaa
open Go.RowKit

/-- The slice at A reads as the steps l, and lies below block B, with all their bytes and records. -/
structure St (w : World) (B : Nat) (A : Option Addr) (l : List StV) : Prop where
  at_ : ∀ i x, l[i]? = some x → ∃ b o, A = some ⟨b, o, none⟩ ∧ b < B ∧ w.cell? ⟨b, o + i * 4, none⟩ = some (.int .i64 x.do_) ∧ w.cell? ⟨b, o + i * 4 + 1, none⟩ = some (.int .i64 x.n) ∧ w.cell? ⟨b, o + i * 4 + 2, none⟩ = some (.slice x.ad x.data.length x.cap) ∧ w.cell? ⟨b, o + i * 4 + 3, none⟩ = some (.slice x.lad x.rows.length x.lcap)
  data : ∀ x ∈ l, By w B x.ad x.data
  rows : ∀ x ∈ l, Ls w B x.lad x.rows
  num : ∀ x ∈ l, x.n ≤ 9223372036854775807

section
variable {w w' : World} {B : Nat} {A : Option Addr} {l : List StV}
theorem St.nil : St w B A [] := ⟨fun i x h => by simp at h, fun x h => by simp at h, fun x h => by simp at h, fun x h => by simp at h⟩
theorem St.keep (h : St w B A l) (hk : ∀ p : Addr, p.block < B → w'.cell? p = w.cell? p) : St w' B A l :=
  ⟨fun i x hx => by
    obtain ⟨b, o, rfl, hb, h1, h2, h3, h4⟩ := h.at_ i x hx
    exact ⟨b, o, rfl, hb, (hk _ hb).trans h1, (hk _ hb).trans h2, (hk _ hb).trans h3, (hk _ hb).trans h4⟩, fun x hx => (h.data x hx).keep hk, fun x hx => (h.rows x hx).keep hk, h.num⟩
theorem St.below (h : St w B A l) (hb : Below B w w') : St w' B A l := h.keep fun _ hp => hb.cell hp
end

/-- Have steps more bytes than a test should? -/
def bigW (x : StV) : Bool := decide (1100 < x.data.length) || decide (20 < x.rows.length)
def longW (l : List StV) : Bool := l.any bigW || decide (80 < l.length)
theorem longW_false {l : List StV} (h : longW l = false) : l.length ≤ 80 ∧ ∀ x ∈ l, x.data.length ≤ 1100 ∧ x.rows.length ≤ 20 := by
  unfold longW at h
  rw [Bool.or_eq_false_iff] at h
  refine ⟨by have := of_decide_eq_false h.2; omega, fun x hx => ?_⟩
  have := List.any_eq_false.1 h.1 x hx
  simp [bigW] at this
  exact this

set_option maxRecDepth 100000 in
set_option maxHeartbeats 1000000 in
theorem long_any {A : Option Addr} {c : Nat} {l : List StV} {w : World} {B : Nat} (h : St w B A l) (hl : l.length ≤ 9223372036854775807) (hd : ∀ x ∈ l, x.data.length ≤ 9223372036854775807 ∧ x.rows.length ≤ 9223372036854775807) :
    Calls Try.prog 9 #[.slice A l.length c] w fun e w' => e = .returned (.bool (longW l)) ∧ w = w' := by
  have H := Lib.hid h
  have HD := Lib.hid hd
  clear h hd
  go_enter Try.func9, Try.ntmps9
  go_wp2
  go_loop [3] (fun i => ∃ k : Nat, k ≤ l.length ∧ i = .int .i64 k ∧ Hid (∀ x ∈ l.take k, ¬ bigW x)) (fun i => l.length - (intOf i).toNat)
  case atStart => exact ⟨0, Nat.zero_le _, rfl, fun x hx => by simp at hx⟩
  case round =>
    obtain ⟨k, hk, rfl, hall⟩ := hrel
    by_cases hlt : k < l.length
    · obtain ⟨x, hx⟩ : ∃ x, l[k]? = some x := ⟨_, List.getElem?_eq_getElem hlt⟩
      obtain ⟨b, o, rfl, _, c0, c1, c2, c3⟩ := H.out.at_ k x hx
      have HX := Lib.hid hx
      have HAll := Lib.hid hall
      have Hlt := Lib.hid hlt
      have yes : bigW x = true → longW l = true := fun e => by
        unfold longW
        rw [List.any_eq_true.2 ⟨x, List.mem_of_getElem? hx, e⟩]
        rfl
      have HYes := Lib.hid yes
      clear hx hall yes
      by_cases hbig : 1100 < x.data.length
      · have d : decide (1100 < (x.data.length : Int)) = true := decide_eq_true (by omega)
        go_wp2
        go_ret
        rw [HYes.out (by unfold bigW; rw [decide_eq_true hbig]; rfl)]
        exact ⟨rfl, rfl⟩
      · have d : decide (1100 < (x.data.length : Int)) = false := decide_eq_false (by omega)
        have HBig := Lib.hid hbig
        clear hbig
        by_cases hrow : 20 < x.rows.length
        · have d2 : decide (20 < (x.rows.length : Int)) = true := decide_eq_true (by omega)
          go_wp2
          go_ret
          rw [HYes.out (by unfold bigW; rw [decide_eq_true hrow, Bool.or_true])]
          exact ⟨rfl, rfl⟩
        · have d2 : decide (20 < (x.rows.length : Int)) = false := decide_eq_false (by omega)
          have HRow := Lib.hid hrow
          clear hrow
          go_wp2
          go_round
          case rel =>
            refine ⟨k + 1, Hlt.out, by go_num, fun y hy => ?_⟩
            rw [take_snoc_of _ _ _ HX.out] at hy
            rcases List.mem_append.1 hy with h | h
            · exact HAll.out y h
            · obtain rfl := List.mem_singleton.1 h
              unfold bigW
              rw [decide_eq_false HBig.out, decide_eq_false HRow.out]
              exact Bool.false_ne_true
          case measure => have := Hlt.out; simp [intOf]; omega
    · obtain rfl : k = l.length := by omega
      rw [List.take_length] at hall
      have e : longW l = decide (80 < l.length) := by
        unfold longW
        rw [show l.any bigW = false from List.any_eq_false.2 fun x hx => hall.out x hx]
        rfl
      clear hall
      have HE := Lib.hid e
      clear e
      go_wp2
      go_ret
      rw [HE.out]
      refine ⟨?_, rfl⟩
      show Ending.returned (.bool _) = _
      congr 2
      rw [decide_eq_decide]
      omega

end Go.Proofs.Ytdeahiccgjldbaa
