/- Steps in memory; long; step: a step at both disks. -/
import Derived.Test.YtofaapcfileojaaDskW
namespace Go.Proofs.Ytofaapcfileojaa
open Go.RowKit

/-- A step as it lies. -/
structure StV where
  do_ : Int
  n : Int
  ad : Option Addr
  cap : Nat
  data : List UInt8
abbrev StV.v (x : StV) : Value := .agg #[.int .i64 x.do_, .int .i64 x.n, .slice x.ad x.data.length x.cap]

/-- The slice at A reads as the steps l, and lies below block B, with all their bytes. -/
structure St (w : World) (B : Nat) (A : Option Addr) (l : List StV) : Prop where
  at_ : ∀ i x, l[i]? = some x → ∃ b o, A = some ⟨b, o, none⟩ ∧ b < B ∧ w.cell? ⟨b, o + i * 3, none⟩ = some (.int .i64 x.do_) ∧ w.cell? ⟨b, o + i * 3 + 1, none⟩ = some (.int .i64 x.n) ∧ w.cell? ⟨b, o + i * 3 + 2, none⟩ = some (.slice x.ad x.data.length x.cap)
  data : ∀ x ∈ l, By w B x.ad x.data
  num : ∀ x ∈ l, x.n ≤ 9223372036854775807

section
variable {w w' : World} {B B' : Nat} {A : Option Addr} {l : List StV}
theorem St.nil : St w B A [] := ⟨fun i x h => by simp at h, fun x h => by simp at h, fun x h => by simp at h⟩
theorem St.keep (h : St w B A l) (hk : ∀ p : Addr, p.block < B → w'.cell? p = w.cell? p) : St w' B A l :=
  ⟨fun i x hx => by
    obtain ⟨b, o, rfl, hb, h1, h2, h3⟩ := h.at_ i x hx
    exact ⟨b, o, rfl, hb, (hk _ hb).trans h1, (hk _ hb).trans h2, (hk _ hb).trans h3⟩, fun x hx => (h.data x hx).keep hk, h.num⟩
theorem St.below (h : St w B A l) (hb : Below B w w') : St w' B A l := h.keep fun _ hp => hb.cell hp
end

/-- Have steps more bytes than a test should? -/
def longB (l : List StV) : Bool := l.any (fun x => decide (200 < x.data.length)) || decide (120 < l.length)

set_option maxRecDepth 100000 in
set_option maxHeartbeats 1000000 in
theorem long_any {A : Option Addr} {c : Nat} {l : List StV} {w : World} {B : Nat} (h : St w B A l) (hl : l.length ≤ 9223372036854775807) (hd : ∀ x ∈ l, x.data.length ≤ 9223372036854775807) :
    Calls Try.prog 9 #[.slice A l.length c] w fun e w' => e = .returned (.bool (longB l)) ∧ w = w' := by
  have H := Lib.hid h
  have HD := Lib.hid hd
  clear h hd
  go_enter Try.func9, Try.ntmps9
  go_wp2
  go_loop [3] (fun i => ∃ k : Nat, k ≤ l.length ∧ i = .int .i64 k ∧ Hid (∀ x ∈ l.take k, ¬ 200 < x.data.length)) (fun i => l.length - (intOf i).toNat)
  case atStart => exact ⟨0, Nat.zero_le _, rfl, fun x hx => by simp at hx⟩
  case round =>
    obtain ⟨k, hk, rfl, hall⟩ := hrel
    by_cases hlt : k < l.length
    · obtain ⟨x, hx⟩ : ∃ x, l[k]? = some x := ⟨_, List.getElem?_eq_getElem hlt⟩
      obtain ⟨b, o, rfl, _, c0, c1, c2⟩ := H.out.at_ k x hx
      have HX := Lib.hid hx
      have HAll := Lib.hid hall
      have Hlt := Lib.hid hlt
      clear hx hall
      by_cases hbig : 200 < x.data.length
      · have d : decide (200 < (x.data.length : Int)) = true := decide_eq_true (by omega)
        go_wp2
        go_ret
        have e : longB l = true := by
          unfold longB
          rw [List.any_eq_true.2 ⟨x, List.mem_of_getElem? HX.out, decide_eq_true hbig⟩]
          rfl
        rw [e]
        exact ⟨rfl, rfl⟩
      · have d : decide (200 < (x.data.length : Int)) = false := decide_eq_false (by omega)
        have HBig := Lib.hid hbig
        clear hbig
        go_wp2
        go_round
        case rel =>
          refine ⟨k + 1, Hlt.out, by go_num, fun y hy => ?_⟩
          rw [take_snoc_of _ _ _ HX.out] at hy
          rcases List.mem_append.1 hy with h | h
          · exact HAll.out y h
          · obtain rfl := List.mem_singleton.1 h
            exact HBig.out
        case measure => have := Hlt.out; simp [intOf]; omega
    · obtain rfl : k = l.length := by omega
      rw [List.take_length] at hall
      have e : longB l = decide (120 < l.length) := by
        unfold longB
        rw [show l.any (fun x => decide (200 < x.data.length)) = false from List.any_eq_false.2 fun x hx => by simpa using hall.out x hx]
        rfl
      clear hall
      have HE := Lib.hid e
      clear e
      go_wp2
      go_ret
      rw [HE.out]
      refine ⟨?_, rfl⟩
      show Ending.returned (.bool _) = _
      congr 2
      rw [decide_eq_decide]
      omega

end Go.Proofs.Ytofaapcfileojaa
