/- lessorref01.Pool: the walk. -/
import Derived.Test.YtjkkdmfpekkfhaaRefP
import Derived.Laws.AppendOwnNone
namespace Go.Proofs.Ytjkkdmfpekkfhaa
open Go.RowKit

theorem drewN_add (w : World) (a b : Nat) : (w.drewN a).drewN b = w.drewN (a + b) := World.drewN_drewN w a b

theorem rg_move {w wn w3 : World} {A : Option Addr} {l : List (Nat × Nat)} (hR : Rg wn w.heap.size A l) (h0 : Below w.heap.size w wn) (h3 : Below w.heap.size w w3) : Rg w3 w.heap.size A l :=
  hR.keep fun _ hp => (h3.cell hp).trans (h0.cell hp).symm

theorem canon_len : ∀ (ol : List (Nat × Nat)), Canon ol → ol.length ≤ (addrsOf ol).length := by
  intro ol
  induction ol with
  | nil => intro _; simp
  | cons x r ih =>
    intro h
    have h1 := ih h.tail
    have h2 := h.val x (by simp)
    show r.length + 1 ≤ (seg x.1 (x.2 + 1) ++ addrsOf r).length
    rw [List.length_append, seg_length]
    omega

set_option maxRecDepth 100000 in
set_option maxHeartbeats 2000000 in
theorem rpool_any (A : Option Addr) (c : Nat) (l : List (Nat × Nat)) (w : World) (hr : Rg w w.heap.size A l) (hl : l.length ≤ 1000) :
    Calls Try.prog 25 #[.slice A l.length c] w fun e w' => ∃ ol code p cap, e = .returned (.tuple #[.slice p ol.length cap, .int .i64 code]) ∧ RefRes l ol code ∧ Rg w' w'.heap.size p ol ∧ Below w.heap.size w w' := by
  obtain ⟨i0, hi, hz0, hz1, hz2⟩ := info_parts Try.infoR
  go_enter Try.func25, Try.ntmps25
  go_wp2
  go_loopw [4] (fun i wr => ∃ k : Nat, k ≤ l.length ∧ i = .int .i64 k ∧ (∀ x ∈ l.take k, x.1 ≤ x.2) ∧ ∃ n, wr = w.drewN n) (fun i _ => l.length - (intOf i).toNat)
  case atStart => exact ⟨0, Nat.zero_le _, rfl, by simp, 0, rfl⟩
  case round =>
    obtain ⟨k, hk, rfl, hval, n, rfl⟩ := hrel
    by_cases hlt : k < l.length
    · obtain ⟨x, hx⟩ : ∃ x, l[k]? = some x := ⟨_, List.getElem?_eq_getElem hlt⟩
      obtain ⟨b, o, rfl, hb, hc1, hc2⟩ := hr.at_ k x hx
      have HX := Lib.hid hx
      have HV := Lib.hid hval
      have hk1 : (k : Int) < (l.length : Int) := by omega
      clear hx hr hval
      by_cases hle : x.2 < x.1
      · go_wp2
        go_quiet (fail)
        go_wp2
        go_ret2
        exact ⟨[], 1, none, 0, rfl, .inl ⟨⟨x, List.mem_of_getElem? HX.out, hle⟩, rfl, rfl⟩, ⟨fun y hy => by simp at hy, fun i y h => by simp at h⟩, by first | exact (Below.refl _ _).drewN' _ | exact ((Below.refl _ _).drewN' _).drewN' _⟩
      · go_wp2
        go_quiet (fail)
        go_wp2
        go_roundw
        case rel =>
          refine ⟨k + 1, by omega, by go_num, ?_, _, rfl⟩
          rw [take_snoc_of l k x HX.out]
          intro y hy
          rcases List.mem_append.1 hy with hy | hy
          · exact HV.out y hy
          · simp at hy; subst hy; omega
        case measure => simp [intOf]; omega
    · obtain rfl : k = l.length := by omega
      rw [List.take_length] at hval
      have HV := Lib.hid hval
      have HR := Lib.hid (hr.keep (w' := w.drewN n) (fun _ _ => rfl))
      have h32 := hr.w32
      have H32 := Lib.hid h32
      have hB0 : Below w.heap.size w (w.drewN n) := (Below.refl _ _).drewN' _
      have hsz0 : w.heap.size = (w.drewN n).heap.size := rfl
      have HZ0 := Lib.hid hsz0
      clear hval hr h32 hsz0
      generalize w.drewN n = wn at *
      go_wp2_with fail
      refine (next_int A c l 0 (by decide) wn (by rw [← HZ0.out]; exact HR.out) hl).mono ?_
      rintro e w1 ⟨b0, rfl, hleast, rfl⟩
      have hleast' : Least l 0 b0 := hleast
      dsimp only
      go_wp2
      go_loopw [5, 6, 7, 8] (fun v nv av _ wr => ∃ (ol : List (Nat × Nat)) (t : Nat) (b : Int), nv = .int .i64 ((addrsOf ol).length : Nat) ∧ av = .int .i64 b ∧ Least l t b ∧ Inv l ol t ∧ (addrsOf ol).length ≤ 256 ∧ W32 ol ∧ wr.ownsRow w.heap.size 60 2 v ol.length (rcells ol) ∧ Below w.heap.size w wr) (fun _ nv _ _ _ => 257 - (intOf nv).toNat)
      case atStart => exact ⟨[], 0, b0, rfl, rfl, hleast', inv_start l, by simp [addrsOf], by intro x hx; simp at hx, ⟨rfl, .inl ⟨rfl, rfl⟩⟩, hB0⟩
      case round =>
        obtain ⟨ol, t, b, rfl, rfl, hle, hinv, h256, ho32, hown, hBr⟩ := hrel
        have hcl := canon_len ol hinv.can
        have HI := Lib.hid hinv
        have HO := Lib.hid ho32
        have hsr := hBr.size
        have HRr := Lib.hid ((rg_move HR.out hB0 hBr).more hsr)
        rcases hle with ⟨rfl, hnone⟩ | ⟨a, rfl, hta, hain, hmin⟩
        · have hres : RefRes l ol 0 := .inr ⟨HV.out, .inr ⟨hinv.can, fun b => by rw [hinv.mem]; exact ⟨fun h => h.1, fun h => ⟨h, hnone b h⟩⟩, h256, rfl⟩⟩
          have HE := Lib.hid hres
          clear hinv ho32 hnone hres
          rcases hown.2 with ⟨rfl, h0⟩ | ⟨g, cap', cur, rfl, _⟩
          · have hown' := hown
            rw [h0] at hown'
            go_wp2
            go_ret2
            exact ⟨ol, 0, none, 0, by rw [h0]; rfl, HE.out, Rg.of_own (n := 0) HO.out hown', hBr⟩
          · go_wp2
            go_ret2
            exact ⟨ol, 0, _, _, rfl, HE.out, Rg.of_own HO.out hown, hBr⟩
        · have ha32 : a < 4294967296 := by
            obtain ⟨x, hx, h1, h2⟩ := mem_addrs.1 hain
            have := H32.out x hx
            omega
          have HMIN := Lib.hid hmin
          have HIN := Lib.hid hain
          clear hinv ho32 hmin hain
          generalize hN : (addrsOf ol).length = N at *
          have HN := Lib.hid hN
          clear hN
          go_wp2
          go_loop [6, 8] (fun nv hv => ∃ h : Nat, a ≤ h ∧ h < 4294967296 ∧ hv = .int .i64 h ∧ nv = .int .i64 ((N + (h + 1 - a) : Nat) : Int) ∧ N + (h + 1 - a) ≤ 257 ∧ ∀ b, a ≤ b → b ≤ h → b ∈ addrsOf l) (fun nv _ => 300 - (intOf nv).toNat)
          case atStart => exact ⟨a, Nat.le_refl _, ha32, rfl, by rw [show a + 1 - a = 1 by omega]; rfl, by omega, fun b h1 h2 => by rw [show b = a by omega]; exact HIN.out⟩
          case round =>
            obtain ⟨h, hah, hh32, rfl, rfl, hn257, hall⟩ := hrel
            have HALL := Lib.hid hall
            have HMANY : Hid (256 < N + (h + 1 - a) → Many l) := fun hbig => many_of HI.out hta HALL.out (by rw [HN.out]; exact hbig)
            have hcon := has_int A c l ((h : Int) + 1) (by omega) wr HRr.out hl
            rw [show ((h : Int) + 1).toNat = h + 1 by omega] at hcon
            have HC := Lib.hid hcon
            clear hall hcon
            generalize hnn : N + (h + 1 - a) = nn at *
            have HNN := Lib.hid hnn
            clear hnn
            by_cases hin : h + 1 ∈ addrsOf l
            · have hb : hasB l (h + 1) = true := by simp [hasB, hin]
              have hh33 : h + 1 < 4294967296 := by
                obtain ⟨x, hx, h1, h2⟩ := mem_addrs.1 hin
                have := H32.out x hx
                omega
              have HINN := Lib.hid hin
              rw [hb] at HC
              clear hin hb
              by_cases hbig : nn ≤ 256
              · have hd : decide ((nn : Int) ≤ 256) = true := by simp; omega
                go_wp2_with fail
                refine HC.out.mono ?_
                rintro e w2 ⟨rfl, rfl⟩
                go_wp2
                go_round
                case rel =>
                  have h1 := HNN.out
                  refine ⟨h + 1, by omega, hh33, by go_num, ?_, by omega, fun b g1 g2 => ?_⟩
                  · rw [show N + (h + 1 + 1 - a) = nn + 1 by omega]; go_num
                  · by_cases hb : b ≤ h
                    · exact HALL.out b g1 hb
                    · rw [show b = h + 1 by omega]; exact HINN.out
                case measure => simp [intOf]; omega
              · have hd : decide ((nn : Int) ≤ 256) = false := by simp; omega
                have hd2 : decide ((256 : Int) < (nn : Int)) = true := by simp; omega
                go_wp2_with fail
                refine HC.out.mono ?_
                rintro e w2 ⟨rfl, rfl⟩
                go_wp2
                go_ret2
                exact ⟨[], 3, none, 0, rfl, .inr ⟨HV.out, .inl ⟨HMANY.out (by omega), rfl, rfl⟩⟩, ⟨fun y hy => by simp at hy, fun i y h => by simp at h⟩, hBr⟩
            · have hb : hasB l (h + 1) = false := by simp [hasB, hin]
              have HINN := Lib.hid hin
              rw [hb] at HC
              clear hin hb
              by_cases hbig : nn ≤ 256
              · have hd2 : decide ((256 : Int) < (nn : Int)) = false := by simp; omega
                have hwa : IntKind.u32.wrap (a : Int) = a := by simp [IntKind.wrap, IntKind.bits, IntKind.signed]; omega
                have hwh : IntKind.u32.wrap (h : Int) = h := by simp [IntKind.wrap, IntKind.bits, IntKind.signed]; omega
                go_wp2_with fail
                refine HC.out.mono ?_
                rintro e w2 ⟨rfl, rfl⟩
                go_wp2_with (at_builtin; refine wpList_append_own _ rfl _ _ 22 rfl w.heap.size 60 i0 _ 2 8 Try.underlying22 hi hz0 hz1 hz2 rfl (by decide) _ ol.length (rcells ol) rfl (hown.alloc _) ⟨wr.heap.size, 0, none⟩ 1 1 [.int .u32 a, .int .u32 h] rfl rfl (atwo_new _ _ _ _ (by simp)) (by simp [Value.oneCell']) (by unfold maxLen; omega) (by omega) (by simp; omega) ?_; intro v2 w3 hown3 hgrow3 _)
                have hg0 : ∀ k, u5.ownBlock = some k → w.heap.size ≤ k := by
                  intro k e
                  rcases hown.2 with ⟨h0, _⟩ | ⟨g, cap', cur, h0, hg, _⟩
                  · rw [h0] at e; cases e
                  · rw [h0] at e; cases e; exact hg
                have hB3 : Below w.heap.size w w3 := (hBr.alloc hsr _).grown hgrow3 (by simp; omega) hg0
                clear hwa hwh hg0
                refine (next_int A c l _ (by omega) w3 ((rg_move HR.out hB0 hB3).more hB3.size) hl).mono ?_
                rintro e w4 ⟨b', rfl, hl', rfl⟩
                rw [show ((h : Int) + 1).toNat = h + 1 by omega] at hl'
                have HL' := Lib.hid hl'
                clear hl'
                dsimp only
                go_wp2
                go_roundw
                case rel =>
                  have h1 := HNN.out
                  have h2 := HN.out
                  have e1 : (addrsOf (ol ++ [(a, h)])).length = nn := by rw [addrsOf_snoc, List.length_append, seg_length, h2]; exact h1
                  refine ⟨ol ++ [(a, h)], h + 1, b', by rw [e1], rfl, HL'.out, inv_next HI.out hta hah HALL.out HMIN.out HINN.out, by rw [e1]; exact hbig, ?_, push_row (out := ol) (x := (a, h)) rfl rfl hown3 rfl, hB3⟩
                  intro x hx
                  rcases List.mem_append.1 hx with hx | hx
                  · exact HO.out x hx
                  · simp at hx; subst hx; exact ⟨ha32, hh32⟩
                case measure =>
                  have h1 := HNN.out
                  simp [intOf]
                  omega
              · have hd2 : decide ((256 : Int) < (nn : Int)) = true := by simp; omega
                go_wp2_with fail
                refine HC.out.mono ?_
                rintro e w2 ⟨rfl, rfl⟩
                go_wp2
                go_ret2
                exact ⟨[], 3, none, 0, rfl, .inr ⟨HV.out, .inl ⟨HMANY.out (by omega), rfl, rfl⟩⟩, ⟨fun y hy => by simp at hy, fun i y h => by simp at h⟩, hBr⟩
end Go.Proofs.Ytjkkdmfpekkfhaa
