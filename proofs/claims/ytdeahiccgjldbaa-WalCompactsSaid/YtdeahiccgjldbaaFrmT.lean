/- lessorref09.Scan. -/
import Derived.Test.YtdeahiccgjldbaaFrmS
namespace Go.Proofs.Ytdeahiccgjldbaa
open Go.RowKit

theorem wpList_rowS {w0 w1 : World} {ops : Array Oper} {rest : List Oper} {o : Oper} {a : Act} {Q : Exit → Act → World → Prop} (hgd : o.guard = none) (s x : Operand)
    (ho : o.op = .call { callee := .builtin .append, args := #[s, x], argTypes := #[41, 41] }) {v : Value} {L : List SlV} (hs : a.eval s = v) (h : RowS w0 w1 v L)
    (x0 : SlV) (hx0 : Own8 w1 w0.heap.size x0.v x0.data) (hx : a.eval x = .slice (some ⟨w1.heap.size, 0, none⟩) 1 1) (hsz : L.length ≤ 1048576)
    (hk : ∀ v' w', RowS w0 w' v' (L ++ [x0]) → wpList Try.prog ops Q rest (a.put o.dst v') w') :
    wpList Try.prog ops Q (o :: rest) a (w1.alloc (.cells #[x0.v] 40)) := by
  obtain ⟨i, hi, hz0, hz1, hz2⟩ := info_parts Try.infoS
  have hb1 := h.low.alloc h.low.size (.cells #[x0.v] 40)
  refine wpList_append_own _ hgd s x _ ho w0.heap.size 40 i _ 1 24 Try.underlying41 hi hz0 hz1 hz2 rfl (by decide) v L.length _ hs (h.own.alloc _) ⟨w1.heap.size, 0, none⟩ 1 1 [x0.v] hx rfl (World.news_of_block (cs := #[x0.v]) (t := 40) (fr := (0, 0)) (heap_alloc_new w1 _)) (by simp [Value.oneCell']) (by unfold maxLen; omega) (by omega) hb1.size ?_
  intro v' w' hown' hg _
  refine hk v' w' ⟨?_, ?_, own_below hb1 hb1.size (h.own.alloc _) hg⟩
  · rw [List.length_append, scells_snoc]
    exact hown'
  · exact ((h.all.snoc hx0).below ((Below.refl _ w1).alloc (Nat.le_refl _) _)).grown (h.own.alloc _) (by decide) hg

set_option maxRecDepth 100000 in
set_option maxHeartbeats 3000000 in
theorem rscan_own (A : Option Addr) (c : Nat) (b : List UInt8) (hb : b.length ≤ 1048576) (hcap : b.length ≤ c) (w : World) (h : By w w.heap.size A b) :
    Calls Try.prog 27 #[.slice A b.length c] w (GivesT w (scanL b) (tot (scanL b))) := by
  go_enter Try.func27, Try.ntmps27
  go_wp2
  go_loopw [4, 5] (fun v i wr => ∃ (k : Nat) (L : List SlV), k ≤ b.length ∧ i = .int .i64 k ∧ RowS w wr v L ∧ k = tot (datas L) ∧ scanL b = datas L ++ scanL (b.drop k)) (fun _ i _ => b.length - (intOf i).toNat)
  case atStart => exact ⟨0, [], Nat.zero_le _, rfl, RowS.none_ w, rfl, rfl⟩
  case round =>
    obtain ⟨k, L, hk, rfl, hrow, hkt, hsc⟩ := hrel
    have hll : L.length ≤ b.length := by have := len_tot (datas L); rw [datas_length] at this; omega
    have HR := Lib.hid hrow
    have HSC := Lib.hid hsc
    have hby := h.below hrow.low
    have HKT := Lib.hid hkt
    obtain ⟨A', c', rfl, hlc, hls⟩ := hrow.form
    have HLS := Lib.hid hls
    have fin : firstF (b.drop k) = none → ∀ m, GivesT w (scanL b) (tot (scanL b)) (.returned (.tuple #[.slice A' L.length c', .int .i64 (k : Int)])) (wr.drewN m) := fun hn m => by
      rw [hsc, scan_none hn, List.append_nil, ← hkt]
      exact ⟨A', c', L, rfl, rfl, hrow.drewN m⟩
    have FIN := Lib.hid fin
    clear hrow hsc hkt hls fin
    by_cases hlt : k + 2 < b.length
    · have hd1 : decide ((k : Int) + 2 < (b.length : Int)) = true := by simp; omega
      obtain ⟨x, hx⟩ : ∃ x, b[k]? = some x := ⟨_, List.getElem?_eq_getElem (by omega)⟩
      obtain ⟨y, hy⟩ : ∃ y, b[k + 1]? = some y := ⟨_, List.getElem?_eq_getElem (by omega)⟩
      have HF := Lib.hid (first_at b k x y hx hy)
      obtain ⟨g, o, rfl, hg, h0⟩ := hby.at_ k x hx
      obtain ⟨g', o', hA, _, h1⟩ := hby.at_ (k + 1) y hy
      obtain ⟨rfl, rfl⟩ : g = g' ∧ o = o' := by injection hA with hA; injection hA with e1 e2; exact ⟨e1, e2⟩
      clear hA
      have hxb := x.toNat_lt
      have hyb := y.toNat_lt
      obtain ⟨n, hn⟩ : ∃ n, n = two x y := ⟨_, rfl⟩
      rw [← hn] at HF
      have e2 : (x.toNat : Int) * 256 + (y.toNat : Int) = (n : Int) := by unfold two at hn; omega
      have hn2 : n ≤ 65535 := by unfold two at hn; omega
      clear hn hx hy
      have i0 : (0 : Int) ≤ (k : Int) := by omega
      have i1 : (k : Int) < (b.length : Int) := by omega
      have i2 : (0 : Int) ≤ (k : Int) + 1 := by omega
      have i3 : (k : Int) + 1 < (b.length : Int) := by omega
      have t1 : ((k : Int) + 1).toNat = k + 1 := by omega
      have HBY := Lib.hid hby
      clear hby
      by_cases hn0 : n < 1
      · have HN : Hid (firstF (b.drop k) = none) := by show _ = _; rw [HF.out, if_neg]; rintro ⟨h1, _⟩; omega
        have q1 : decide ((n : Int) < 1) = true := by simp; omega
        go_wp2
        go_quiet (fail)
        go_wp2
        go_ret2
        exact FIN.out HN.out nq
      · have q1 : decide ((n : Int) < 1) = false := by simp; omega
        by_cases hn1 : 1000 < n
        · have HN : Hid (firstF (b.drop k) = none) := by show _ = _; rw [HF.out, if_neg]; rintro ⟨_, h1, _⟩; omega
          have q2 : decide ((1000 : Int) < (n : Int)) = true := by simp; omega
          go_wp2
          go_quiet (fail)
          go_wp2
          go_ret2
          exact FIN.out HN.out nq
        · have q2 : decide ((1000 : Int) < (n : Int)) = false := by simp; omega
          by_cases hfit : b.length < k + 3 + n
          · have HN : Hid (firstF (b.drop k) = none) := by
              show _ = _
              rw [HF.out, if_neg]
              rintro ⟨_, _, h3⟩
              have := (List.getElem?_eq_some_iff.1 h3).1
              omega
            have q3 : decide ((b.length : Int) < (k : Int) + 3 + (n : Int)) = true := by simp; omega
            go_wp2
            go_quiet (fail)
            go_wp2
            go_ret2
            exact FIN.out HN.out nq
          · have q3 : decide ((b.length : Int) < (k : Int) + 3 + (n : Int)) = false := by simp; omega
            obtain ⟨z, hz⟩ : ∃ z, b[k + 2 + n]? = some z := ⟨_, List.getElem?_eq_getElem (by omega)⟩
            obtain ⟨g', o', hA, _, hcz⟩ := HBY.out.at_ (k + 2 + n) z hz
            obtain ⟨rfl, rfl⟩ : g = g' ∧ o = o' := by injection hA with hA; injection hA with e1 e2; exact ⟨e1, e2⟩
            clear hA
            have i4 : (0 : Int) ≤ (k : Int) + 2 + (n : Int) := by omega
            have i5 : (k : Int) + 2 + (n : Int) < (b.length : Int) := by omega
            have t2 : ((k : Int) + 2 + (n : Int)).toNat = k + 2 + n := by omega
            by_cases h90 : z = 90
            · subst h90
              have HZ : Hid (firstF (b.drop k) = some ((b.drop (k + 2)).take n)) := by show _ = _; rw [HF.out, if_pos ⟨by omega, by omega, hz⟩]
              obtain ⟨Ad, hcut, hbyd⟩ := cut_by HBY.out b.length c (k + 2) (k + 2 + n) ((k : Int) + 2) ((k : Int) + 2 + (n : Int)) (by omega) (by omega) (by omega) (by omega) hcap
              rw [show k + 2 + n - (k + 2) = n by omega] at hcut hbyd
              have hrl : ((b.drop (k + 2)).take n).length = n := by rw [List.length_take, List.length_drop]; omega
              have HRL := Lib.hid hrl
              have HBD := Lib.hid hbyd
              have hcz' : wr.cell? ⟨g, o + (k + 2 + n), none⟩ = some (.int .u8 90) := hcz
              clear hz hcz hbyd hrl HF
              generalize (b.drop (k + 2)).take n = r at *
              go_wp2
              go_quiet (fail)
              have HR1 := Lib.hid (HR.out.drewN nq)
              have HB1 : Hid (By (wr.drewN nq) w.heap.size Ad r) := Lib.hid (HBD.out.drewN nq)
              have hcw : (wr.drewN nq).cell? ⟨g, o + (k + 2 + n), none⟩ = some (.int .u8 90) := hcz'
              clear HR HBD HBY HLS FIN h0 h1 hcz'
              generalize wr.drewN nq = w1 at *
              have HE : Hid (Row w1 (w1.alloc (.cells #[] 5)) (.slice (some ⟨w1.heap.size, 0, none⟩) 0 0) []) := Lib.hid (row_lit w1 [] (by simp))
              have HBE := Lib.hid ((HB1.out.more HR1.out.low.size).below HE.out.low)
              go_wp2_with (first
                | (at_builtin; refine wpList_row rfl (.tmp 53) (.tmp 61) rfl rfl HE.out r HRL.out rfl HBE.out (by have := HRL.out; simp; omega) ?_; intro v1 w2 hr1 hg1; obtain ⟨A2, c2, rfl, _⟩ := own_form hr1.own; have hr1 := Lib.hid hr1; have HR2 := Lib.hid (HR1.out.later hr1.out.low); clear hg1)
                | (at_builtin; refine wpList_rowS rfl (.tmp 52) (.tmp 63) rfl rfl HR2.out ⟨A2, c2, r⟩ (own_lower hr1.out.own HR1.out.low.size) rfl (by omega) ?_; intro v3 w3 hr3; have hr3 := Lib.hid hr3))
              go_roundw
              case rel =>
                refine ⟨k + 3 + n, L ++ [⟨A2, c2, r⟩], by omega, by go_num, hr3.out, ?_, ?_⟩
                · rw [datas_snoc, tot_snoc, ← HKT.out, HRL.out]; omega
                · rw [HSC.out, scan_some HZ.out, datas_snoc, List.drop_drop, List.append_assoc, HRL.out, show k + (n + 3) = k + 3 + n by omega]
                  rfl
              case measure => simp [intOf]; omega
            · have HN : Hid (firstF (b.drop k) = none) := by show _ = _; rw [HF.out, if_neg]; rintro ⟨_, _, h3⟩; rw [hz] at h3; exact h90 (Option.some.inj h3)
              have hzn : ((z.toNat : Int) != 90) = true := by
                have : z.toNat ≠ 90 := fun e => h90 (UInt8.toNat_inj.1 (by simpa using e))
                simp; omega
              clear hz h90
              go_wp2
              go_quiet (fail)
              go_wp2
              go_ret2
              exact FIN.out HN.out nq
    · have HN := Lib.hid (first_short b k (by omega))
      have hd1 : decide ((k : Int) + 2 < (b.length : Int)) = false := by simp; omega
      go_wp2
      go_ret2
      exact FIN.out HN.out 0
theorem rscan_any (A : Option Addr) (c : Nat) (b : List UInt8) (hb : b.length ≤ 1048576) (hcap : b.length ≤ c) (w : World) (h : By w w.heap.size A b) :
    Calls Try.prog 27 #[.slice A b.length c] w (GivesS w (scanL b) (tot (scanL b))) :=
  (rscan_own A c b hb hcap w h).mono fun _ _ h => h.s
end Go.Proofs.Ytdeahiccgjldbaa
