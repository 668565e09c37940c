/- lessorref02.Put. -/
import Derived.Test.YtmlckjccgdmknaaOptF
namespace Go.Proofs.Ytmlckjccgdmknaa
open Go.RowKit

/-- One step of putting: what has been laid down, and whether the data was. -/
def putStep (code : Int) (data : List UInt8) (s : List (Int × List UInt8) × Bool) (x : Int × List UInt8) : List (Int × List UInt8) × Bool :=
  if x.1 = code then (if s.2 then s else (s.1 ++ [(code, data)], true)) else (s.1 ++ [x], s.2)
def putF (code : Int) (data : List UInt8) (l : List (Int × List UInt8)) : List (Int × List UInt8) × Bool := l.foldl (putStep code data) ([], false)
/-- The options, one of them put. -/
def putL (l : List (Int × List UInt8)) (code : Int) (data : List UInt8) : List (Int × List UInt8) :=
  if (putF code data l).2 then (putF code data l).1 else (putF code data l).1 ++ [(code, data)]
theorem putF_snoc (code : Int) (data : List UInt8) (l : List (Int × List UInt8)) (x : Int × List UInt8) : putF code data (l ++ [x]) = putStep code data (putF code data l) x := by simp [putF]

/-- A list of options is answered. -/
def GivesP (w : World) (r : List (Int × List UInt8)) (e : Ending) (w' : World) : Prop :=
  ∃ A c L, e = .returned (.slice A (List.length L) c) ∧ absL L = r ∧ Op w' w'.heap.size A L ∧ Below w.heap.size w w'

/-- A row of options, with one more. -/
theorem row_snoc {w : World} {B n : Nat} {v : Value} {L : List OptV} {x : OptV} {cs : List Value} (hn : n = L.length + 1) (hcs : cs = ocells L ++ [.int .i64 x.code, .slice x.ad x.data.length x.cap]) (h : w.ownsRow B 47 2 v n cs) : w.ownsRow B 47 2 v (L ++ [x]).length (ocells (L ++ [x])) := by
  subst hn hcs
  rw [ocells_append, List.length_append]
  exact h

set_option maxRecDepth 100000 in
set_option maxHeartbeats 3000000 in
theorem rput_any (A A0 : Option Addr) (c c0 : Nat) (L : List OptV) (code : Int) (data : List UInt8) (w : World) (hr : Op w w.heap.size A L) (hL : L.length ≤ 1000) (hd : By w w.heap.size A0 data) (hdl : data.length ≤ 1000) :
    Calls Try.prog 24 #[.slice A L.length c, .int .i64 code, .slice A0 data.length c0] w (GivesP w (putL (absL L) code data)) := by
  obtain ⟨i0, hi, hz0, hz1, hz2⟩ := info_parts Try.infoO
  have hownE := World.ownsRow_made (base := w.heap.size) (e := 5) (size := 1) w #[] 0 (Nat.le_refl _) (Nat.zero_le _) rfl
  have hBE : Below w.heap.size w (w.alloc (.cells #[] 5)) := (Below.refl _ _).alloc (Nat.le_refl _) _
  have hbyd := hd.below hBE
  go_enter Try.func24, Try.ntmps24
  go_wp2_with (at_builtin; refine wpList_appB rfl (.tmp 12) (.tmp 13) rfl w.heap.size (.slice (some ⟨w.heap.size, 0, none⟩) 0 0) _ _ rfl hownE _ _ data _ rfl hbyd (by omega) hBE.size ?_; intro v1 w1 hown1 hg1 _; rw [Nat.zero_add, List.nil_append] at hown1; obtain ⟨Ax, cx, rfl, _⟩ := own_form hown1; have hB1 := own_below hBE hBE.size hownE hg1)
  obtain ⟨w2, hw2⟩ : ∃ w2, w2 = w1.alloc (.cells #[.int .i64 code, .slice Ax data.length cx] 47) := ⟨_, rfl⟩
  rw [← hw2]
  have hB2 : Below w.heap.size w w2 := by rw [hw2]; exact hB1.alloc hB1.size _
  have hx2 : w2.heap[w1.heap.size]? = some (.cells #[.int .i64 code, .slice Ax data.length cx] 47 (0, 0)) := by rw [hw2]; exact heap_alloc_new w1 _
  have hz : w1.heap.size < w2.heap.size := by rw [hw2]; simp
  have hdx : By w2 w2.heap.size Ax data := by rw [hw2]; exact ((By.of_own hown1).below ((Below.refl _ _).alloc (Nat.le_refl _) _)).more (by simp)
  have hr2 : Op w2 w2.heap.size A L := hr.later hB2
  have HW := Lib.hid hw2
  clear hw2 hown1 hg1 hB1 hBE hownE hbyd hd hr
  generalize w1.heap.size = bx at *
  go_loopw [7, 8, 10] (fun v pv i wr => ∃ (k : Nat) (Lo : List OptV) (p : Bool), k ≤ L.length ∧ i = .int .i64 k ∧ pv = .bool p ∧ wr.ownsRow w2.heap.size 47 2 v Lo.length (ocells Lo) ∧ (absL Lo, p) = putF code data ((absL L).take k) ∧ (∀ y ∈ Lo, By w2 w2.heap.size y.ad y.data) ∧ Lo.length ≤ k ∧ Below w2.heap.size w2 wr) (fun _ _ i _ => L.length - (intOf i).toNat)
  case atStart => exact ⟨0, [], false, Nat.zero_le _, rfl, rfl, ⟨rfl, .inl ⟨rfl, rfl⟩⟩, rfl, fun y h => by simp at h, Nat.le_refl _, Below.refl _ _⟩
  case round =>
    obtain ⟨k, Lo, p, hk, rfl, rfl, hown, hput, hdat, hLk, hB⟩ := hrel
    have hsz := hB.size
    have hxw := (hB.block bx hz).trans hx2
    have x0 := cell_of_row wr bx 0 _ _ _ hxw
    have x1 := cell_of_row wr bx 1 _ _ _ hxw
    simp at x0 x1
    have HP := Lib.hid hput
    have HD := Lib.hid hdat
    clear hput hdat hxw
    by_cases hlt : k < L.length
    · obtain ⟨x, hx⟩ : ∃ x, L[k]? = some x := ⟨_, List.getElem?_eq_getElem hlt⟩
      obtain ⟨b, o, rfl, hb, hc1, hc2⟩ := (hr2.below hB).at_ k x hx
      have HN := Lib.hid (take_snoc_of (absL L) k x.abs (absL_at hx))
      have HX := Lib.hid (hr2.data x (List.mem_of_getElem? hx))
      clear hx
      by_cases hcode : x.code = code
      · have hne : (x.code != code) = false := by simpa using hcode
        have HC := Lib.hid hcode
        clear hcode
        cases p
        · go_wp2_with (at_builtin; refine wpList_append_own _ rfl (.tmp 38) (.tmp 40) 25 rfl w2.heap.size 47 i0 _ 2 32 Try.underlying25 hi hz0 hz1 hz2 rfl (by decide) u7 Lo.length (ocells Lo) rfl (hown.alloc _) ⟨wr.heap.size, 0, none⟩ 1 1 [.int .i64 code, .slice Ax data.length cx] rfl rfl (World.news_of_block (cs := #[.int .i64 code, .slice Ax data.length cx]) (t := 47) (fr := (0, 0)) (heap_alloc_new wr _)) (by simp [Value.oneCell']) (by unfold maxLen; omega) (by omega) (by simp; omega) ?_; intro v' w3 hown' hg' _)
          go_roundw
          case rel =>
            refine ⟨k + 1, Lo ++ [⟨code, Ax, cx, data⟩], true, by omega, by go_num, rfl, row_snoc rfl rfl hown', ?_, ?_, by simp; omega, own_below (hB.alloc hsz (.cells #[.int .i64 code, .slice Ax data.length cx] 47)) (by simp; omega) (hown.alloc _) hg'⟩
            · rw [HN.out, putF_snoc, ← HP.out]; simp [putStep, OptV.abs, HC.out, absL]
            · intro y hy
              rcases List.mem_append.1 hy with hy | hy
              · exact HD.out y hy
              · simp at hy; subst hy; exact hdx
          case measure => simp [intOf]; omega
        · go_wp2
          go_roundw
          case rel => exact ⟨k + 1, Lo, true, by omega, by go_num, rfl, hown, by rw [HN.out, putF_snoc, ← HP.out]; simp [putStep, OptV.abs, HC.out], HD.out, by omega, hB⟩
          case measure => simp [intOf]; omega
      · have hne : (x.code != code) = true := by simpa using hcode
        have HC := Lib.hid hcode
        clear hcode
        go_wp2_with (at_builtin; refine wpList_append_own _ rfl (.tmp 29) (.tmp 34) 25 rfl w2.heap.size 47 i0 _ 2 32 Try.underlying25 hi hz0 hz1 hz2 rfl (by decide) u7 Lo.length (ocells Lo) rfl (hown.alloc _) ⟨wr.heap.size, 0, none⟩ 1 1 [.int .i64 x.code, .slice x.ad x.data.length x.cap] rfl rfl (World.news_of_block (cs := #[.int .i64 x.code, .slice x.ad x.data.length x.cap]) (t := 47) (fr := (0, 0)) (heap_alloc_new wr _)) (by simp [Value.oneCell']) (by unfold maxLen; omega) (by omega) (by simp; omega) ?_; intro v' w3 hown' hg' _)
        go_roundw
        case rel =>
          refine ⟨k + 1, Lo ++ [x], p, by omega, by go_num, rfl, row_snoc rfl rfl hown', ?_, ?_, by simp; omega, own_below (hB.alloc hsz (.cells #[.int .i64 x.code, .slice x.ad x.data.length x.cap] 47)) (by simp; omega) (hown.alloc _) hg'⟩
          · rw [HN.out, putF_snoc, ← HP.out]; simp [putStep, OptV.abs, HC.out, absL]
          · intro y hy
            rcases List.mem_append.1 hy with hy | hy
            · exact HD.out y hy
            · simp at hy; subst hy; exact HX.out
        case measure => simp [intOf]; omega
    · have HK : Hid (putF code data (absL L) = (absL Lo, p)) := by show _ = _; rw [HP.out, List.take_of_length_le (by rw [absL_length]; omega)]
      cases p
      · go_wp2_with (at_builtin; refine wpList_append_own _ rfl (.tmp 44) (.tmp 46) 25 rfl w2.heap.size 47 i0 _ 2 32 Try.underlying25 hi hz0 hz1 hz2 rfl (by decide) u7 Lo.length (ocells Lo) rfl (hown.alloc _) ⟨wr.heap.size, 0, none⟩ 1 1 [.int .i64 code, .slice Ax data.length cx] rfl rfl (World.news_of_block (cs := #[.int .i64 code, .slice Ax data.length cx]) (t := 47) (fr := (0, 0)) (heap_alloc_new wr _)) (by simp [Value.oneCell']) (by unfold maxLen; omega) (by omega) (by simp; omega) ?_; intro v' w3 hown' hg' _)
        have hr3 := row_snoc (L := Lo) (x := ⟨code, Ax, cx, data⟩) rfl rfl hown'
        have hB3 := own_below (hB.alloc hsz (.cells #[.int .i64 code, .slice Ax data.length cx] 47)) (by simp; omega) (hown.alloc _) hg'
        obtain ⟨Ar, cr, rfl, _⟩ := own_form hr3
        go_ret
        refine ⟨Ar, cr, Lo ++ [⟨code, Ax, cx, data⟩], rfl, ?_, Op.of_own hr3 (fun y hy => ?_), hB2.trans (hB3.mono hB2.size)⟩
        · unfold putL; rw [HK.out]; simp [absL, OptV.abs]
        · rcases List.mem_append.1 hy with hy | hy
          · exact (HD.out y hy).later hB3
          · simp at hy; subst hy; exact hdx.later hB3
      · obtain ⟨Ar, cr, rfl, _⟩ := own_form hown
        go_wp2
        go_ret
        refine ⟨Ar, cr, Lo, rfl, ?_, Op.of_own hown (fun y hy => (HD.out y hy).later hB), hB2.trans (hB.mono hB2.size)⟩
        unfold putL; rw [HK.out]; simp
end Go.Proofs.Ytmlckjccgdmknaa
