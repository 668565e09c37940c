/- The document's Not; buckets; awake. -/
import Derived.Test.YtamdhljoamggeaaBalR
import Derived.Laws.Bits64
namespace Go.Proofs.Ytamdhljoamggeaa
open Go.RowKit Go.Sort

set_option maxRecDepth 100000 in
set_option maxHeartbeats 2000000 in
theorem rnot_any (B : List Nat) (hB : IsM B) (w : World) :
    Calls Try.prog 19 #[maskV B] w (OfFirst (fun k => !hasL B k) w) := by
  have HL : Hid ((cellsM B).length = 32) := Lib.hid (by rw [cellsM_len, hB.len])
  have HS : Hid (Three 25 25 42 (cellsM B) (cellsM (List.replicate 32 0)) (cellsB fun _ => false) w (((w.alloc (.cells (cellsM B).toArray 25)).alloc (.cells (cellsM (List.replicate 32 0)).toArray 25)).alloc (.cells (cellsB fun _ => false).toArray 42))) := Lib.hid (Three.start _ _ _ _ _ _ _)
  obtain ⟨f, hf⟩ : ∃ f : Nat → Bool, f = fun k => !hasL B k := ⟨_, rfl⟩
  rw [← hf]
  have HF := Lib.hid hf
  clear hf
  have HU := Lib.hid (upB_zero f)
  have hz := zeroB
  generalize hZ : (cellsB fun _ => false).toArray = Z at hz HS
  have HZ := Lib.hid hZ
  clear hZ
  unfold maskV
  generalize hC : (cellsM B).toArray = C at *
  have HC := Lib.hid hC
  clear hC
  go_enter Try.func19, Try.ntmps19
  go_wp2
  clear hz
  go_loopw [4] (fun i wr => ∃ k : Nat, k ≤ 256 ∧ i = .int .i64 k ∧ Three 25 25 42 (cellsM B) (cellsM (List.replicate 32 0)) (cellsB (upto f k)) w wr) (fun i _ => 256 - (intOf i).toNat)
  case atStart => exact ⟨0, Nat.zero_le _, rfl, by rw [HU.out]; exact HS.out⟩
  case round =>
    obtain ⟨k, hk, rfl, hrel⟩ := hrel
    have HR := Lib.hid hrel
    by_cases hlt : k < 256
    · have hd : decide ((k : Int) < 256) = true := by simp; omega
      have hL1 := hrel.l0
      clear hrel
      have HA : Hid (Calls Try.prog 15 #[.agg (cellsM B).toArray, .int .i64 (k : Int)] wr fun e w' => e = .returned (.bool (hasL B k)) ∧ Below wr.heap.size wr w') := Lib.hid (rhas_in B hB k hlt wr)
      go_wp2_with (refine wp_loadT arrA rfl _ rfl _ rfl hL1 HL.out ?_)
      refine HA.out.mono ?_
      rintro e w1 ⟨rfl, hb⟩
      have HR1 := Lib.hid (HR.out.later hb)
      clear hb hL1
      have hc := HR1.out.l2.cell (cellsB_at _ k hlt)
      have hfr := HR1.out.l2.frozen k
      have HN := Lib.hid (HR1.out.set2 k (.bool (f k)))
      rw [upB_next] at HN
      have HD : Hid ((!hasL B k) = f k) := Lib.hid (by rw [HF.out])
      go_wp2
      go_roundw
      case rel => exact ⟨k + 1, by omega, by go_num, by rw [HD.out]; exact HN.out⟩
      case measure => simp [intOf]; omega
    · obtain rfl : k = 256 := by omega
      have HG := Lib.hid (upB_all f)
      rw [HG.out] at HR
      have h1 := HR.out.l2
      clear hrel
      have HX : Hid ((cellsB f).length = 256) := Lib.hid (cellsB_len _)
      have HX' : Hid ((cellsM (maskL f)).length = 32) := Lib.hid (by rw [cellsM_len, maskL_len])
      have HY : Hid ((cellsM (List.replicate 32 0)).length = 32) := Lib.hid (by rw [cellsM_len, List.length_replicate])
      go_wp2_with (first | (refine wp_loadT arrB rfl _ rfl _ rfl h1 HX.out ?_))
      refine (of_any f _).mono ?_
      rintro e w1 ⟨rfl, hb⟩
      have HR1 := Lib.hid (HR.out.later hb)
      have h2 := HR1.out.l1
      clear hb h1
      unfold maskV
      go_wp2_with (first | (refine wp_storeT arrA rfl _ _ rfl _ _ rfl rfl h2 HY.out HX'.out (cellsM_one _) ?_))
      have hR := h2.row (cellsM (maskL f))
      have hB' := below_row HR1.out.low (by omega : w.heap.size ≤ w.heap.size + 1) (cellsM (maskL f)).toArray
      exact bodyPost_ret (results_cellT (p := 2) arrA Try.results19 rfl hR HX'.out) rfl ⟨rfl, hB'⟩

theorem element_any (n : Nat) (hn : n < 256) (w : World) : Calls Try.prog 20 #[.int .i64 (n : Int)] w fun e w' => e = .returned (.int .i64 ((elN n : Nat) : Int)) ∧ w = w' := by
  go_enter Try.func20, Try.ntmps20
  go_wp2
  go_ret
  refine ⟨?_, rfl⟩
  show Ending.returned (.int .i64 _) = _
  congr 2
theorem table_any (n : Nat) (hn : n < 256) (w : World) : Calls Try.prog 21 #[.int .i64 (n : Int)] w fun e w' => e = .returned (.int .i64 ((elN n : Nat) : Int)) ∧ w = w' := by
  go_enter Try.func21, Try.ntmps21
  go_wp2
  go_ret
  refine ⟨?_, rfl⟩
  show Ending.returned (.int .i64 _) = _
  congr 2
theorem i64_xor (a b : Nat) (ha : a < 256) (hb : b < 256) : bits .xor .i64 (a : Int) (b : Int) = ((a ^^^ b : Nat) : Int) := by
  show IntKind.i64.wrap ((BitVec.ofInt 64 (a : Int) ^^^ BitVec.ofInt 64 (b : Int)).toNat : Int) = _
  have e1 : (BitVec.ofInt 64 (a : Int)).toNat = a := by
    rw [BitVec.ofInt_natCast, BitVec.toNat_ofNat]
    exact Nat.mod_eq_of_lt (by omega)
  have e2 : (BitVec.ofInt 64 (b : Int)).toNat = b := by
    rw [BitVec.ofInt_natCast, BitVec.toNat_ofNat]
    exact Nat.mod_eq_of_lt (by omega)
  have h : a ^^^ b < 2 ^ 8 := Nat.xor_lt_two_pow ha hb
  rw [BitVec.toNat_xor, e1, e2, IntKind.wrap_i64]
  omega

def listOf (s : ByteArray) : List UInt8 := s.data.toList
theorem listOf_len (s : ByteArray) : (listOf s).length = s.size := Array.length_toList

theorem bkF_none (l : List UInt8) (m : Nat) : bkF (l.drop (l.length - 0)) m = m := by rw [Nat.sub_zero, List.drop_length]; rfl
theorem bkF_all (l : List UInt8) (m : Nat) : bkF (l.drop (l.length - l.length)) m = bkF l m := by rw [Nat.sub_self]; rfl
theorem listOf_at (s : ByteArray) (i : Nat) (h : i < s.size) : (listOf s)[i]'(by rw [listOf_len]; exact h) = s[i] := rfl
theorem bk_step (s : ByteArray) (j : Nat) (h : j < s.size) (m : Nat) : bkF ((listOf s).drop ((listOf s).length - (j + 1))) m = elN (bkF ((listOf s).drop ((listOf s).length - j)) m ^^^ (s[s.size - 1 - j]'(by omega)).toNat) := by
  rw [bkF_step (listOf s) j (by rw [listOf_len]; exact h) m]
  have e : (listOf s).length - (j + 1) = s.size - 1 - j := by rw [listOf_len]; omega
  congr 3
  refine Eq.trans ?_ (listOf_at s (s.size - 1 - j) (by omega))
  simp only [e]

set_option maxRecDepth 100000 in
set_option maxHeartbeats 1000000 in
theorem bucket_any (s : ByteArray) (hs : s.size ≤ 1000000) (w : World) :
    Calls Try.prog 10 #[.string s] w fun e w' => e = .returned (.int .i64 ((bkN (listOf s) : Nat) : Int)) ∧ w = w' := by
  go_enter Try.func10, Try.ntmps10
  go_wp2
  go_loop [3, 10] (fun n i => ∃ j m : Nat, j ≤ s.size ∧ m < 256 ∧ i = .int .i64 j ∧ n = .int .i64 m ∧ m = bkF ((listOf s).drop ((listOf s).length - j)) ((listOf s).length % 256)) (fun _ i => s.size - (intOf i).toNat)
  case atStart => exact ⟨0, s.size % 256, Nat.zero_le _, Nat.mod_lt _ (by decide), rfl, rfl, by rw [bkF_none, listOf_len]⟩
  case round =>
    obtain ⟨j, m, hj, hm, rfl, rfl, hmj⟩ := hrel
    have HM := Lib.hid hmj
    clear hmj
    by_cases hlt : j < s.size
    · have HS := Lib.hid (bk_step s j hlt ((listOf s).length % 256))
      rw [← HM.out] at HS
      have hi : s.size - 1 - j < s.size := by omega
      have hc : s[s.size - 1 - j].toNat < 256 := UInt8.toNat_lt _
      have hx : m ^^^ s[s.size - 1 - j].toNat < 256 := xor_lt _ hm
      have HX := Lib.hid (i64_xor m _ hm hc)
      go_wp2_with fail
      rw [HX.out]
      refine (element_any _ hx _).mono ?_
      rintro e w' ⟨rfl, rfl⟩
      go_wp2
      go_round
      case rel => exact ⟨j + 1, _, by omega, elN_lt _, by go_num, rfl, HS.out.symm⟩
      case measure => simp [intOf]; omega
    · have hjs : j = s.size := by omega
      have HN : Hid (bkN (listOf s) = m) := Lib.hid (by rw [HM.out, hjs, ← listOf_len, bkF_all]; rfl)
      subst hjs
      go_wp2
      go_ret
      rw [HN.out]
      exact ⟨rfl, rfl⟩

set_option maxRecDepth 100000 in
set_option maxHeartbeats 1000000 in
theorem rbucket_any (s : ByteArray) (hs : s.size ≤ 1000000) (w : World) :
    Calls Try.prog 11 #[.string s] w fun e w' => e = .returned (.int .i64 ((bkN (listOf s) : Nat) : Int)) ∧ w = w' := by
  go_enter Try.func11, Try.ntmps11
  go_wp2
  go_loop [3, 4] (fun n i => ∃ j m : Nat, j ≤ s.size ∧ m < 256 ∧ i = .int .i64 ((s.size : Int) - 1 - j) ∧ n = .int .i64 m ∧ m = bkF ((listOf s).drop ((listOf s).length - j)) ((listOf s).length % 256)) (fun _ i => (intOf i + 1).toNat)
  case atStart => exact ⟨0, s.size % 256, Nat.zero_le _, Nat.mod_lt _ (by decide), by simp, rfl, by rw [bkF_none, listOf_len]⟩
  case round =>
    obtain ⟨j, m, hj, hm, rfl, rfl, hmj⟩ := hrel
    have HM := Lib.hid hmj
    clear hmj
    by_cases hlt : j < s.size
    · have HS := Lib.hid (bk_step s j hlt ((listOf s).length % 256))
      rw [← HM.out] at HS
      have hi : s.size - 1 - j < s.size := by omega
      have hc : s[s.size - 1 - j].toNat < 256 := UInt8.toNat_lt _
      have hx : m ^^^ s[s.size - 1 - j].toNat < 256 := xor_lt _ hm
      have HX := Lib.hid (i64_xor m _ hm hc)
      have ei : (s.size : Int) - 1 - j = ((s.size - 1 - j : Nat) : Int) := by omega
      have hd : decide ((0 : Int) ≤ ((s.size - 1 - j : Nat) : Int)) = true := by simp
      rw [ei]
      have EI := Lib.hid ei
      clear ei
      go_wp2_with fail
      rw [HX.out]
      refine (table_any _ hx _).mono ?_
      rintro e w' ⟨rfl, rfl⟩
      go_wp2
      go_round
      case rel => exact ⟨j + 1, _, by omega, elN_lt _, by have h := EI.out; congr 1; omega, rfl, HS.out.symm⟩
      case measure => simp [intOf] <;> omega
    · have hjs : j = s.size := by omega
      have HN : Hid (bkN (listOf s) = m) := Lib.hid (by rw [HM.out, hjs, ← listOf_len, bkF_all]; rfl)
      subst hjs
      rw [show (s.size : Int) - 1 - s.size = -1 by omega]
      go_wp2
      go_ret
      rw [HN.out]
      exact ⟨rfl, rfl⟩

section
variable {ops : Array Oper} {rest : List Oper} {o : Oper} {a : Act} {w : World} {Q : Exit → Act → World → Prop}
/-- A whole array into the block that was made last. -/
theorem wp_storeN {T : TypeId} {n : Nat} (hT : ArrT T n) (hgd : o.guard = none) (x y : Operand) (ho : o.op = .store T x y) (cs : List Value) (c : Array Value) (t : TypeId) (hx : a.eval x = .pointer (some ⟨w.heap.size, 0, none⟩)) (hy : a.eval y = .agg cs.toArray) (hl : c.size = n) (hc : cs.length = n) (h1 : ∀ v ∈ cs, v.oneCell' = true) (hd : o.dst = none)
    (h : wpList Try.prog ops Q rest a (w.alloc (.cells cs.toArray t))) : wpList Try.prog ops Q (o :: rest) a (w.alloc (.cells c t)) :=
  wpList_store_row hgd _ x y ho _ _ hx hy t _ (heap_alloc_last w _) (hT.size.trans (by simp [hc])) (by simp [hl, hc]) (Array.all_eq_true_iff_forall_mem.2 fun v hv => h1 v (by simpa using hv)) (by rw [World.setRow_alloc_new, hd]; exact h)
end
theorem arrM : ArrT 26 32 := ⟨⟨5, by kernel_rfl⟩, by kernel_rfl⟩

theorem eqItems_self {P : Program} (d : Nat) (e : TypeId) (he : P.plainKey e = true) (k : IntKind) (hu : P.underlying e = some (.int k)) (xs : Array Value) (W : World) : ∀ (is : List Nat), (∀ i ∈ is, ∃ n : Int, xs[i * P.cellsOf e]? = some (.int k n)) → (Op.eqItems (d + 1) e (P.cellsOf e) xs xs is).run P W = .ok true W
  | [], _ => by simp [Op.eqItems]
  | i :: is, h => by
    obtain ⟨n, hn⟩ := h i (by simp)
    have p := run_part_plain W he hn
    have q := run_equalIn_int W d e k k n n hu
    simp only [Op.eqItems, Sem.run_bind, p, q, Result.andThen_ok]
    simpa using eqItems_self d e he k hu xs W is (fun j hj => h j (by simp [hj]))
theorem guardM : Try.prog.eqGuardType Try.prog.depth 26 = false := by kernel_rfl
theorem cellsU : Try.prog.cellsOf 5 = 1 := by kernel_rfl
theorem plainU : Try.prog.plainKey 5 = true := by kernel_rfl
theorem run_eqM (B : List Nat) (h : (cellsM B).length = 32) (W : World) : (binOp .eql 26 (.agg (cellsM B).toArray) (.agg (cellsM B).toArray)).run Try.prog W = .ok (.bool true) W := by
  have hi : ∃ i, Try.prog.info? 5 = some i := by
    have : (Try.prog.info? 5).isSome = true := by kernel_rfl
    exact Option.isSome_iff_exists.1 this
  obtain ⟨i, hi⟩ := hi
  have hu : Try.prog.underlying 5 = some (.int .u8) := by kernel_rfl
  rw [run_eql_struct, run_equalIn_array W 9999 _ _ isAggM hi, eqItems_self 9998 5 plainU .u8 hu]
  · rfl
  · intro j hj
    have := List.mem_range.1 hj
    rw [cellsU, Nat.mul_one]
    refine ⟨((B.getD j 0 : Nat) : Int), ?_⟩
    have := cellsM_at B j (by rw [← cellsM_len, h]; omega)
    simpa using this
theorem run_guardM (op : BinOp) (x y : Operand) (xs ys : Array Value) (W : World) : (eqGuard op 26 x y (.agg xs) (.agg ys)).run Try.prog W = .ok () W := run_eqGuard_agg W op _ x y xs ys guardM

section
variable {ops : Array Oper} {rest : List Oper} {o : Oper} {a : Act} {w : World} {Q : Exit → Act → World → Prop}
/-- The load of a whole array, guarded or not. -/
theorem wp_loadW {T : TypeId} {n : Nat} (hT : ArrT T n) (hw : Region.wanted o (yielded ops a.tmps) = true) (x : Operand) (ho : o.op = .load T x) (b : Nat) (hx : a.eval x = .pointer (some ⟨b, 0, none⟩)) {vs : List Value} {t : TypeId} (hL : Lies w b vs t) (hl : vs.length = n)
    (h : wpList Try.prog ops Q rest (a.put o.dst (.agg vs.toArray)) w) : wpList Try.prog ops Q (o :: rest) a w := by
  obtain ⟨⟨e, he⟩, hs⟩ := hT
  exact BigFrame.wpList_want hw fun _ hK => wp_load_row _ x ho b hx t _ _ _ hL he rfl (hs.trans (by simp [hl])) (hK _ _ h)
/-- .. in a region that draws its order and only reads. -/
theorem quiet_load {C : World → Prop} {R : Act → Prop} {T : TypeId} {n : Nat} (hT : ArrT T n) (x : Operand) (ho : o.op = .load T x) (b : Nat) (hx : a.eval x = .pointer (some ⟨b, 0, none⟩)) {vs : List Value} {t : TypeId} (hL : ∀ w, C w → Lies w b vs t) (hl : vs.length = n)
    (h : R (a.put o.dst (.agg vs.toArray))) : o.quiet Try.prog a C R := by
  obtain ⟨⟨e, he⟩, hs⟩ := hT
  refine ⟨.agg vs.toArray, fun w hw => ?_, h⟩
  unfold Oper.quietAt execOp
  simp only [ho, hx, Instr.loadAt, Instr.sureAddr, Sem.run_bind, Sem.run_pure, Result.andThen_ok, run_loadVar_row w b t T vs.toArray (0, 0) _ (hL w hw) he rfl (hs.trans (by simp [hl]))]
  exact ⟨rfl, rfl⟩
end

set_option maxRecDepth 100000 in
set_option maxHeartbeats 1000000 in
theorem awake_any (w : World) : Calls Try.prog 9 #[] w fun e w' => e = .returned (.bool true) ∧ Below w.heap.size w w' := by
  have HA := Lib.hid (bucket_any ⟨#[97]⟩ (by decide))
  have HB := Lib.hid (rbucket_any ⟨#[97]⟩ (by decide))
  generalize bkN (listOf ⟨#[97]⟩) = x at *
  have hF := Lib.hid (first_any 3)
  have h0 : (maskL fun k => decide ((k : Int) < 3)).getD 0 0 = 7 := by decide
  have h3 : cntL (maskL fun k => decide ((k : Int) < 3)) 256 = 3 := by decide +kernel
  have HM := Lib.hid (maskL_is fun k => decide ((k : Int) < 3))
  unfold OfFirst at hF
  generalize (maskL fun k => decide ((k : Int) < 3)) = F at *
  have HC := Lib.hid (count_any F HM.out)
  rw [h3] at HC
  have HL : Hid ((cellsM F).length = 32) := Lib.hid (by rw [cellsM_len, HM.out.len])
  have h00 := cellsM_at F 0 (by rw [HM.out.len]; decide)
  rw [h0] at h00
  have H00 := Lib.hid h00
  clear h0 h3 h00
  unfold maskV at *
  go_enter Try.func9, Try.ntmps9
  go_wp2_with fail
  refine (hF.out _).mono ?_
  rintro e w1 ⟨rfl, hb1⟩
  have HB1 := Lib.hid (hb1.alloc hb1.size (.cells (cellsM F).toArray 26))
  have hL := Lies.new w1 (cellsM F) 26
  have hc := hL.cell H00.out
  clear hb1
  go_wp2_with (first | (refine wp_storeN arrM rfl _ _ rfl _ _ _ rfl rfl rfl HL.out (cellsM_one _) rfl ?_) | (refine wp_loadW arrM rfl _ rfl _ rfl hL HL.out ?_))
  refine (HC.out _).mono ?_
  rintro e w2 ⟨rfl, hb2⟩
  have HB2 := Lib.hid (HB1.out.trans (hb2.mono HB1.out.size))
  clear hb2 hc hL
  go_wp2_with fail
  refine (HA.out _).mono ?_
  rintro e w' ⟨rfl, rfl⟩
  go_wp2_with fail
  refine (HB.out _).mono ?_
  rintro e w' ⟨rfl, rfl⟩
  go_wp2
  go_ret
  exact ⟨by simp, HB2.out⟩
end Go.Proofs.Ytamdhljoamggeaa
