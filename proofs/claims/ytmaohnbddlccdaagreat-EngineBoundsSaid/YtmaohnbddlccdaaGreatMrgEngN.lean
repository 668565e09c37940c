/- engine, pure: what is noted of what is answered. -/
import Derived.Test.YtmaohnbddlccdaaGreatMrgEngB
namespace Go.Proofs.YtmaohnbddlccdaaGreat
open Go.RowKit Go.Sort

theorem kind_opt (k : Int) (hk : k = 2 ∨ k = 5 ∨ k = 6) (a : NO.PktA) (r : List (Int × List UInt8)) (h : a.opts = optE 53 k 1 :: r) : (NO.kindA a : Int) = k := by
  unfold NO.kindA NO.foundN NO.fd
  rw [h]
  rcases hk with rfl | rfl | rfl <;> rfl
theorem reply_kind (x : SiteV) (p : NO.PktA) (k : Int) (hk : k = 2 ∨ k = 5 ∨ k = 6) (more : List (Int × List UInt8)) : (NO.kindA (replyE x p k more) : Int) = k := kind_opt k hk _ _ rfl
theorem prom_kind (x : SiteV) (p : NO.PktA) (k : Int) (hk : k = 2 ∨ k = 5 ∨ k = 6) (a : Nat) (n : Int) : (NO.kindA (promE x p k a n) : Int) = k := kind_opt k hk _ _ rfl
theorem prom_51 (x : SiteV) (p : NO.PktA) (k : Int) (a : Nat) (n : Int) : NO.findL (promE x p k a n).opts 51 = ((NO.bytR n 4).1, true) := by
  unfold promE replyE moreE
  simp [NO.findL, optE]
theorem reply_51 (x : SiteV) (p : NO.PktA) (k : Int) : NO.findL (replyE x p k []).opts 51 = ([], false) := by
  unfold replyE
  simp [NO.findL, optE]
/-- Four bytes tell their number. -/
theorem byt_four {n : Int} (h0 : 0 ≤ n) (h1 : n ≤ 4294967295) : (NO.bytR n 4).1.length = 4 ∧ (NO.numL (NO.bytR n 4).1 : Int) = n := by
  have e : (NO.bytR n 4).1 = NO.beL n.toNat 4 := by
    unfold NO.bytR
    rw [if_pos]
    · rfl
    · simp only [Bool.and_eq_true, decide_eq_true_eq]
      exact ⟨⟨rfl, h0⟩, by show n < 4294967296; omega⟩
  rw [e]
  refine ⟨NO.beL_length _ _, ?_⟩
  have h := numL_beL n.toNat 4
  rw [Nat.mod_eq_of_lt (by omega)] at h
  show ((numL (beL n.toNat 4) : Nat) : Int) = n
  rw [h]
  omega
theorem base_acked (m : LV) (c : List UInt8) : (NC.baseL m ⟨c.toArray⟩).acked = if theirsB m c then m.acked else 0 := by
  unfold NC.baseL theirsB
  by_cases h : m.bind = 2
  · by_cases h2 : m.client = c
    · rw [if_pos ⟨h, by rw [LV.cb, h2]⟩, if_pos (by simp [h, h2])]
    · rw [if_neg (by rintro ⟨_, e⟩; simp [LV.cb] at e; exact h2 e), if_neg (by simp [h2])]
  · rw [if_neg (fun e => h e.1), if_neg (by simp [h])]
theorem base_addr (m : LV) (c : List UInt8) : (NC.baseL m ⟨c.toArray⟩).addr = m.addr ∧ (NC.baseL m ⟨c.toArray⟩).bind = 2 ∧ (NC.baseL m ⟨c.toArray⟩).client = c := by
  unfold NC.baseL
  split
  · rename_i h
    refine ⟨rfl, h.1, ?_⟩
    have e := h.2
    simp [LV.cb] at e
    exact e
  · exact ⟨rfl, rfl, by simp⟩
theorem unt_range (a now want k : Int) : 0 ≤ NC.untV a now want k ∧ NC.untV a now want k ≤ 1099511627776 := by
  have h1 := NC.aftV_range now want
  have h2 := NC.aftV_range (max (NC.moV now) (NC.moV k)) a
  unfold NC.untV
  omega
theorem mo_id {n : Int} (h0 : 0 ≤ n) (h1 : n ≤ 1099511627776) : NC.moV n = n := by unfold NC.moV NC.limV; omega

theorem byt_numR {n : Int} (h0 : 0 ≤ n) (h1 : n ≤ 4294967295) : NO.numR (NO.bytR n 4).1 = (n, 0) := by
  obtain ⟨e1, e2⟩ := byt_four h0 h1
  unfold NO.numR
  rw [e1, e2]
  rfl

/-- What is noted of an answer to c at now. -/
inductive NoteE (c : List UInt8) (now : Int) (X : AnsV) : Prop
  | still (hs : X.send = false) (hp : X.pot = 0) (hc : X.change = false ∨ X.lease.bind = 4 ∨ X.lease.bind = 5)
  | says (k : Int) (hs : X.send = true) (hc : X.change = false) (hk : (NO.kindA X.reply : Int) = k) (h : k = 2 ∨ k = 6 ∨ k = 5 ∧ X.reply.yi = 0)
  | gives (n : Int) (hs : X.send = true) (hc : X.change = true) (hk : (NO.kindA X.reply : Int) = 5) (hy : X.reply.yi ≠ 0) (hf : NO.findL X.reply.opts 51 = ((NO.bytR n 4).1, true)) (h0 : 1 ≤ n) (h1 : n ≤ 4294967295)
    (ha : X.lease.addr = X.reply.yi) (hb : X.lease.bind = 2) (hcl : X.lease.client = c) (hu : now + n ≤ X.lease.unt) (hu2 : X.lease.unt ≤ 1099511627776) (hp : X.lease.unt ≤ X.pot) (hat : X.lease.at_ = now) (hn : 0 ≤ now)
theorem no_note (c : List UInt8) (now : Int) : NoteE c now noA := .still rfl rfl (.inl rfl)
theorem offer_note (x : SiteV) (L : List LV) (s now entry : Int) (p : NO.PktA) : NoteE (NO.clientA p) now (offerE x L s now entry p) := by
  unfold offerE
  split
  · exact no_note _ _
  · split
    · exact no_note _ _
    · split
      · exact no_note _ _
      · exact .says 2 rfl rfl (prom_kind _ _ _ (.inl rfl) _ _) (.inl rfl)
theorem bound_note (x : SiteV) (now : Int) (p : NO.PktA) (m : LV) (hn : 0 ≤ now) (hn2 : now ≤ 1099511627776) (hm : m.addr ≠ 0) (hl : 1 ≤ longE x p now m) : NoteE (NO.clientA p) now (boundE x now p m) := by
  have hu := unt_range x.lead now (wantE x p) (if theirsB m (NO.clientA p) then m.acked else 0)
  have e0 : NC.moV now = now := mo_id hn hn2
  have hl2 : longE x p now m ≤ 4294967295 := by unfold longE longT; omega
  have hl3 : longE x p now m ≤ max (NC.untV x.lead now (wantE x p) (if theirsB m (NO.clientA p) then m.acked else 0) - now) 0 := by
    unfold longE longT NC.leftV
    rw [mo_id hu.1 hu.2, e0]
    omega
  have hb := base_addr m (NO.clientA p)
  have ha := base_acked m (NO.clientA p)
  have eu : (NC.lsV x.lead m ⟨(NO.clientA p).toArray⟩ now (wantE x p)).unt = max (NC.moV (NC.baseL m ⟨(NO.clientA p).toArray⟩).unt) (NC.untV x.lead now (wantE x p) (if theirsB m (NO.clientA p) then m.acked else 0)) := by
    unfold NC.lsV
    simp only
    rw [ha, mo_id hu.1 hu.2]
  have hr := NC.moV_range (NC.baseL m ⟨(NO.clientA p).toArray⟩).unt
  refine .gives (longE x p now m) rfl rfl (prom_kind _ _ _ (.inr (.inl rfl)) _ _) hm (prom_51 _ _ _ _ _) hl hl2 hb.1 hb.2.1 hb.2.2 ?_ ?_ ?_ e0 hn
  · show now + longE x p now m ≤ (NC.lsV x.lead m ⟨(NO.clientA p).toArray⟩ now (wantE x p)).unt
    rw [eu]
    omega
  · show (NC.lsV x.lead m ⟨(NO.clientA p).toArray⟩ now (wantE x p)).unt ≤ _
    rw [eu]
    omega
  · show (NC.lsV x.lead m ⟨(NO.clientA p).toArray⟩ now (wantE x p)).unt ≤ NC.potV (NC.lsV x.lead m ⟨(NO.clientA p).toArray⟩ now (wantE x p)) now (wantE x p)
    unfold NC.potV
    rw [mo_id (by rw [eu]; omega) (by rw [eu]; omega)]
    omega
theorem look_in {L : List LV} {a : Nat} {f : LV → Bool} {m : LV} (h : (lookE L a).filter f = some m) : m ∈ L ∧ m.addr = a ∧ f m = true := by
  rw [Option.filter_eq_some_iff] at h
  obtain ⟨h1, h2⟩ := look_mem h.1
  exact ⟨h1, h2, h.2⟩
theorem request_note (x : SiteV) (L : List LV) (s now entry : Int) (p : NO.PktA) (hn : 0 ≤ now) (hn2 : now ≤ 1099511627776) (hL : ∀ y ∈ L, y.addr ≠ 0) : NoteE (NO.clientA p) now (requestE x L s now entry p) := by
  unfold requestE
  split
  · exact no_note _ _
  · split
    · rename_i m hm
      obtain ⟨h1, _, h3⟩ := look_in hm
      unfold givesE at h3
      simp only [Bool.and_eq_true, decide_eq_true_eq] at h3
      exact bound_note x now p m hn hn2 (hL m h1) h3.1
    · split
      · exact no_note _ _
      · exact .says 6 rfl rfl (reply_kind _ _ _ (.inr (.inr rfl)) _) (.inr (.inl rfl))
theorem answer_note (x : SiteV) (ok fair : Bool) (Lo : Option (List LV)) (s now entry : Int) (p : NO.PktA) (hL : ∀ L, Lo = some L → ∀ y ∈ L, y.addr ≠ 0) : NoteE (NO.clientA p) now (answerE x ok fair Lo s now entry p) := by
  unfold answerE
  split
  · exact no_note _ _
  · rename_i L
    split
    · rename_i h
      have hw := h.2.2.1
      unfold witB at hw
      simp only [Bool.and_eq_true, decide_eq_true_eq] at hw
      unfold kindE
      split
      · exact offer_note _ _ _ _ _ _
      · split
        · exact request_note _ _ _ _ _ _ hw.1 hw.2 (hL L rfl)
        · split
          · unfold declineE
            split
            · exact no_note _ _
            · exact .still rfl rfl (.inr (.inr rfl))
          · split
            · unfold releaseE
              split
              · exact no_note _ _
              · exact .still rfl rfl (.inr (.inl rfl))
            · split
              · exact .says 5 rfl rfl (reply_kind _ _ _ (.inr (.inl rfl)) _) (.inr (.inr ⟨rfl, rfl⟩))
              · exact no_note _ _
    · exact no_note _ _
end Go.Proofs.YtmaohnbddlccdaaGreat
