/- engine, pure: what is given is one's own; up to when anything is promised. -/
import Derived.Test.YtmaohnbddlccdaaGreatMrgEngN
namespace Go.Proofs.YtmaohnbddlccdaaGreat
open Go.RowKit Go.Sort

/-- What is offered or promised to c is its own already, or may be given. -/
inductive OwnE (x : SiteV) (s now entry : Int) (c : List UInt8) (Lo : Option (List LV)) (X : AnsV) : Prop
  | none (h : X.send = false ∨ X.send = true ∧ X.reply.yi = 0)
  | some (L : List LV) (m : LV) (hs : X.send = true) (hL : Lo = .some L) (hm : lookE L X.reply.yi = .some m) (h : theirsB m c = true ∨ mayE x s now entry m = true)
section
variable {x : SiteV} {s now entry : Int} {c : List UInt8} {Lo : Option (List LV)} {L : List LV} {m : LV}
theorem may_own (h : mayE x s now entry m = true) : (m.bind == 2) = false ∨ (s == 3) = true := by
  unfold mayE NC.mayV at h
  simp only [Bool.and_eq_true, Bool.or_eq_true] at h
  rcases h.2 with h1 | ⟨⟨h1, _⟩, _⟩
  · left
    have e : m.bind = NC.ownV x.id := by simpa using h1
    rw [e]
    unfold NC.ownV
    split <;> rfl
  · exact .inr h1
theorem no_own : OwnE x s now entry c Lo noA := .none (.inl rfl)
theorem find_mem {f : LV → Bool} (h : L.find? f = some m) : m ∈ L ∧ f m = true := ⟨List.mem_of_find?_eq_some h, List.find?_some h⟩
theorem pick_own {a : Nat} {f : LV → Bool} (h : pickE c f L a = some m) : m ∈ L ∧ (theirsB m c = true ∨ f m = true) := by
  unfold pickE at h
  split at h
  · rename_i m' hm
    obtain ⟨h1, h2⟩ := find_mem hm
    injection h with h
    subst h
    exact ⟨h1, .inl h2⟩
  · split at h
    · rename_i m' hm
      obtain ⟨h1, _, h3⟩ := look_in hm
      injection h with h
      subst h
      exact ⟨h1, .inr h3⟩
    · obtain ⟨h1, h2⟩ := find_mem h
      exact ⟨h1, .inr h2⟩
theorem answer_own (p : NO.PktA) (ok fair : Bool) (hT : ∀ L, Lo = some L → TabL L) : OwnE x s now entry (NO.clientA p) Lo (answerE x ok fair Lo s now entry p) := by
  unfold answerE
  split
  · exact no_own
  · rename_i L
    have hl := hT L rfl
    split
    · unfold kindE
      split
      · unfold offerE
        split
        · exact no_own
        · split
          · exact no_own
          · rename_i m hm
            obtain ⟨h1, h2⟩ := pick_own hm
            split
            · exact no_own
            · exact .some L m rfl rfl (look_self hl h1) h2
      · split
        · unfold requestE
          split
          · exact no_own
          · split
            · rename_i m hm
              obtain ⟨h1, _, h3⟩ := look_in hm
              unfold givesE at h3
              simp only [Bool.and_eq_true, Bool.or_eq_true] at h3
              exact .some L m rfl rfl (look_self hl h1) h3.2
            · split
              · exact no_own
              · exact .none (.inr ⟨rfl, rfl⟩)
        · split
          · unfold declineE
            split
            · exact no_own
            · exact .none (.inl rfl)
          · split
            · unfold releaseE
              split
              · exact no_own
              · exact .none (.inl rfl)
            · split
              · exact .none (.inr ⟨rfl, rfl⟩)
              · exact no_own
    · exact no_own

/-- Up to when an answer promises. -/
inductive BouE (x : SiteV) (now : Int) (p : NO.PktA) (Lo : Option (List LV)) (X : AnsV) : Prop
  | none (is : Bool) (bs : List UInt8) (hf : NO.findL X.reply.opts 51 = (bs, is)) (hl : bs.length ≤ 4) (h : X.send = false ∨ X.send = true ∧ is = false) (hy : X.reply.yi = 0)
  | some (L : List LV) (m : LV) (n : Int) (hs : X.send = true) (hL : Lo = .some L) (hm : lookE L X.reply.yi = .some m) (hf : NO.findL X.reply.opts 51 = ((NO.bytR n 4).1, true)) (h0 : 1 ≤ n) (h1 : n ≤ 1000) (h2 : now + n ≤ max now (if theirsB m (NO.clientA p) then m.acked else 0) + 10)
    (hx : X.reply.xid = p.xid) (hsi : X.reply.si = x.server) (hop : X.reply.op = 2) (ha : 0 ≤ m.acked ∧ m.acked ≤ 1099511627776)
theorem no_bou (p : NO.PktA) : BouE x now p Lo noA := .none false [] rfl (by decide) (.inl rfl) rfl
theorem long_bou (p : NO.PktA) (hlead : x.lead = 10) (hmost : x.most = 1000) (hn : 0 ≤ now) (hn2 : now ≤ 549755813888) (hm : RightL m) (h : 1 ≤ longE x p now m) :
    longE x p now m ≤ 1000 ∧ now + longE x p now m ≤ max now (if theirsB m (NO.clientA p) then m.acked else 0) + 10 := by
  have hw : wantE x p ≤ 1000 := by unfold wantE; rw [hmost]; omega
  have ha := hm.acked
  unfold TimeL at ha
  unfold longE longT NC.leftV NC.untV NC.aftV NC.addV NC.moV NC.limV at *
  rw [hlead] at h ⊢
  generalize wantE x p = wt at *
  split at h <;> split <;> simp_all <;> omega
theorem prom_bou (p : NO.PktA) (k : Int) (hlead : x.lead = 10) (hmost : x.most = 1000) (hn : 0 ≤ now) (hn2 : now ≤ 549755813888) (hT : TabL L) (hm : m ∈ L) (h : 1 ≤ longE x p now m) (X : AnsV) (hs : X.send = true) (hr : X.reply = promE x p k m.addr (longE x p now m)) : BouE x now p (some L) X := by
  obtain ⟨h1, h2⟩ := long_bou p hlead hmost hn hn2 (hT.right m hm) h
  have ha := (hT.right m hm).acked
  unfold TimeL at ha
  exact .some L m _ hs rfl (by rw [hr]; exact look_self hT hm) (by rw [hr]; exact prom_51 _ _ _ _ _) h h1 h2 (by rw [hr]; rfl) (by rw [hr]; rfl) (by rw [hr]; rfl) ha
theorem still_bou (p : NO.PktA) (X : AnsV) (hs : X.send = false) (hr : X.reply = zeroPA) : BouE x now p Lo X := .none false [] (by rw [hr]; rfl) (by decide) (.inl hs) (by rw [hr]; rfl)
theorem reply_bou (p : NO.PktA) (k : Int) : BouE x now p Lo (sentA (replyE x p k [])) := .none false [] (reply_51 _ _ _) (by decide) (.inr ⟨rfl, rfl⟩) rfl
theorem answer_bou (p : NO.PktA) (ok fair : Bool) (hlead : x.lead = 10) (hmost : x.most = 1000) (hn : 0 ≤ now) (hn2 : now ≤ 549755813888) (hT : ∀ L, Lo = some L → TabL L) : BouE x now p Lo (answerE x ok fair Lo s now entry p) := by
  unfold answerE
  split
  · exact no_bou p
  · rename_i L
    have hl := hT L rfl
    split
    · unfold kindE
      split
      · unfold offerE
        split
        · exact no_bou p
        · split
          · exact no_bou p
          · rename_i m hm
            split
            · exact no_bou p
            · exact prom_bou p 2 hlead hmost hn hn2 hl (pick_own hm).1 (by omega) _ rfl rfl
      · split
        · unfold requestE
          split
          · exact no_bou p
          · split
            · rename_i m hm
              obtain ⟨h1, _, h3⟩ := look_in hm
              unfold givesE at h3
              simp only [Bool.and_eq_true, decide_eq_true_eq] at h3
              exact prom_bou p 5 hlead hmost hn hn2 hl h1 h3.1 _ rfl rfl
            · split
              · exact no_bou p
              · exact reply_bou p 6
        · split
          · unfold declineE
            split
            · exact no_bou p
            · exact still_bou p _ rfl rfl
          · split
            · unfold releaseE
              split
              · exact no_bou p
              · exact still_bou p _ rfl rfl
            · split
              · exact reply_bou p 5
              · exact no_bou p
    · exact no_bou p
end
end Go.Proofs.YtmaohnbddlccdaaGreat
