/- Joined texts: EngP, EngM, EngA. -/
import Derived.Test.YtmaohnbddlccdaaGreatMrgGraD
import Derived.Test.YtmaohnbddlccdaaGreatMrgGraM
import Derived.Test.YtmaohnbddlccdaaGreatMrgRatP
import Derived.Test.YtmaohnbddlccdaaGreatMrgBalP
import Derived.Test.YtmaohnbddlccdaaGreatMrgPktN
import Derived.Test.YtmaohnbddlccdaaGreatMrgTabP
import Derived.Test.YtmaohnbddlccdaaGreatMrgPktM
import Derived.Lib.QuietBelow
import Derived.Deep.RegionLaw
import Derived.BigQuiet

/- engine, pure: a site; what a server answers to a packet (P20.1), as a function. -/
section
namespace Go.Proofs.YtmaohnbddlccdaaGreat
open Go.RowKit

/-- A site, as it lies. -/
structure SiteV where
  id : Int
  lead : Int
  guard : Int
  server : Nat
  want : Int
  most : Int
  first : Int
  part : Nat
  slack : Nat
  renew : Nat
  rebind : Nat
  plA : Option Addr
  plC : Nat
  pl : List (Nat × Nat)
  room : Int
abbrev SiteV.cells (x : SiteV) : Array Value := #[.int .i64 x.id, .int .i64 x.lead, .int .i64 x.guard, .int .u32 (x.server : Int), .int .i64 x.want, .int .i64 x.most, .int .i64 x.first, .float .f64 x.part, .float .f64 x.slack, .float .f64 x.renew, .float .f64 x.rebind, .slice x.plA x.pl.length x.plC, .int .i64 x.room]
abbrev SiteV.v (x : SiteV) : Value := .agg x.cells
def witB (n lo hi : Int) : Bool := decide (lo ≤ n) && decide (n ≤ hi)
/-- May a site be? code: what Pool says of its pool. -/
def siteB (x : SiteV) (code : Int) : Bool := code == 0 && witB x.id 0 1 && witB x.lead 0 1073741824 && witB x.guard 0 1073741824 && witB x.most 1 1073741824 && witB x.want 1 x.most && witB x.first 0 256 && witB x.room 1 1048576

/-- What is answered. -/
structure AnsV where
  send : Bool
  reply : NO.PktA
  change : Bool
  lease : LV
  pot : Int
def zeroPA : NO.PktA := ⟨0, 0, 0, 0, 0, 0, 0, 0, [], []⟩
def noA : AnsV := ⟨false, zeroPA, false, zeroL, 0⟩
def sentA (p : NO.PktA) : AnsV := ⟨true, p, false, zeroL, 0⟩

def theirsB (m : LV) (c : List UInt8) : Bool := m.bind == 2 && m.client == c
/-- For how long the address of m may be promised. -/
def longT (lead now want : Int) (c : List UInt8) (m : LV) : Int := min (NC.leftV now (NC.untV lead now want (if theirsB m c then m.acked else 0))) 4294967295
def wantE (x : SiteV) (p : NO.PktA) : Int := min (if NO.longA p = 0 then x.want else (NO.longA p : Int)) x.most
def mayE (x : SiteV) (s now entry : Int) (m : LV) : Bool := NC.mayV x.id x.lead x.guard m s now entry
def longE (x : SiteV) (p : NO.PktA) (now : Int) (m : LV) : Int := longT x.lead now (wantE x p) (NO.clientA p) m
def mineE (x : SiteV) (c : List UInt8) : Bool := if x.id = 1 then !decide ((NB.bkN c : Int) < x.first) else decide ((NB.bkN c : Int) < x.first)
/-- The option that tells a number. -/
def optE (code n many : Int) : Int × List UInt8 := (code, (NO.bytR n many).1)
def replyE (x : SiteV) (p : NO.PktA) (kind : Int) (more : List (Int × List UInt8)) : NO.PktA :=
  ⟨2, p.xid, 0, p.flags, if kind = 5 then p.ci else 0, 0, x.server, p.gi, p.hw, [optE 53 kind 1, optE 54 (x.server : Int) 4] ++ more⟩
def moreE (x : SiteV) (n : Int) : List (Int × List UInt8) := [optE 51 n 4, optE 58 (NR.Flo.partV n x.renew) 4, optE 59 (max (NR.Flo.partV n x.renew) (NR.Flo.partV n x.rebind)) 4]
/-- A reply with an address and a time. -/
def promE (x : SiteV) (p : NO.PktA) (kind : Int) (a : Nat) (n : Int) : NO.PktA := { replyE x p kind (moreE x n) with yi := a }
def lookE (L : List LV) (a : Nat) : Option LV := L.find? fun y => y.addr == a
/-- The address that a client is offered. -/
def pickE (c : List UInt8) (may : LV → Bool) (L : List LV) (a : Nat) : Option LV :=
  match L.find? (theirsB · c) with
  | some m => some m
  | none => match (lookE L a).filter may with
    | some m => some m
    | none => L.find? may
def offerE (x : SiteV) (L : List LV) (s now entry : Int) (p : NO.PktA) : AnsV :=
  if s = 1 ∧ mineE x (NO.clientA p) = false then noA
  else match pickE (NO.clientA p) (mayE x s now entry) L (NO.askA p) with
    | none => noA
    | some m => if longE x p now m < 1 then noA else sentA (promE x p 2 m.addr (longE x p now m))
/-- The server that a packet tells. -/
def toldE (p : NO.PktA) : Bool := decide ((NO.fd p 54).length = 4)
def boundE (x : SiteV) (now : Int) (p : NO.PktA) (m : LV) : AnsV :=
  ⟨true, promE x p 5 m.addr (longE x p now m), true, NC.lsV x.lead m ⟨(NO.clientA p).toArray⟩ now (wantE x p), NC.potV (NC.lsV x.lead m ⟨(NO.clientA p).toArray⟩ now (wantE x p)) now (wantE x p)⟩
def givesE (x : SiteV) (s now entry : Int) (p : NO.PktA) (m : LV) : Bool := decide (1 ≤ longE x p now m) && (theirsB m (NO.clientA p) || mayE x s now entry m)
def sharedB (m : LV) : Bool := m.bind == 0 || m.bind == 1
def requestE (x : SiteV) (L : List LV) (s now entry : Int) (p : NO.PktA) : AnsV :=
  if toldE p = true ∧ NO.numL (NO.fd p 54) ≠ x.server then noA
  else match (lookE L (NO.askA p)).filter (givesE x s now entry p) with
    | some m => boundE x now p m
    | none => if ((lookE L (NO.askA p)).filter sharedB).isSome = true ∧ toldE p = false then noA else sentA (replyE x p 6 [])
def declineE (L : List LV) (p : NO.PktA) : AnsV :=
  match (lookE L (NO.askA p)).filter (theirsB · (NO.clientA p)) with
  | none => noA
  | some m => ⟨false, zeroPA, true, bareL m.addr 5 m.ver, 0⟩
def releaseE (L : List LV) (now : Int) (p : NO.PktA) : AnsV :=
  match (lookE L p.ci).filter (theirsB · (NO.clientA p)) with
  | none => noA
  | some m => ⟨false, zeroPA, true, { m with bind := 4, at_ := now }, 0⟩
def kindE (x : SiteV) (L : List LV) (s now entry : Int) (p : NO.PktA) : AnsV :=
  if NO.kindA p = 1 then offerE x L s now entry p
  else if NO.kindA p = 3 then requestE x L s now entry p
  else if NO.kindA p = 4 then declineE L p
  else if NO.kindA p = 7 then releaseE L now p
  else if NO.kindA p = 8 then sentA (replyE x p 5 [])
  else noA
/-- ok: the site may be; fair: the packet may be. -/
def answerE (x : SiteV) (ok fair : Bool) (L : Option (List LV)) (s now entry : Int) (p : NO.PktA) : AnsV :=
  match L with
  | none => noA
  | some L => if ok = true ∧ NC.ServesI s ∧ witB now 0 1099511627776 = true ∧ fair = true ∧ p.op = 1 then kindE x L s now entry p else noA
end Go.Proofs.YtmaohnbddlccdaaGreat
end

/- engine: the query's block. (Written by wip/tools/genengm.py.) -/
section
namespace Go.Proofs.YtmaohnbddlccdaaGreat
open Go.RowKit Go.Sort

/-- A query, as it lies. -/
structure QV where
  x : SiteV
  A : Option Addr
  c : Nat
  ol : List (Nat × Nat)
  p : NO.PktV
  cl : List UInt8
  ad : Nat
  want : Int
  tp : Option Addr
  s : Int
  now : Int
  entry : Int
abbrev QV.cells (q : QV) : Array Value := #[.int .i64 q.x.id, .int .i64 q.x.lead, .int .i64 q.x.guard, .int .u32 (q.x.server : Int), .int .i64 q.x.want, .int .i64 q.x.most, .int .i64 q.x.first, .float .f64 q.x.part, .float .f64 q.x.slack, .float .f64 q.x.renew, .float .f64 q.x.rebind, .slice q.x.plA q.x.pl.length q.x.plC, .int .i64 q.x.room, .slice q.A q.ol.length q.c, .int .i64 q.x.id, .int .i64 q.x.lead, .int .i64 q.x.guard, .int .i64 q.p.op, .int .u32 (q.p.xid : Int), .int .i64 q.p.secs, .int .i64 q.p.flags, .int .u32 (q.p.ci : Int), .int .u32 (q.p.yi : Int), .int .u32 (q.p.si : Int), .int .u32 (q.p.gi : Int), .slice q.p.hwA q.p.hw.length q.p.hwC, .slice q.p.opA q.p.L.length q.p.opC, .string ⟨q.cl.toArray⟩, .int .u32 (q.ad : Int), .int .i64 q.want, .pointer q.tp, .int .i64 q.s, .int .i64 q.now, .int .i64 q.entry]
abbrev qbox (q : QV) : Obj := .cells q.cells 77
/-- A pointer to a block. -/
abbrev ptE (g : Nat) : Value := .pointer (some ⟨g, 0, none⟩)

/-- The query in block g, and its packet. -/
structure QM (w : World) (g : Nat) (q : QV) : Prop where
  box : w.heap[g]? = some (.cells q.cells 77 (0, 0))
  pk : NO.Pk w w.heap.size q.p
section
variable {w w' : World} {g : Nat} {q : QV}
theorem QM.lt (h : QM w g q) : g < w.heap.size := (Array.getElem?_eq_some_iff.1 h.box).1
theorem QM.later (h : QM w g q) (hb : Below w.heap.size w w') : QM w' g q := ⟨(hb.block g h.lt).trans h.box, h.pk.later hb⟩
theorem QM.alloc (h : QM w g q) (o : Obj) : QM (w.alloc o) g q := h.later ((Below.refl _ _).alloc (Nat.le_refl _) o)
theorem QM.drew (h : QM w g q) : QM w.drew g q := ⟨h.box, h.pk.drew⟩
theorem QM.drewN (h : QM w g q) (n : Nat) : QM (w.drewN n) g q := ⟨h.box, h.pk.drewN n⟩
theorem QM.regrown (h : QM w g q) (d : Nat) (os : Array Obj) : QM (grow (redrawn w d) os) g q := h.later (below_regrown w d os)
theorem QM.at_ (h : QM w g q) (i : Nat) : w.cell? ⟨g, i, none⟩ = q.cells[i]? := cell_of_row w g i _ _ _ h.box
theorem QM.c0 (h : QM w g q) : w.cell? ⟨g, 0, none⟩ = some (.int .i64 q.x.id) := h.at_ 0
theorem QM.r0 (h : QM w g q) (d : Nat) (os : Array Obj) : (grow (redrawn w d) os).cell? ⟨g, 0, none⟩ = some (.int .i64 q.x.id) := cell_regrown h.c0 d os
theorem QM.c1 (h : QM w g q) : w.cell? ⟨g, 1, none⟩ = some (.int .i64 q.x.lead) := h.at_ 1
theorem QM.r1 (h : QM w g q) (d : Nat) (os : Array Obj) : (grow (redrawn w d) os).cell? ⟨g, 1, none⟩ = some (.int .i64 q.x.lead) := cell_regrown h.c1 d os
theorem QM.c2 (h : QM w g q) : w.cell? ⟨g, 2, none⟩ = some (.int .i64 q.x.guard) := h.at_ 2
theorem QM.r2 (h : QM w g q) (d : Nat) (os : Array Obj) : (grow (redrawn w d) os).cell? ⟨g, 2, none⟩ = some (.int .i64 q.x.guard) := cell_regrown h.c2 d os
theorem QM.c3 (h : QM w g q) : w.cell? ⟨g, 3, none⟩ = some (.int .u32 (q.x.server : Int)) := h.at_ 3
theorem QM.r3 (h : QM w g q) (d : Nat) (os : Array Obj) : (grow (redrawn w d) os).cell? ⟨g, 3, none⟩ = some (.int .u32 (q.x.server : Int)) := cell_regrown h.c3 d os
theorem QM.c4 (h : QM w g q) : w.cell? ⟨g, 4, none⟩ = some (.int .i64 q.x.want) := h.at_ 4
theorem QM.r4 (h : QM w g q) (d : Nat) (os : Array Obj) : (grow (redrawn w d) os).cell? ⟨g, 4, none⟩ = some (.int .i64 q.x.want) := cell_regrown h.c4 d os
theorem QM.c5 (h : QM w g q) : w.cell? ⟨g, 5, none⟩ = some (.int .i64 q.x.most) := h.at_ 5
theorem QM.r5 (h : QM w g q) (d : Nat) (os : Array Obj) : (grow (redrawn w d) os).cell? ⟨g, 5, none⟩ = some (.int .i64 q.x.most) := cell_regrown h.c5 d os
theorem QM.c6 (h : QM w g q) : w.cell? ⟨g, 6, none⟩ = some (.int .i64 q.x.first) := h.at_ 6
theorem QM.r6 (h : QM w g q) (d : Nat) (os : Array Obj) : (grow (redrawn w d) os).cell? ⟨g, 6, none⟩ = some (.int .i64 q.x.first) := cell_regrown h.c6 d os
theorem QM.c7 (h : QM w g q) : w.cell? ⟨g, 7, none⟩ = some (.float .f64 q.x.part) := h.at_ 7
theorem QM.r7 (h : QM w g q) (d : Nat) (os : Array Obj) : (grow (redrawn w d) os).cell? ⟨g, 7, none⟩ = some (.float .f64 q.x.part) := cell_regrown h.c7 d os
theorem QM.c8 (h : QM w g q) : w.cell? ⟨g, 8, none⟩ = some (.float .f64 q.x.slack) := h.at_ 8
theorem QM.r8 (h : QM w g q) (d : Nat) (os : Array Obj) : (grow (redrawn w d) os).cell? ⟨g, 8, none⟩ = some (.float .f64 q.x.slack) := cell_regrown h.c8 d os
theorem QM.c9 (h : QM w g q) : w.cell? ⟨g, 9, none⟩ = some (.float .f64 q.x.renew) := h.at_ 9
theorem QM.r9 (h : QM w g q) (d : Nat) (os : Array Obj) : (grow (redrawn w d) os).cell? ⟨g, 9, none⟩ = some (.float .f64 q.x.renew) := cell_regrown h.c9 d os
theorem QM.c10 (h : QM w g q) : w.cell? ⟨g, 10, none⟩ = some (.float .f64 q.x.rebind) := h.at_ 10
theorem QM.r10 (h : QM w g q) (d : Nat) (os : Array Obj) : (grow (redrawn w d) os).cell? ⟨g, 10, none⟩ = some (.float .f64 q.x.rebind) := cell_regrown h.c10 d os
theorem QM.c11 (h : QM w g q) : w.cell? ⟨g, 11, none⟩ = some (.slice q.x.plA q.x.pl.length q.x.plC) := h.at_ 11
theorem QM.r11 (h : QM w g q) (d : Nat) (os : Array Obj) : (grow (redrawn w d) os).cell? ⟨g, 11, none⟩ = some (.slice q.x.plA q.x.pl.length q.x.plC) := cell_regrown h.c11 d os
theorem QM.c12 (h : QM w g q) : w.cell? ⟨g, 12, none⟩ = some (.int .i64 q.x.room) := h.at_ 12
theorem QM.r12 (h : QM w g q) (d : Nat) (os : Array Obj) : (grow (redrawn w d) os).cell? ⟨g, 12, none⟩ = some (.int .i64 q.x.room) := cell_regrown h.c12 d os
theorem QM.c13 (h : QM w g q) : w.cell? ⟨g, 13, none⟩ = some (.slice q.A q.ol.length q.c) := h.at_ 13
theorem QM.r13 (h : QM w g q) (d : Nat) (os : Array Obj) : (grow (redrawn w d) os).cell? ⟨g, 13, none⟩ = some (.slice q.A q.ol.length q.c) := cell_regrown h.c13 d os
theorem QM.c14 (h : QM w g q) : w.cell? ⟨g, 14, none⟩ = some (.int .i64 q.x.id) := h.at_ 14
theorem QM.r14 (h : QM w g q) (d : Nat) (os : Array Obj) : (grow (redrawn w d) os).cell? ⟨g, 14, none⟩ = some (.int .i64 q.x.id) := cell_regrown h.c14 d os
theorem QM.c15 (h : QM w g q) : w.cell? ⟨g, 15, none⟩ = some (.int .i64 q.x.lead) := h.at_ 15
theorem QM.r15 (h : QM w g q) (d : Nat) (os : Array Obj) : (grow (redrawn w d) os).cell? ⟨g, 15, none⟩ = some (.int .i64 q.x.lead) := cell_regrown h.c15 d os
theorem QM.c16 (h : QM w g q) : w.cell? ⟨g, 16, none⟩ = some (.int .i64 q.x.guard) := h.at_ 16
theorem QM.r16 (h : QM w g q) (d : Nat) (os : Array Obj) : (grow (redrawn w d) os).cell? ⟨g, 16, none⟩ = some (.int .i64 q.x.guard) := cell_regrown h.c16 d os
theorem QM.c17 (h : QM w g q) : w.cell? ⟨g, 17, none⟩ = some (.int .i64 q.p.op) := h.at_ 17
theorem QM.r17 (h : QM w g q) (d : Nat) (os : Array Obj) : (grow (redrawn w d) os).cell? ⟨g, 17, none⟩ = some (.int .i64 q.p.op) := cell_regrown h.c17 d os
theorem QM.c18 (h : QM w g q) : w.cell? ⟨g, 18, none⟩ = some (.int .u32 (q.p.xid : Int)) := h.at_ 18
theorem QM.r18 (h : QM w g q) (d : Nat) (os : Array Obj) : (grow (redrawn w d) os).cell? ⟨g, 18, none⟩ = some (.int .u32 (q.p.xid : Int)) := cell_regrown h.c18 d os
theorem QM.c19 (h : QM w g q) : w.cell? ⟨g, 19, none⟩ = some (.int .i64 q.p.secs) := h.at_ 19
theorem QM.r19 (h : QM w g q) (d : Nat) (os : Array Obj) : (grow (redrawn w d) os).cell? ⟨g, 19, none⟩ = some (.int .i64 q.p.secs) := cell_regrown h.c19 d os
theorem QM.c20 (h : QM w g q) : w.cell? ⟨g, 20, none⟩ = some (.int .i64 q.p.flags) := h.at_ 20
theorem QM.r20 (h : QM w g q) (d : Nat) (os : Array Obj) : (grow (redrawn w d) os).cell? ⟨g, 20, none⟩ = some (.int .i64 q.p.flags) := cell_regrown h.c20 d os
theorem QM.c21 (h : QM w g q) : w.cell? ⟨g, 21, none⟩ = some (.int .u32 (q.p.ci : Int)) := h.at_ 21
theorem QM.r21 (h : QM w g q) (d : Nat) (os : Array Obj) : (grow (redrawn w d) os).cell? ⟨g, 21, none⟩ = some (.int .u32 (q.p.ci : Int)) := cell_regrown h.c21 d os
theorem QM.c22 (h : QM w g q) : w.cell? ⟨g, 22, none⟩ = some (.int .u32 (q.p.yi : Int)) := h.at_ 22
theorem QM.r22 (h : QM w g q) (d : Nat) (os : Array Obj) : (grow (redrawn w d) os).cell? ⟨g, 22, none⟩ = some (.int .u32 (q.p.yi : Int)) := cell_regrown h.c22 d os
theorem QM.c23 (h : QM w g q) : w.cell? ⟨g, 23, none⟩ = some (.int .u32 (q.p.si : Int)) := h.at_ 23
theorem QM.r23 (h : QM w g q) (d : Nat) (os : Array Obj) : (grow (redrawn w d) os).cell? ⟨g, 23, none⟩ = some (.int .u32 (q.p.si : Int)) := cell_regrown h.c23 d os
theorem QM.c24 (h : QM w g q) : w.cell? ⟨g, 24, none⟩ = some (.int .u32 (q.p.gi : Int)) := h.at_ 24
theorem QM.r24 (h : QM w g q) (d : Nat) (os : Array Obj) : (grow (redrawn w d) os).cell? ⟨g, 24, none⟩ = some (.int .u32 (q.p.gi : Int)) := cell_regrown h.c24 d os
theorem QM.c25 (h : QM w g q) : w.cell? ⟨g, 25, none⟩ = some (.slice q.p.hwA q.p.hw.length q.p.hwC) := h.at_ 25
theorem QM.r25 (h : QM w g q) (d : Nat) (os : Array Obj) : (grow (redrawn w d) os).cell? ⟨g, 25, none⟩ = some (.slice q.p.hwA q.p.hw.length q.p.hwC) := cell_regrown h.c25 d os
theorem QM.c26 (h : QM w g q) : w.cell? ⟨g, 26, none⟩ = some (.slice q.p.opA q.p.L.length q.p.opC) := h.at_ 26
theorem QM.r26 (h : QM w g q) (d : Nat) (os : Array Obj) : (grow (redrawn w d) os).cell? ⟨g, 26, none⟩ = some (.slice q.p.opA q.p.L.length q.p.opC) := cell_regrown h.c26 d os
theorem QM.c27 (h : QM w g q) : w.cell? ⟨g, 27, none⟩ = some (.string ⟨q.cl.toArray⟩) := h.at_ 27
theorem QM.r27 (h : QM w g q) (d : Nat) (os : Array Obj) : (grow (redrawn w d) os).cell? ⟨g, 27, none⟩ = some (.string ⟨q.cl.toArray⟩) := cell_regrown h.c27 d os
theorem QM.c28 (h : QM w g q) : w.cell? ⟨g, 28, none⟩ = some (.int .u32 (q.ad : Int)) := h.at_ 28
theorem QM.r28 (h : QM w g q) (d : Nat) (os : Array Obj) : (grow (redrawn w d) os).cell? ⟨g, 28, none⟩ = some (.int .u32 (q.ad : Int)) := cell_regrown h.c28 d os
theorem QM.c29 (h : QM w g q) : w.cell? ⟨g, 29, none⟩ = some (.int .i64 q.want) := h.at_ 29
theorem QM.r29 (h : QM w g q) (d : Nat) (os : Array Obj) : (grow (redrawn w d) os).cell? ⟨g, 29, none⟩ = some (.int .i64 q.want) := cell_regrown h.c29 d os
theorem QM.c30 (h : QM w g q) : w.cell? ⟨g, 30, none⟩ = some (.pointer q.tp) := h.at_ 30
theorem QM.r30 (h : QM w g q) (d : Nat) (os : Array Obj) : (grow (redrawn w d) os).cell? ⟨g, 30, none⟩ = some (.pointer q.tp) := cell_regrown h.c30 d os
theorem QM.c31 (h : QM w g q) : w.cell? ⟨g, 31, none⟩ = some (.int .i64 q.s) := h.at_ 31
theorem QM.r31 (h : QM w g q) (d : Nat) (os : Array Obj) : (grow (redrawn w d) os).cell? ⟨g, 31, none⟩ = some (.int .i64 q.s) := cell_regrown h.c31 d os
theorem QM.c32 (h : QM w g q) : w.cell? ⟨g, 32, none⟩ = some (.int .i64 q.now) := h.at_ 32
theorem QM.r32 (h : QM w g q) (d : Nat) (os : Array Obj) : (grow (redrawn w d) os).cell? ⟨g, 32, none⟩ = some (.int .i64 q.now) := cell_regrown h.c32 d os
theorem QM.c33 (h : QM w g q) : w.cell? ⟨g, 33, none⟩ = some (.int .i64 q.entry) := h.at_ 33
theorem QM.r33 (h : QM w g q) (d : Nat) (os : Array Obj) : (grow (redrawn w d) os).cell? ⟨g, 33, none⟩ = some (.int .i64 q.entry) := cell_regrown h.c33 d os
end
end Go.Proofs.YtmaohnbddlccdaaGreat
end

/- engine: within, shared; has, may, gives, long of a query. (Written by wip/tools/genenga.py.) -/
section
namespace Go.Proofs.YtmaohnbddlccdaaGreat
open Go.RowKit Go.Sort

theorem within_any (n lo hi : Int) (w : World) : Calls Tryz.prog 31 #[.int .i64 n, .int .i64 lo, .int .i64 hi] w fun e w' => e = .returned (.bool (witB n lo hi)) ∧ w = w' := by
  unfold witB
  cases h1 : decide (lo ≤ n)
  all_goals
    go_enter Tryz.func31, Tryz.ntmps31
    go_wp2
    go_ret
    exact ⟨rfl, rfl⟩

theorem shared_any (m : LV) (w : World) : Calls Tryz.prog 79 #[m.v] w fun e w' => e = .returned (.bool (sharedB m)) ∧ Below w.heap.size w w' := by
  have hb : Below w.heap.size w (w.alloc (lbox m)) := (Below.refl _ _).alloc (Nat.le_refl _) _
  unfold sharedB
  cases h1 : (m.bind == 0)
  all_goals
    go_enter Tryz.func79, Tryz.ntmps79
    go_wp2
    go_ret
    exact ⟨rfl, hb⟩

theorem below_drewN {B : Nat} (w : World) (_ : B ≤ w.heap.size) (n : Nat) : Below B w (w.drewN n) := ⟨rfl, rfl, rfl, Nat.le_refl _, fun _ _ => rfl⟩
theorem cb_toListA (m : LV) : m.cb.toList = m.client := by rw [ByteArray.toList_eq]; exact m.cb_data
/-- A contract that leaves the world as it was, met in a quiet region. -/
theorem qs {f : FuncId} {args : Array Value} {v : Value} (h : ∀ V, Calls Tryz.prog f args V fun e w' => e = .returned v ∧ V = w') (w : World) (d : Nat) (os : Array Obj) : Calls Tryz.prog f args (grow (redrawn w d) os) fun e w'' => e = .returned v ∧ ∃ p : Regrown, w'' = grow (redrawn w p.d) p.os :=
  NC.qb (fun V => (h V).mono fun _ _ ⟨he, hw⟩ => ⟨he, hw ▸ Below.refl _ _⟩) w d os

set_option maxRecDepth 100000 in
set_option maxHeartbeats 1000000 in
theorem qhas_any {g : Nat} {q : QV} (m : LV) {w : World} (hq : QM w g q) : Calls Tryz.prog 80 #[ptE g, m.v] w fun e w' => e = .returned (.bool (theirsB m q.cl)) ∧ Below w.heap.size w w' := by
  obtain ⟨w0, hw0⟩ : ∃ w0, w0 = w.alloc (lbox m) := ⟨_, rfl⟩
  have HL : Hid (LBox w0 w.heap.size m) := Lib.hid (by rw [hw0]; exact LBox.new w m)
  have HQ : Hid (QM w0 g q) := Lib.hid (by rw [hw0]; exact hq.alloc _)
  have HB : Hid (Below w.heap.size w w0) := Lib.hid (by rw [hw0]; exact (Below.refl _ _).alloc (Nat.le_refl _) _)
  have HW0 := Lib.hid hw0
  clear hw0 hq
  have c27 := HQ.out.c27
  have l1 := HL.out.c1
  have l2 := HL.out.c2
  unfold theirsB
  rw [← cb_toListA]
  cases h1 : (m.bind == 2)
  all_goals
    go_enter Tryz.func80, Tryz.ntmps80
    go_upto_region 1 with fail
    rw [← HW0.out]
    go_quiet (fail)
    go_wp2
    go_ret
    exact ⟨rfl, HB.out.trans (below_drewN w0 HB.out.size nq)⟩

set_option maxRecDepth 100000 in
set_option maxHeartbeats 1000000 in
theorem qmay_any {g : Nat} {q : QV} (m : LV) {w : World} (hq : QM w g q) : Calls Tryz.prog 119 #[ptE g, m.v] w fun e w' => e = .returned (.bool (mayE q.x q.s q.now q.entry m)) ∧ Below w.heap.size w w' := by
  obtain ⟨w0, hw0⟩ : ∃ w0, w0 = w.alloc (lbox m) := ⟨_, rfl⟩
  have HL : Hid (LBox w0 w.heap.size m) := Lib.hid (by rw [hw0]; exact LBox.new w m)
  have HQ : Hid (QM w0 g q) := Lib.hid (by rw [hw0]; exact hq.alloc _)
  have HB : Hid (Below w.heap.size w w0) := Lib.hid (by rw [hw0]; exact (Below.refl _ _).alloc (Nat.le_refl _) _)
  have HW0 := Lib.hid hw0
  clear hw0 hq
  have c14 := HQ.out.r14
  have c15 := HQ.out.r15
  have c16 := HQ.out.r16
  have c31 := HQ.out.r31
  have c32 := HQ.out.r32
  have c33 := HQ.out.r33
  obtain ⟨l0, l1, l2, l3, l4, l5, l6, l7⟩ := HL.out.allR
  unfold mayE
  have HM := Lib.hid (NC.qb (fun V => NC.may_any q.x.id q.x.lead q.x.guard q.s q.now q.entry m V) w0)
  go_enter Tryz.func119, Tryz.ntmps119
  go_upto_region 1 with fail
  rw [← HW0.out]
  refine wp_region_quiet_below (by kernel_rfl) (by kernel_rfl) ?_
  repeat (go_big_quiet_step (with_reducible exact HM.out _ _))
  refine wpQuiet_nil ?_
  intro _ hw'
  obtain ⟨⟨dq, osq⟩, hw''⟩ := hw'
  subst hw''
  have HB1 := Lib.hid (HB.out.trans ((below_regrown w0 dq osq).mono HB.out.size))
  go_wp2
  go_ret
  exact ⟨rfl, HB1.out⟩

set_option maxRecDepth 100000 in
set_option maxHeartbeats 1000000 in
theorem qlong_any {g : Nat} {q : QV} (m : LV) {w : World} (hq : QM w g q) : Calls Tryz.prog 73 #[ptE g, m.v] w fun e w' => e = .returned (.int .i64 (longT q.x.lead q.now q.want q.cl m)) ∧ Below w.heap.size w w' := by
  obtain ⟨w0, hw0⟩ : ∃ w0, w0 = w.alloc (lbox m) := ⟨_, rfl⟩
  have HL : Hid (LBox w0 w.heap.size m) := Lib.hid (by rw [hw0]; exact LBox.new w m)
  have HQ : Hid (QM w0 g q) := Lib.hid (by rw [hw0]; exact hq.alloc _)
  have HB : Hid (Below w.heap.size w w0) := Lib.hid (by rw [hw0]; exact (Below.refl _ _).alloc (Nat.le_refl _) _)
  have HW0 := Lib.hid hw0
  clear hw0 hq
  obtain ⟨l0, l1, l2, l3, l4, l5, l6, l7⟩ := HL.out.all
  have HH := Lib.hid (fun V (h : QM V g q) => qhas_any m h)
  unfold longT
  generalize theirsB m q.cl = b at *
  cases b
  all_goals
    go_enter Tryz.func73, Tryz.ntmps73
    go_upto_region 2 with fail
    rw [← HW0.out]
    go_wp2_with fail
    refine (HH.out _ HQ.out).mono ?_
    rintro e w1 ⟨rfl, hb1⟩
    have HQ1 := Lib.hid (HQ.out.later hb1)
    have HB1 := Lib.hid (HB.out.trans (hb1.mono HB.out.size))
    have k4 := (HL.out.later hb1).c4
    clear hb1 l0 l1 l2 l3 l4 l5 l6 l7
    go_upto_region 4 with fail
    clear k4
    have c14 := HQ1.out.r14
    have c15 := HQ1.out.r15
    have c16 := HQ1.out.r16
    have c29 := HQ1.out.r29
    have c32 := HQ1.out.r32
    try rw [if_pos (rfl : true = true)]
    try rw [if_neg (by decide : ¬ (false = true))]
    first
      | have HU := Lib.hid (NC.qb (fun V => NC.until_any q.x.id q.x.lead q.x.guard q.now q.want m.acked V) w1)
        have HF := Lib.hid (qs (fun V => NC.left_any q.now (NC.untV q.x.lead q.now q.want m.acked) V) w1)
        refine wp_region_quiet_below (by kernel_rfl) (by kernel_rfl) ?_
        repeat (go_big_quiet_step (first | (with_reducible exact HU.out _ _) | (with_reducible exact HF.out _ _)))
        refine wpQuiet_nil ?_
      | have HU := Lib.hid (NC.qb (fun V => NC.until_any q.x.id q.x.lead q.x.guard q.now q.want 0 V) w1)
        have HF := Lib.hid (qs (fun V => NC.left_any q.now (NC.untV q.x.lead q.now q.want 0) V) w1)
        refine wp_region_quiet_below (by kernel_rfl) (by kernel_rfl) ?_
        repeat (go_big_quiet_step (first | (with_reducible exact HU.out _ _) | (with_reducible exact HF.out _ _)))
        refine wpQuiet_nil ?_
    intro _ hw'
    obtain ⟨⟨dq, osq⟩, hw''⟩ := hw'
    subst hw''
    have HB2 := Lib.hid (HB1.out.trans ((below_regrown w1 dq osq).mono HB1.out.size))
    go_wp2
    all_goals
      go_ret
      refine ⟨?_, HB2.out⟩
      show Ending.returned (.int .i64 _) = _
      congr 2
      omega
end Go.Proofs.YtmaohnbddlccdaaGreat
end
