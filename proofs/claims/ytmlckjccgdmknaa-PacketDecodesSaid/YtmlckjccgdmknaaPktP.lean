/- Plain mathematics of packets: their bytes. -/
import Derived.Test.YtmlckjccgdmknaaPktN
namespace Go.Proofs.Ytmlckjccgdmknaa

def headA (a : PktA) : Bool := (a.op == 1 || a.op == 2) && shortB a.secs && shortB a.flags && decide (1 ≤ a.hw.length) && decide (a.hw.length ≤ 16)
def rightA (a : PktA) : Bool := ((encL a.opts).2 == 0) && headA a
theorem right_abs (p : PktV) : rightB p = rightA p.abs := rfl

/-- The bytes ahead of the options. -/
def headL (a : PktA) : List UInt8 :=
  [UInt8.ofNat a.op.toNat, 1, UInt8.ofNat a.hw.length, 0] ++ beL a.xid 4 ++ beL a.secs.toNat 2 ++ beL a.flags.toNat 2 ++ [a.ci, a.yi, a.si, a.gi].flatMap (beL · 4) ++ a.hw ++ List.replicate (16 - a.hw.length + 192) 0 ++ [99, 130, 83, 99]
theorem headL_length (a : PktA) (h : a.hw.length ≤ 16) : (headL a).length = 240 := by
  simp [headL, beL_length]
  omega
/-- A packet's bytes, and the error's number. -/
def encP (a : PktA) : List UInt8 × Int := if rightA a then (headL a ++ (encL a.opts).1, 0) else ([], 1)
theorem encP_bad {a : PktA} (h : rightA a = false) : encP a = ([], 1) := by simp [encP, h]
theorem encP_ok {a : PktA} (h : rightA a = true) : encP a = (headL a ++ (encL a.opts).1, 0) := by simp [encP, h]
theorem encL_len (l : List (Int × List UInt8)) : (encL l).1.length ≤ 1024 := by
  unfold encL
  split
  · split
    · simp; omega
    · simp
  · simp
theorem right_iff (p : PktV) : rightB p = true ↔ (encL (absL p.L)).2 = 0 ∧ headB p = true := by simp [rightB]
end Go.Proofs.Ytmlckjccgdmknaa
