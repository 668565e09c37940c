/- Orders of leases, as numbers: by address, and by (Until, address). -/
import Derived.Test.YtjkkdmfpekkfhaaTabP
import Derived.Test.YtjkkdmfpekkfhaaAddrL
namespace Go.Proofs.Ytjkkdmfpekkfhaa

def cmpI (x y : Int) : Int := if x < y then -1 else if y < x then 1 else 0
def cmpA (x y : LV) : Int := cmpN x.addr y.addr
/-- Until first, and of one Until the address. -/
def cmpD (x y : LV) : Int := if cmpI x.unt y.unt = 0 then cmpN x.addr y.addr else cmpI x.unt y.unt
end Go.Proofs.Ytjkkdmfpekkfhaa
