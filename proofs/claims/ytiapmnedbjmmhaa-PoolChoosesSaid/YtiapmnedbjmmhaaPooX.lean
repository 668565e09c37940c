/- The program's pool is what is asked of one (written ahead of the landing: chosen_any is still to be shown of the landed code, in PooH). -/
import Derived.Test.YtiapmnedbjmmhaaPooG
import Derived.Test.YtiapmnedbjmmhaaPooH
import Derived.Test.YtiapmnedbjmmhaaPooK
namespace Go.Proofs.Ytiapmnedbjmmhaa
theorem pool_any : PoolK where
  giv := fun p s id f b W => gives_any p s id f b W
  cho := fun p s id A c L W hE hL => chosen_any p s id A c L W hE hL
end Go.Proofs.Ytiapmnedbjmmhaa
