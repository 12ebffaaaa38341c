import Derived.Sort.OwnSortedInts
import Derived.Test.YtohifgjeebhijaaGreatDoorVUb
import Derived.Test.YtohifgjeebhijaaGreatDoorVMsh
namespace Go.Proofs.YtohifgjeebhijaaGreatDoor
open Go.RowKit Go.Sort
theorem aK.holds {w:World} {B g n c:Nat} {l:List Int} (h:aK w B (.slice (some ⟨g,0,none⟩) n c) l):Holds (Value.int .i64) w g 0 l.toArray:=by
 rcases h.2 with ⟨h0,_⟩ | ⟨g',cap,cur,e,hbg,hg,h3,h4,h5,htake⟩
 ·cases h0
 ·cases e;exact holds_of_blockI hg (by simpa[dc] using htake)
end Go.Proofs.YtohifgjeebhijaaGreatDoor
