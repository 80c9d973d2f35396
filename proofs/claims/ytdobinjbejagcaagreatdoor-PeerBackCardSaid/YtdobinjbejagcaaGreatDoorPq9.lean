import Derived.Test.YtdobinjbejagcaaGreatDoorPq7
import Derived.Test.YtdobinjbejagcaaGreatDoorPq8
import Derived.Test.YtdobinjbejagcaaGreatDoorPw4
namespace Go.Proofs.YtdobinjbejagcaaGreatDoor
open Go Go.RowKit
theorem pparse_any:ParD:=fun S w hs=>by
 by_cases h:1000<S.size
 ·exact pparse_long S w h
 ·rcases scan_fitP S (by omega) with ⟨q,e,hq,he⟩ | ⟨ts,ht,hf,hl⟩
  ·exact pparse_noscan S w (by omega) q e hq he
  ·have e:parsePe S.data.toList=outPe S.size ts:=by
    unfold parsePe;rw[if_neg (by rw[len_data];omega),ht];show outPe S.data.toList.length ts=_;rw[len_data]
   rw[e];exact pparse_scan S w (by omega) ts ht hf hl fun A n c=>plink_any S A n c ts
end Go.Proofs.YtdobinjbejagcaaGreatDoor
