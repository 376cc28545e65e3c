/-
  Merged texts: ReG.
-/
import Derived.Test.YtlmndmfebgaidaaGreatDoorGnT
import Derived.Test.YtlmndmfebgaidaaGreatDoorGnU
namespace Go.Proofs.YtlmndmfebgaidaaGreatDoor
theorem rNode40 : RNode40 := fun r v W h hl hm => rnode13_any r v W h hl hm
theorem rfNode13 : RfNode13 := fun r v W h hl hm => rnode13_any r v W h (by omega) (by omega)
theorem rfRead13 : RfRead13 := fun t v W h hw _ _ => rread13_any rNode40 t v W h hw
end Go.Proofs.YtlmndmfebgaidaaGreatDoor
