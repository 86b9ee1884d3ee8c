/- The contracts of package vector, over its code. Conditions: as VecC says. -/
import Derived.Test.YtgeggdaokjimjaaDoorPCodeA
import Derived.Test.YtgeggdaokjimjaaDoorPCodeM
namespace Go.Proofs.YtgeggdaokjimjaaDoor
theorem vecC : VecC :=
  ⟨fun V v w hg hv => vCheck_any V v w hg hv.m, fun V v r w hv hg _ _ => vFind_any V v r w hv.m hg.asc, fun V v r c w hv hg _ _ h0 h1 => vHas_any V v r c w hv.m hg h0 h1, fun V v w hg hv => vCanonical_any V v w hg hv.m,
   fun V v w hv hg => vCanon_any V v w hv hg, fun V v w hv => vNumbers_any V v w hv.m, fun V V' v v' w hv hv' => vCompare_any V V' v v' w hv.m hv'.m⟩
end Go.Proofs.YtgeggdaokjimjaaDoor
