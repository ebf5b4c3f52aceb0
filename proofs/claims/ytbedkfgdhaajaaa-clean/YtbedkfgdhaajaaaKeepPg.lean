/- Walks: pages (package tenantskeep). -/
import Derived.Test.YtbedkfgdhaajaaaKeep
namespace Go.Proofs.Ytbedkfgdhaajaaa
open Go.RowKit

set_option maxHeartbeats 400000 in
theorem kpages_any (a b : Nat) (w : World) (h1 : a ≤ 255) (h2 : b ≤ 255) :
    Calls Try.prog 33 #[.int .i64 a, .int .i64 b] w fun e w' => e = .returned (.int .i64 (pg ((a : Int) * b))) ∧ w' = w := by
  obtain ⟨m1, m2⟩ := mul255 h1 h2
  go_enter Try.func33, Try.ntmps33
  go_wp2
  go_ret
  exact ⟨retI (by unfold pg; omega), rfl⟩

end Go.Proofs.Ytbedkfgdhaajaaa
