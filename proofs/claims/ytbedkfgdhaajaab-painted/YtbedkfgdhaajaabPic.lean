/- What a Draw makes of an object of noughts (P13): plain facts for Painted. Nothing of the dump's is walked here. -/
import Derived.Test.YtbedkfgdhaajaabDocDraw
namespace Go.Proofs.Ytbedkfgdhaajaab

/-- a pixel whose turn has not come is as it was -/
theorem dst_later (R : Rm) (s : List UInt8) : ∀ i j, i ≤ j → bn (dst R s i).1 j = bn (R.bs (bn s 1)) j
  | 0, j, _ => rfl
  | i + 1, j, h => by
    have ih := dst_later R s i j (by omega)
    by_cases hp : dpx R s i = true
    · rw [dst_yes hp]
      simp only
      rw [← ih]
      unfold bn
      simp only [List.getD_eq_getElem?_getD]
      rw [List.getElem?_set_ne (by omega)]
    · rw [dst_no hp]; exact ih

/-- pixel number wd * y + x lies at x, y -/
theorem pix_at {wd x y : Nat} (h : x < wd) : ((wd * y + x : Nat) : Int) % wd = x ∧ ((wd * y + x : Nat) : Int) / wd = y := by
  have h1 : (wd * y + x) % wd = x := by rw [Nat.mul_add_mod, Nat.mod_eq_of_lt h]
  have h2 : (wd * y + x) / wd = y := by rw [Nat.mul_add_div (by omega), Nat.div_eq_of_lt h]; omega
  constructor
  · rw [← Int.natCast_emod, h1]
  · rw [← Int.natCast_ediv, h2]

end Go.Proofs.Ytbedkfgdhaajaab
