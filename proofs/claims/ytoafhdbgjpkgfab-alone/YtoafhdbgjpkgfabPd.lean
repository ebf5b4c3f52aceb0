/- The program's commands one by one, as plain facts (P10 to P12). -/
import Derived.Test.YtoafhdbgjpkgfabPrg
namespace Go.Proofs.Ytoafhdbgjpkgfab

/-- the error of a command -/
def per (R : Rm) (m : List UInt8) : Int :=
  if bn m 0 = 1 then can R.bs (bn m 1) (bn m 2) (bn m 3)
  else if bn m 0 = 5 then cer (bn m 1) (bn m 2) (m.drop 3)
  else if bn m 0 = 2 ∨ bn m 0 = 3 ∨ bn m 0 = 4 ∨ bn m 0 = 6 then (if thr R (bn m 1) = true then 0 else 2)
  else 1

section
variable {R : Rm} {m : List UInt8}
theorem per_1 (h : bn m 0 = 1) : per R m = can R.bs (bn m 1) (bn m 2) (bn m 3) := if_pos h
theorem per_5 (h : bn m 0 = 5) : per R m = cer (bn m 1) (bn m 2) (m.drop 3) := by unfold per; rw [if_neg (by omega), if_pos h]
theorem per_h (h : bn m 0 = 2 ∨ bn m 0 = 3 ∨ bn m 0 = 4 ∨ bn m 0 = 6) : per R m = if thr R (bn m 1) = true then 0 else 2 := by unfold per; rw [if_neg (by omega), if_neg (by omega), if_pos h]
theorem per_o (h1 : ¬ bn m 0 = 1) (h2 : ¬ bn m 0 = 2) (h3 : ¬ bn m 0 = 3) (h4 : ¬ bn m 0 = 4) (h5 : ¬ bn m 0 = 5) (h6 : ¬ bn m 0 = 6) : per R m = 1 := by unfold per; rw [if_neg h1, if_neg h5, if_neg (by omega)]

theorem cer_bd (k n : Nat) (s : List UInt8) : 0 ≤ cer k n s ∧ cer k n s ≤ 7 := by unfold cer; split <;> (try split) <;> (try split) <;> omega
theorem per_bd (R : Rm) (m : List UInt8) : 0 ≤ per R m ∧ per R m ≤ 7 := by
  have := can_bd R.bs (bn m 1) (bn m 2) (bn m 3)
  have := cer_bd (bn m 1) (bn m 2) (m.drop 3)
  unfold per
  split
  · omega
  · split
    · omega
    · split
      · split <;> omega
      · omega

theorem pd_1 (h : bn m 0 = 1) : pd R m = ([eb (can R.bs (bn m 1) (bn m 2) (bn m 3))], if can R.bs (bn m 1) (bn m 2) (bn m 3) = 0 then 1 + (bn m 2 : Int) * bn m 3 else 1, if can R.bs (bn m 1) (bn m 2) (bn m 3) = 0 then rCreate R (bn m 1) (bn m 2) (bn m 3) else R) := by
  rw [pd_n7 (by omega)]; unfold ddo; rw [if_pos h]
theorem pd_5 (h : bn m 0 = 5) : pd R m = ([eb (cer (bn m 1) (bn m 2) (m.drop 3))], if cer (bn m 1) (bn m 2) (m.drop 3) = 0 then 1 + (bn m 2 : Int) else 1, if cer (bn m 1) (bn m 2) (m.drop 3) = 0 then rCode R (bn m 1) (m.drop 3) else R) := by
  rw [pd_n7 (by omega)]; unfold ddo; rw [if_neg (by omega), if_pos h]
theorem pd_no (h : bn m 0 = 2 ∨ bn m 0 = 3 ∨ bn m 0 = 4 ∨ bn m 0 = 6) (ht : ¬ thr R (bn m 1) = true) : pd R m = ([2], 1, R) := by
  rw [pd_n7 (by omega)]; unfold ddo
  rw [if_neg (by omega), if_neg (by omega), if_neg (by omega), if_neg (by omega), if_pos (by simpa using ht)]
theorem pd_2 (h : bn m 0 = 2) (ht : thr R (bn m 1) = true) : pd R m = ([0], 1, rDrop R (bn m 1)) := by
  rw [pd_n7 (by omega)]; unfold ddo
  rw [if_neg (by omega), if_neg (by omega), if_neg (by omega), if_neg (by omega), if_neg (by rw [ht]; simp), if_pos h]
theorem pd_3 (h : bn m 0 = 3) (ht : thr R (bn m 1) = true) : pd R m = ([0], 1 + (bn m 4 : Int), rBytes R (bn m 1) (wrt (R.bs (bn m 1)) (wrd m 2) (m.drop 5))) := by
  rw [pd_n7 (by omega)]; unfold ddo
  rw [if_neg (by omega), if_neg (by omega), if_neg (by omega), if_neg (by omega), if_neg (by rw [ht]; simp), if_neg (by omega), if_pos h]
theorem pd_4 (h : bn m 0 = 4) (ht : thr R (bn m 1) = true) : pd R m = (0 :: rdb (R.bs (bn m 1)) (wrd m 2) (bn m 4), 1 + (bn m 4 : Int), R) := by
  rw [pd_n7 (by omega)]; unfold ddo
  rw [if_neg (by omega), if_neg (by omega), if_neg (by omega), if_neg (by omega), if_neg (by rw [ht]; simp), if_neg (by omega), if_neg (by omega), if_pos h]
theorem pd_6 (h : bn m 0 = 6) (ht : thr R (bn m 1) = true) : pd R m = ([0], 1 + ((R.bs (bn m 1)).length : Int), rBytes R (bn m 1) (List.replicate (R.bs (bn m 1)).length (m.getD 2 0))) := by
  rw [pd_n7 (by omega)]; unfold ddo
  rw [if_neg (by omega), if_neg (by omega), if_neg (by omega), if_neg (by omega), if_neg (by rw [ht]; simp), if_neg (by omega), if_neg (by omega), if_neg (by omega)]
theorem pd_o (h1 : ¬ bn m 0 = 1) (h2 : ¬ bn m 0 = 2) (h3 : ¬ bn m 0 = 3) (h4 : ¬ bn m 0 = 4) (h5 : ¬ bn m 0 = 5) (h6 : ¬ bn m 0 = 6) : pd R m = ([1], 1, R) := by
  by_cases h7 : bn m 0 = 7
  · exact pd_7 h7
  · rw [pd_n7 h7]; unfold ddo
    rw [if_neg h1, if_neg h5, if_neg h7, if_pos (by omega)]

/-- a command with an error -/
theorem pd_bad (h : ¬ per R m = 0) : pd R m = ([eb (per R m)], 1, R) := by
  by_cases h1 : bn m 0 = 1
  · rw [per_1 h1] at h ⊢; rw [pd_1 h1, if_neg h, if_neg h]
  · by_cases h5 : bn m 0 = 5
    · rw [per_5 h5] at h ⊢; rw [pd_5 h5, if_neg h, if_neg h]
    · by_cases hh : bn m 0 = 2 ∨ bn m 0 = 3 ∨ bn m 0 = 4 ∨ bn m 0 = 6
      · rw [per_h hh] at h ⊢
        split at h
        · exact absurd rfl h
        · rename_i ht
          rw [if_neg ht, pd_no hh ht]; rfl
      · rw [per_o h1 (by omega) (by omega) (by omega) h5 (by omega), pd_o h1 (by omega) (by omega) (by omega) h5 (by omega)]; rfl

theorem per_thr (h : bn m 0 = 2 ∨ bn m 0 = 3 ∨ bn m 0 = 4 ∨ bn m 0 = 6) (h0 : per R m = 0) : thr R (bn m 1) = true := by
  rw [per_h h] at h0
  split at h0
  · assumption
  · omega

/-- what a command replies begins with its error -/
theorem pd_head (R : Rm) (m : List UInt8) : (pd R m).1 = eb (per R m) :: (pd R m).1.tail := by
  by_cases h : per R m = 0
  · by_cases h1 : bn m 0 = 1
    · rw [pd_1 h1, per_1 h1]; rfl
    · by_cases h5 : bn m 0 = 5
      · rw [pd_5 h5, per_5 h5]; rfl
      · by_cases hh : bn m 0 = 2 ∨ bn m 0 = 3 ∨ bn m 0 = 4 ∨ bn m 0 = 6
        · have ht := per_thr hh h
          rw [h]
          rcases hh with k | k | k | k
          · rw [pd_2 k ht]; rfl
          · rw [pd_3 k ht]; rfl
          · rw [pd_4 k ht]; rfl
          · rw [pd_6 k ht]; rfl
        · rw [per_o h1 (by omega) (by omega) (by omega) h5 (by omega)] at h; omega
  · rw [pd_bad h]; rfl
end

end Go.Proofs.Ytoafhdbgjpkgfab
