/- Plain facts on the document's commands (P8, P10 to P13). -/
import Derived.Test.YtbedkfgdhaajaabDocDraw
namespace Go.Proofs.Ytbedkfgdhaajaab

theorem bn_take {l : List UInt8} {n k : Nat} (h : k < n) : bn (l.take n) k = bn l k := by
  unfold bn
  rw [List.getD_eq_getElem?_getD, List.getD_eq_getElem?_getD, List.getElem?_take, if_pos h]

/-- the first command, cut off, is as long as it says -/
theorem dsz_take {l : List UInt8} (h0 : 0 < dsz l) (h1 : dsz l ≤ l.length) : dsz (l.take (dsz l)) = dsz l := by
  obtain ⟨m, e⟩ : ∃ m, dsz l = m := ⟨_, rfl⟩
  rw [e] at h0 h1 ⊢
  have hl : (l.take m).length = m := List.length_take_of_le h1
  have hne : ¬ l.length = 0 := by omega
  have hne' : ¬ (l.take m).length = 0 := by omega
  have hb : bn (l.take m) 0 = bn l 0 := bn_take h0
  unfold dsz at e ⊢
  rw [if_neg hne] at e
  rw [if_neg hne', hb, hl]
  by_cases k1 : bn l 0 = 1
  · rw [if_pos k1] at e ⊢; exact e
  · rw [if_neg k1] at e ⊢
    by_cases k2 : bn l 0 = 2
    · rw [if_pos k2] at e ⊢; exact e
    · rw [if_neg k2] at e ⊢
      by_cases k3 : bn l 0 = 3
      · rw [if_pos k3] at e ⊢
        split at e
        · omega
        · rw [if_neg (by omega), bn_take (by omega)]; exact e
      · rw [if_neg k3] at e ⊢
        by_cases k4 : bn l 0 = 4
        · rw [if_pos k4] at e ⊢; exact e
        · rw [if_neg k4] at e ⊢
          by_cases k5 : bn l 0 = 5
          · rw [if_pos k5] at e ⊢
            split at e
            · omega
            · rw [if_neg (by omega), bn_take (by omega)]; exact e
          · rw [if_neg k5] at e ⊢
            by_cases k6 : bn l 0 = 6
            · rw [if_pos k6] at e ⊢; exact e
            · rw [if_neg k6] at e ⊢
              by_cases k7 : bn l 0 = 7
              · rw [if_pos k7] at e ⊢; exact e
              · rw [if_neg k7] at e ⊢; exact e

theorem cer_ok {k n : Nat} {s : List UInt8} (h : cer k n s = 0) : k < 4 ∧ n ≤ 32 ∧ (ver (str s)).1 = 0 := by
  unfold cer at h
  split at h
  · omega
  · split at h
    · omega
    · split at h
      · rename_i h1 h2 h3; exact ⟨by omega, by omega, h3⟩
      · omega

/-- what any command costs and replies, and that the room stays in order -/
theorem ddo_bd {R : Rm} (h : okR R) (s : List UInt8) (hs : s.length = dsz s) : 1 ≤ (ddo R s).2.1 ∧ (ddo R s).2.1 ≤ 100000 ∧ 1 ≤ (ddo R s).1.length ∧ (ddo R s).1.length ≤ 256 ∧ okR (ddo R s).2.2 := by
  have b4 := bn_le s 4
  have b2 := bn_le s 2
  unfold ddo
  by_cases h1 : bn s 0 = 1
  · rw [if_pos h1]
    by_cases hc : can R.bs (bn s 1) (bn s 2) (bn s 3) = 0
    · simp only [if_pos hc]
      obtain ⟨_, _, ha, hb, _⟩ := can_ok hc
      have hm := mul24 (a := (bn s 2 : Int)) (b := (bn s 3 : Int)) (by omega) (by omega)
      exact ⟨by omega, by omega, by simp, by simp, h.create hc⟩
    · simp only [if_neg hc]
      exact ⟨by omega, by omega, by simp, by simp, h⟩
  · rw [if_neg h1]
    by_cases h5 : bn s 0 = 5
    · rw [if_pos h5]
      by_cases hc : cer (bn s 1) (bn s 2) (s.drop 3) = 0
      · simp only [if_pos hc]
        obtain ⟨c1, c2, c3⟩ := cer_ok hc
        refine ⟨by omega, by omega, by simp, by simp, h.code c3 ?_⟩
        rw [List.length_drop, hs]
        have hd : dsz s ≤ 3 + 4 * bn s 2 := by
          unfold dsz
          repeat' split
          all_goals omega
        omega
      · simp only [if_neg hc]
        exact ⟨by omega, by omega, by simp, by simp, h⟩
    · rw [if_neg h5]
      by_cases h7 : bn s 0 = 7
      · rw [if_pos h7]
        by_cases hc : der R s = 0
        · have e1 : dwC R s = (dst R s (R.bs (bn s 1)).length).2 := by unfold dwC; rw [if_pos hc]
          have e2 : dwR R s = rBytes R (bn s 1) (dst R s (R.bs (bn s 1)).length).1 := by unfold dwR; rw [if_pos hc]
          simp only [e1, e2]
          have hd := dst_bd R s (R.bs (bn s 1)).length
          have hl : (R.bs (bn s 1)).length ≤ 576 := by
            by_cases h8 : bn s 1 < 8
            · exact h.len _ h8
            · unfold der at hc
              rw [if_pos (show thr R (bn s 1) = false from decide_eq_false (fun p => h8 p.1))] at hc
              omega
          exact ⟨by omega, by omega, by simp, by simp, h.bytes (dst_len R s _)⟩
        · have e1 : dwC R s = 1 := by unfold dwC; rw [if_neg hc]
          have e2 : dwR R s = R := by unfold dwR; rw [if_neg hc]
          simp only [e1, e2]
          exact ⟨by omega, by omega, by simp, by simp, h⟩
      · rw [if_neg h7]
        by_cases ho : bn s 0 = 0 ∨ 7 < bn s 0
        · rw [if_pos ho]; exact ⟨by simp, by simp, by simp, by simp, h⟩
        · rw [if_neg ho]
          by_cases ht : thr R (bn s 1) = false
          · rw [if_pos ht]; exact ⟨by simp, by simp, by simp, by simp, h⟩
          · rw [if_neg ht]
            have ht' : thr R (bn s 1) = true := by simpa using ht
            have h8 : bn s 1 < 8 := (of_decide_eq_true ht' : _ ∧ _).1
            have hl := h.len _ h8
            by_cases k2 : bn s 0 = 2
            · rw [if_pos k2]; exact ⟨by simp, by simp, by simp, by simp, h.drop⟩
            · rw [if_neg k2]
              by_cases k3 : bn s 0 = 3
              · rw [if_pos k3]; exact ⟨by simp only; omega, by simp only; omega, by simp, by simp, h.bytes (wrt_length _ _ _)⟩
              · rw [if_neg k3]
                by_cases k4 : bn s 0 = 4
                · rw [if_pos k4]; exact ⟨by simp only; omega, by simp only; omega, by simp, by simp [rdb_length]; omega, h⟩
                · rw [if_neg k4]; exact ⟨by simp only; omega, by simp only; omega, by simp, by simp, h.bytes (by simp)⟩

end Go.Proofs.Ytbedkfgdhaajaab
