/- Walks: the document's answer: any command, and how long it is (P8). -/
import Derived.Test.YtoafhdbgjpkgfaaRefDo2
namespace Go.Proofs.Ytoafhdbgjpkgfaa
open Go.RowKit

/-- a whole command: not empty, and just as long as it says -/
def whole (s : List UInt8) : Prop := 0 < s.length ∧ s.length = dsz s

theorem does_any (HD : DrawsRight) (b0 : Nat) (s : List UInt8) (R : Rm) (w : World) (hR : RoomAt w b0 0 R) (hk : okR R) (hw : whole s) :
    Calls Try.prog 87 #[.pointer (some ⟨b0, 0, none⟩), .string (str s)] w fun x w' => x = .returned (.tuple #[.string (str (ddo R s).1), .int .i64 (ddo R s).2.1]) ∧ RGoes b0 0 w w' (ddo R s).2.2 := by
  obtain ⟨hp, hd⟩ := hw
  have hne : ¬ s.length = 0 := by omega
  have hd' := hd
  unfold dsz at hd'
  rw [if_neg hne] at hd'
  by_cases h1 : bn s 0 = 1
  · rw [if_pos h1] at hd'
    have e : ddo R s = ([eb (can R.bs (bn s 1) (bn s 2) (bn s 3))], crC R (bn s 1) (bn s 2) (bn s 3), crR R (bn s 1) (bn s 2) (bn s 3)) := by unfold ddo crC crR; rw [if_pos h1]
    rw [e]
    exact does_create b0 s R w hR hk h1 hd'
  · rw [if_neg h1] at hd'
    by_cases h5 : bn s 0 = 5
    · rw [if_neg (by omega), if_neg (by omega), if_neg (by omega), if_pos h5] at hd'
      have hl : s.length = 3 + 4 * bn s 2 := by split at hd'; omega; exact hd'
      have e : ddo R s = ([eb (cer (bn s 1) (bn s 2) (s.drop 3))], cdC (bn s 1) (bn s 2) (s.drop 3), cdR R (bn s 1) (bn s 2) (s.drop 3)) := by unfold ddo cdC cdR; rw [if_neg h1, if_pos h5]
      rw [e]
      exact does_code b0 s R w hR hk h5 hl
    · by_cases h7 : bn s 0 = 7
      · rw [if_neg (by omega), if_neg (by omega), if_neg (by omega), if_neg (by omega), if_neg (by omega), if_pos h7] at hd'
        have e : ddo R s = ([eb (der R s)], dwC R s, dwR R s) := by unfold ddo; rw [if_neg h1, if_neg h5, if_pos h7]
        rw [e]
        exact does_draw b0 s R w hR hk HD h7 hd'
      · by_cases ho : bn s 0 = 0 ∨ 7 < bn s 0
        · rw [if_neg (by omega), if_neg (by omega), if_neg (by omega), if_neg (by omega), if_neg (by omega), if_neg (by omega)] at hd'
          have e : ddo R s = ([1], 1, R) := by unfold ddo; rw [if_neg h1, if_neg h5, if_neg h7, if_pos ho]
          rw [e]
          exact does_other b0 s R w hR hk ho hd'
        · have h2346 : bn s 0 = 2 ∨ bn s 0 = 3 ∨ bn s 0 = 4 ∨ bn s 0 = 6 := by omega
          have hl2 : 2 ≤ s.length := by
            rcases h2346 with h | h | h | h
            · rw [if_pos h] at hd'; omega
            · rw [if_neg (by omega), if_pos h] at hd'; split at hd' <;> omega
            · rw [if_neg (by omega), if_neg (by omega), if_pos h] at hd'; omega
            · rw [if_neg (by omega), if_neg (by omega), if_neg (by omega), if_neg (by omega), if_pos h] at hd'; omega
          by_cases ht : thr R (bn s 1) = true
          · have e : ddo R s = (0 :: (plR R s).1, (plR R s).2.1, (plR R s).2.2) := by
              unfold ddo plR
              rw [if_neg h1, if_neg h5, if_neg h7, if_neg ho, if_neg (by rw [ht]; simp)]
              rcases h2346 with h | h | h | h
              · rw [if_pos h, if_pos h]
              · rw [if_neg (by omega), if_pos h, if_neg (by omega), if_pos h]
              · rw [if_neg (by omega), if_neg (by omega), if_pos h, if_neg (by omega), if_neg (by omega), if_pos h]
              · rw [if_neg (by omega), if_neg (by omega), if_neg (by omega), if_neg (by omega), if_neg (by omega), if_neg (by omega)]
            rw [e]
            exact does_plain b0 s R w hR hk h2346 hl2 hd ht
          · have ht' : thr R (bn s 1) = false := by simpa using ht
            have e : ddo R s = ([2], 1, R) := by unfold ddo; rw [if_neg h1, if_neg h5, if_neg h7, if_neg ho, if_pos ht']
            rw [e]
            exact does_none b0 s R w hR hk h2346 hl2 ht'

set_option maxRecDepth 4000 in
set_option maxHeartbeats 2000000 in
theorem rsize_any (s : List UInt8) (w : World) (hl : s.length ≤ 2000) :
    Calls Try.prog 86 #[.string (str s)] w fun x w' => x = .returned (.int .i64 (dsz s)) ∧ w' = w := by
  obtain ⟨sv, hsv⟩ : ∃ sv, str s = sv := ⟨_, rfl⟩
  have hz : sv.size = s.length := by rw [← hsv, str_size]
  by_cases h0 : s.length = 0
  · have e : dsz s = 0 := by unfold dsz; rw [if_pos h0]
    have es : s = [] := List.eq_nil_of_length_eq_zero h0
    subst es
    rw [e]
    have hem : str [] = ({ data := #[] } : ByteArray) := rfl
    rw [hem]
    clear hsv hz e h0 hem
    go_enter Try.func86, Try.ntmps86
    go_wp2
    go_ret
    exact ⟨rfl, rfl⟩
  · have z0 : 0 < sv.size := by omega
    have e0 : (sv[0]'z0).toNat = bn s 0 := by subst hsv; exact str_byte s 0 _
    have c0 : (bn s 0 : Int) ≤ 255 := by have := bn_le s 0; omega
    have hem : sv.toList.isEmpty = false := by
      rw [ByteArray.toList_eq, ← hsv, str_data]
      cases s with
      | nil => exact absurd rfl h0
      | cons _ _ => rfl
    rw [hsv]
    by_cases h1 : bn s 0 = 1
    · have d1 : ((bn s 0 : Int) == 1) = true := by rw [beq_iff_eq]; omega
      have e : dsz s = 4 := by unfold dsz; rw [if_neg h0, if_pos h1]
      rw [e]
      clear e hsv h0
      go_enter Try.func86, Try.ntmps86
      go_wp2
      go_ret
      exact ⟨rfl, rfl⟩
    · have d1 : ((bn s 0 : Int) == 1) = false := beq_false_of_ne (by omega)
      by_cases h2 : bn s 0 = 2
      · have d2 : ((bn s 0 : Int) == 2) = true := by rw [beq_iff_eq]; omega
        have e : dsz s = 2 := by unfold dsz; rw [if_neg h0, if_neg h1, if_pos h2]
        rw [e]
        clear e hsv h0
        go_enter Try.func86, Try.ntmps86
        go_wp2
        go_ret
        exact ⟨rfl, rfl⟩
      · have d2 : ((bn s 0 : Int) == 2) = false := beq_false_of_ne (by omega)
        by_cases h3 : bn s 0 = 3
        · have d3 : ((bn s 0 : Int) == 3) = true := by rw [beq_iff_eq]; omega
          by_cases hm : s.length < 5
          · have hm' : (sv.size : Int) < 5 := by omega
            have e : dsz s = 0 := by unfold dsz; rw [if_neg h0, if_neg h1, if_neg h2, if_pos h3, if_pos hm]
            rw [e]
            clear e hsv h0
            go_enter Try.func86, Try.ntmps86
            go_wp2
            go_ret
            exact ⟨rfl, rfl⟩
          · have hm' : ¬ (sv.size : Int) < 5 := by omega
            have zx : 4 < sv.size := by omega
            have ex : (sv[4]'zx).toNat = bn s 4 := by subst hsv; exact str_byte s 4 _
            have cx : (bn s 4 : Int) ≤ 255 := by have := bn_le s 4; omega
            have e : dsz s = 5 + bn s 4 := by unfold dsz; rw [if_neg h0, if_neg h1, if_neg h2, if_pos h3, if_neg hm]
            rw [e]
            clear e hsv h0
            go_enter Try.func86, Try.ntmps86
            go_wp2
            go_ret
            exact ⟨retI (by omega), rfl⟩
        · have d3 : ((bn s 0 : Int) == 3) = false := beq_false_of_ne (by omega)
          by_cases h4 : bn s 0 = 4
          · have d4 : ((bn s 0 : Int) == 4) = true := by rw [beq_iff_eq]; omega
            have e : dsz s = 5 := by unfold dsz; rw [if_neg h0, if_neg h1, if_neg h2, if_neg h3, if_pos h4]
            rw [e]
            clear e hsv h0
            go_enter Try.func86, Try.ntmps86
            go_wp2
            go_ret
            exact ⟨rfl, rfl⟩
          · have d4 : ((bn s 0 : Int) == 4) = false := beq_false_of_ne (by omega)
            by_cases h5 : bn s 0 = 5
            · have d5 : ((bn s 0 : Int) == 5) = true := by rw [beq_iff_eq]; omega
              by_cases hm : s.length < 3
              · have hm' : (sv.size : Int) < 3 := by omega
                have e : dsz s = 0 := by unfold dsz; rw [if_neg h0, if_neg h1, if_neg h2, if_neg h3, if_neg h4, if_pos h5, if_pos hm]
                rw [e]
                clear e hsv h0
                go_enter Try.func86, Try.ntmps86
                go_wp2
                go_ret
                exact ⟨rfl, rfl⟩
              · have hm' : ¬ (sv.size : Int) < 3 := by omega
                have zx : 2 < sv.size := by omega
                have ex : (sv[2]'zx).toNat = bn s 2 := by subst hsv; exact str_byte s 2 _
                have cx : (bn s 2 : Int) ≤ 255 := by have := bn_le s 2; omega
                have e : dsz s = 3 + 4 * bn s 2 := by unfold dsz; rw [if_neg h0, if_neg h1, if_neg h2, if_neg h3, if_neg h4, if_pos h5, if_neg hm]
                rw [e]
                clear e hsv h0
                go_enter Try.func86, Try.ntmps86
                go_wp2
                go_ret
                exact ⟨retI (by omega), rfl⟩
            · have d5 : ((bn s 0 : Int) == 5) = false := beq_false_of_ne (by omega)
              by_cases h6 : bn s 0 = 6
              · have d6 : ((bn s 0 : Int) == 6) = true := by rw [beq_iff_eq]; omega
                have e : dsz s = 3 := by unfold dsz; rw [if_neg h0, if_neg h1, if_neg h2, if_neg h3, if_neg h4, if_neg h5, if_pos h6]
                rw [e]
                clear e hsv h0
                go_enter Try.func86, Try.ntmps86
                go_wp2
                go_ret
                exact ⟨rfl, rfl⟩
              · have d6 : ((bn s 0 : Int) == 6) = false := beq_false_of_ne (by omega)
                by_cases h7 : bn s 0 = 7
                · have d7 : ((bn s 0 : Int) == 7) = true := by rw [beq_iff_eq]; omega
                  have e : dsz s = 17 := by unfold dsz; rw [if_neg h0, if_neg h1, if_neg h2, if_neg h3, if_neg h4, if_neg h5, if_neg h6, if_pos h7]
                  rw [e]
                  clear e hsv h0
                  go_enter Try.func86, Try.ntmps86
                  go_wp2
                  go_ret
                  exact ⟨rfl, rfl⟩
                · have d7 : ((bn s 0 : Int) == 7) = false := beq_false_of_ne (by omega)
                  have e : dsz s = 1 := by unfold dsz; rw [if_neg h0, if_neg h1, if_neg h2, if_neg h3, if_neg h4, if_neg h5, if_neg h6, if_neg h7]
                  rw [e]
                  clear e hsv h0
                  go_enter Try.func86, Try.ntmps86
                  go_wp2
                  go_ret
                  exact ⟨rfl, rfl⟩

end Go.Proofs.Ytoafhdbgjpkgfaa
