/- Walks: the document's answer: any command of a room (P8, P10 to P13). -/
import Derived.Test.YtbedkfgdhaajaabRefDrawOk
import Derived.Test.YtbedkfgdhaajaabRefDo
namespace Go.Proofs.Ytbedkfgdhaajaab
open Go.RowKit

/-- Draw, in one contract -/
theorem rdraw_any (b0 : Nat) (s : List UInt8) (R : Rm) (w : World) (hR : RoomAt w b0 0 R) (hk : okR R) (hl : s.length = 17) :
    Calls Try.prog 105 #[.pointer (some ⟨b0, 0, none⟩), .string (str s)] w fun x w' => x = .returned (.tuple #[.int .i64 (der R s), .int .i64 (dwC R s)]) ∧ RGoes b0 0 w w' (dwR R s) := by
  have bad : ∀ e : Int, der R s = e → ¬ e = 0 → (Calls Try.prog 105 #[.pointer (some ⟨b0, 0, none⟩), .string (str s)] w fun x w' => x = .returned (.tuple #[.int .i64 e, .int .i64 1]) ∧ Below w.heap.size w w') →
      Calls Try.prog 105 #[.pointer (some ⟨b0, 0, none⟩), .string (str s)] w fun x w' => x = .returned (.tuple #[.int .i64 (der R s), .int .i64 (dwC R s)]) ∧ RGoes b0 0 w w' (dwR R s) := by
    intro e he h0 hw
    have e1 : dwC R s = 1 := by unfold dwC; rw [if_neg (by omega)]
    have e2 : dwR R s = R := by unfold dwR; rw [if_neg (by omega)]
    rw [e1, e2, he]
    refine hw.mono ?_
    rintro x w' ⟨h1, h2⟩
    exact ⟨h1, RGoes.stay hR h2⟩
  have same : ∀ e : Int, (Calls Try.prog 105 #[.pointer (some ⟨b0, 0, none⟩), .string (str s)] w fun x w' => x = .returned (.tuple #[.int .i64 e, .int .i64 1]) ∧ w' = w) →
      Calls Try.prog 105 #[.pointer (some ⟨b0, 0, none⟩), .string (str s)] w fun x w' => x = .returned (.tuple #[.int .i64 e, .int .i64 1]) ∧ Below w.heap.size w w' := by
    intro e hw
    refine hw.mono ?_
    rintro x w' ⟨h1, rfl⟩
    exact ⟨h1, Below.refl _ _⟩
  by_cases h1 : thr R (bn s 1) = true
  · have h1' : ¬ thr R (bn s 1) = false := by rw [h1]; simp
    by_cases h2 : 4 ≤ bn s 2
    · exact bad 6 (by unfold der; rw [if_neg h1', if_pos (.inl h2)]) (by omega) (same _ (draw_no2 b0 s R w hR hk hl h1 h2))
    · by_cases h3 : R.has (bn s 2) = true
      · have h23 : ¬ (4 ≤ bn s 2 ∨ R.has (bn s 2) = false) := by rw [h3]; simp; omega
        by_cases h4 : thr R (bn s 3) = true
        · have h4' : ¬ thr R (bn s 3) = false := by rw [h4]; simp
          by_cases g1 : near (crn s 5) (crn s 7) = true
          · by_cases g2 : near (crn s 9) (crn s 11) = true
            · by_cases g3 : near (crn s 13) (crn s 15) = true
              · have e0 : der R s = 0 := by unfold der; rw [if_neg h1', if_neg h23, if_neg h4', if_pos ⟨g1, g2, g3⟩]
                have e1 : dwC R s = (dst R s (R.bs (bn s 1)).length).2 := by unfold dwC; rw [if_pos e0]
                have e2 : dwR R s = rBytes R (bn s 1) (dst R s (R.bs (bn s 1)).length).1 := by unfold dwR; rw [if_pos e0]
                rw [e0, e1, e2]
                exact draw_ok b0 s R w hR hk hl h1 h2 h3 h4 g1 g2 g3
              · exact bad 8 (by unfold der; rw [if_neg h1', if_neg h23, if_neg h4', if_neg (fun p => g3 p.2.2)]) (by omega) (draw_far3 b0 s R w hR hk hl h1 h2 h3 h4 g1 g2 (by simpa using g3))
            · exact bad 8 (by unfold der; rw [if_neg h1', if_neg h23, if_neg h4', if_neg (fun p => g2 p.2.1)]) (by omega) (draw_far2 b0 s R w hR hk hl h1 h2 h3 h4 g1 (by simpa using g2))
          · exact bad 8 (by unfold der; rw [if_neg h1', if_neg h23, if_neg h4', if_neg (fun p => g1 p.1)]) (by omega) (draw_far1 b0 s R w hR hk hl h1 h2 h3 h4 (by simpa using g1))
        · have h4' : thr R (bn s 3) = false := by simpa using h4
          exact bad 2 (by unfold der; rw [if_neg h1', if_neg h23, if_pos h4']) (by omega) (same _ (draw_no4 b0 s R w hR hk hl h1 h2 h3 h4'))
      · have h3' : R.has (bn s 2) = false := by simpa using h3
        exact bad 6 (by unfold der; rw [if_neg h1', if_pos (.inr h3')]) (by omega) (same _ (draw_no3 b0 s R w hR hk hl h1 h2 h3'))
  · have h1' : thr R (bn s 1) = false := by simpa using h1
    exact bad 2 (by unfold der; rw [if_pos h1']) (by omega) (same _ (draw_no1 b0 s R w hR hk hl h1'))

theorem draws_right : DrawsRight := fun b0 s R w hR hk hl => rdraw_any b0 s R w hR hk hl

end Go.Proofs.Ytbedkfgdhaajaab
