/- Walks: Cover of the program (P3). -/
import Derived.Test.YtbedkfgdhaajaabSides
namespace Go.Proofs.Ytbedkfgdhaajaab
open Go.RowKit

/-- the coordinates of three corners -/
def co6 (xa ya xb yb xc yc : Int) (k : Nat) : Int := if k = 0 then xa else if k = 1 then ya else if k = 2 then xb else if k = 3 then yb else if k = 4 then xc else yc
def inr (v : Int) : Bool := decide (-2048 ≤ v ∧ v ≤ 2047)
def nea (xa ya xb yb xc yc : Int) : Bool := near xa ya && near xb yb && near xc yc

theorem nea_iff {xa ya xb yb xc yc : Int} : nea xa ya xb yb xc yc = true ↔ ∀ k, k < 6 → inr (co6 xa ya xb yb xc yc k) = true := by
  unfold nea
  rw [Bool.and_eq_true, Bool.and_eq_true]
  unfold near inr
  rw [decide_eq_true_eq, decide_eq_true_eq, decide_eq_true_eq]
  constructor
  · intro h k hk
    rw [decide_eq_true_eq]
    rcases (by omega : k = 0 ∨ k = 1 ∨ k = 2 ∨ k = 3 ∨ k = 4 ∨ k = 5) with rfl | rfl | rfl | rfl | rfl | rfl <;> simp [co6] <;> omega
  · intro h
    have h0 := of_decide_eq_true (h 0 (by omega))
    have h1 := of_decide_eq_true (h 1 (by omega))
    have h2 := of_decide_eq_true (h 2 (by omega))
    have h3 := of_decide_eq_true (h 3 (by omega))
    have h4 := of_decide_eq_true (h 4 (by omega))
    have h5 := of_decide_eq_true (h 5 (by omega))
    simp [co6] at h0 h1 h2 h3 h4 h5
    omega
theorem nea_no {xa ya xb yb xc yc : Int} {k : Nat} (hk : k < 6) (h : inr (co6 xa ya xb yb xc yc k) = false) : nea xa ya xb yb xc yc = false := by
  cases e : nea xa ya xb yb xc yc
  · rfl
  · have := nea_iff.1 e k hk
    rw [h] at this
    cases this

set_option maxHeartbeats 400000 in
theorem reach_any (xa ya xb yb xc yc : Int) (w : World) :
    Calls Try.prog 56 #[.agg #[.int .i64 xa, .int .i64 ya, .int .i64 xb, .int .i64 yb, .int .i64 xc, .int .i64 yc]] w fun e w' => e = .returned (.bool (nea xa ya xb yb xc yc)) ∧ Below w.heap.size w w' := by
  have hix : ∀ k : Nat, k < 6 → ∀ w, (Instr.index 138 (.agg #[.int .i64 xa, .int .i64 ya, .int .i64 xb, .int .i64 yb, .int .i64 xc, .int .i64 yc]) (.int .i64 k)).run Try.prog w = .ok (.int .i64 (co6 xa ya xb yb xc yc k)) w := by
    intro k hk w
    rcases (by omega : k = 0 ∨ k = 1 ∨ k = 2 ∨ k = 3 ∨ k = 4 ∨ k = 5) with rfl | rfl | rfl | rfl | rfl | rfl <;> kernel_rfl
  have HX : Hid (∀ k : Nat, k < 6 → ∀ w, (Instr.index 138 (.agg #[.int .i64 xa, .int .i64 ya, .int .i64 xb, .int .i64 yb, .int .i64 xc, .int .i64 yc]) (.int .i64 k)).run Try.prog w = .ok (.int .i64 (co6 xa ya xb yb xc yc k)) w) := hix
  clear hix
  go_enter Try.func56, Try.ntmps56
  go_wp2
  go_loop [26, 5] (fun i _ => ∃ k : Nat, k ≤ 6 ∧ i = .int .i64 k ∧ ∀ j, j < k → inr (co6 xa ya xb yb xc yc j) = true) (fun i _ => 6 - (intOf i).toNat)
  case atStart => exact ⟨0, by omega, rfl, fun _ h => by omega⟩
  case round =>
    obtain ⟨k, hk, rfl, hin⟩ := hrel
    have HI : Hid (∀ j, j < k → inr (co6 xa ya xb yb xc yc j) = true) := hin
    clear hin
    have hB : Below w.heap.size w _ := ((Below.refl w.heap.size w).alloc (Nat.le_refl _) (.cells #[.int .i64 xa, .int .i64 ya, .int .i64 xb, .int .i64 yb, .int .i64 xc, .int .i64 yc] 50)).alloc (by simp) (.cells #[.int .i64 xa, .int .i64 ya, .int .i64 xb, .int .i64 yb, .int .i64 xc, .int .i64 yc] 138)
    have BB : Hid (Below w.heap.size w ((w.alloc (.cells #[.int .i64 xa, .int .i64 ya, .int .i64 xb, .int .i64 yb, .int .i64 xc, .int .i64 yc] 50)).alloc (.cells #[.int .i64 xa, .int .i64 ya, .int .i64 xb, .int .i64 yb, .int .i64 xc, .int .i64 yc] 138))) := hB
    clear hB
    by_cases hlt : k < 6
    · have hx := HX.out k hlt
      obtain ⟨v, hv⟩ : ∃ v, co6 xa ya xb yb xc yc k = v := ⟨_, rfl⟩
      rw [hv] at hx
      have HV : Hid (co6 xa ya xb yb xc yc k = v) := hv
      clear hv
      by_cases h1 : v < -2048
      · have HN : Hid (inr v = false) := (decide_eq_false (by omega) : inr v = false)
        go_wp2
        go_ret
        exact ⟨ret_bool (nea_no hlt (by rw [HV.out]; exact HN.out)).symm, BB.out⟩
      · by_cases h2 : 2047 < v
        · have HN : Hid (inr v = false) := (decide_eq_false (by omega) : inr v = false)
          go_wp2
          go_ret
          exact ⟨ret_bool (nea_no hlt (by rw [HV.out]; exact HN.out)).symm, BB.out⟩
        · have HN : Hid (inr v = true) := (decide_eq_true (by omega) : inr v = true)
          go_wp2
          go_round
          case rel =>
            refine ⟨k + 1, by omega, by go_num, fun j hj => ?_⟩
            by_cases e : j = k
            · subst e; rw [HV.out]; exact HN.out
            · exact HI.out j (by omega)
          case measure => simp [intOf]; omega
    · have e : k = 6 := by omega
      subst e
      go_wp2
      go_ret
      exact ⟨ret_bool (nea_iff.2 HI.out).symm, BB.out⟩

set_option maxHeartbeats 400000 in
theorem centre_any (x y : Int) (w : World) (h1 : 0 ≤ x) (h2 : x < 24) (h3 : 0 ≤ y) (h4 : y < 24) :
    Calls Try.prog 57 #[.int .i64 x, .int .i64 y] w fun e w' => e = .returned (.agg #[.int .i64 (16 * x + 8), .int .i64 (16 * y + 8)]) ∧ Below w.heap.size w w' := by
  go_enter Try.func57, Try.ntmps57
  go_wp2
  exact bodyPost_ret (v := .agg #[.int .i64 (16 * x + 8), .int .i64 (16 * y + 8)]) (by simp [results, Try.results57, go_sem]) rfl ⟨rfl, (Below.refl _ _).alloc (Nat.le_refl _) _⟩

/-- a pixel that may be -/
def pix (x y : Int) : Bool := decide (0 ≤ x ∧ x < 24 ∧ 0 ≤ y ∧ y < 24)

/-- P3 -/
def cvr (xa ya xb yb xc yc x y : Int) : Bool × Int :=
  if (near xa ya && near xb yb && near xc yc && pix x y) = true then (cov xa ya xb yb xc yc x y, 0) else (false, 13)

theorem cvr_no {xa ya xb yb xc yc x y : Int} (h : (near xa ya && near xb yb && near xc yc && pix x y) = false) : cvr xa ya xb yb xc yc x y = (false, 13) := by
  unfold cvr; rw [h]; rfl

theorem cvr_yes {xa ya xb yb xc yc x y : Int} (h1 : near xa ya = true) (h2 : near xb yb = true) (h3 : near xc yc = true) (h4 : pix x y = true) : cvr xa ya xb yb xc yc x y = (cov xa ya xb yb xc yc x y, 0) := by
  unfold cvr; rw [h1, h2, h3, h4]; rfl

theorem tupBI {a c : Bool} {b d : Int} (h : a = c) (k : b = d) : Ending.returned (.tuple #[.bool a, .int .i64 b]) = .returned (.tuple #[.bool c, .int .i64 d]) := by rw [h, k]

theorem nea_parts {xa ya xb yb xc yc : Int} (h : nea xa ya xb yb xc yc = true) : near xa ya = true ∧ near xb yb = true ∧ near xc yc = true := by
  unfold nea at h
  rw [Bool.and_eq_true, Bool.and_eq_true] at h
  exact ⟨h.1.1, h.1.2, h.2⟩

set_option maxHeartbeats 1000000 in
theorem cover_in (xa ya xb yb xc yc x y : Int) (w : World) :
    Calls Try.prog 41 #[.agg #[.int .i64 xa, .int .i64 ya, .int .i64 xb, .int .i64 yb, .int .i64 xc, .int .i64 yc], .int .i64 x, .int .i64 y] w fun e w' => e = .returned (.tuple #[.bool (cvr xa ya xb yb xc yc x y).1, .int .i64 (cvr xa ya xb yb xc yc x y).2]) ∧ Below w.heap.size w w' := by
  cases hn : nea xa ya xb yb xc yc
  · have e := cvr_no (xa := xa) (ya := ya) (xb := xb) (yb := yb) (xc := xc) (yc := yc) (x := x) (y := y) (by unfold nea at hn; rw [hn]; rfl)
    rw [e]
    clear e
    go_enter Try.func41, Try.ntmps41
    go_wp2_with (go_at_call 56; refine (reach_any _ _ _ _ _ _ _).mono ?_; rintro e w1 ⟨rfl, hb1⟩; have BB : Hid (Below w.heap.size w w1) := ((Below.refl _ _).alloc (Nat.le_refl _) _).trans (hb1.mono (by simp)); clear hb1)
    go_ret2
    exact ⟨rfl, BB.out⟩
  · by_cases h1 : x < 0
    · have e := cvr_no (xa := xa) (ya := ya) (xb := xb) (yb := yb) (xc := xc) (yc := yc) (x := x) (y := y) (by rw [show pix x y = false from decide_eq_false (by omega), Bool.and_false])
      rw [e]
      clear e
      go_enter Try.func41, Try.ntmps41
      go_wp2_with (go_at_call 56; refine (reach_any _ _ _ _ _ _ _).mono ?_; rintro e w1 ⟨rfl, hb1⟩; have BB : Hid (Below w.heap.size w w1) := ((Below.refl _ _).alloc (Nat.le_refl _) _).trans (hb1.mono (by simp)); clear hb1)
      go_ret2
      exact ⟨rfl, BB.out⟩
    · by_cases h2 : 24 ≤ x
      · have e := cvr_no (xa := xa) (ya := ya) (xb := xb) (yb := yb) (xc := xc) (yc := yc) (x := x) (y := y) (by rw [show pix x y = false from decide_eq_false (by omega), Bool.and_false])
        rw [e]
        clear e
        go_enter Try.func41, Try.ntmps41
        go_wp2_with (go_at_call 56; refine (reach_any _ _ _ _ _ _ _).mono ?_; rintro e w1 ⟨rfl, hb1⟩; have BB : Hid (Below w.heap.size w w1) := ((Below.refl _ _).alloc (Nat.le_refl _) _).trans (hb1.mono (by simp)); clear hb1)
        go_ret2
        exact ⟨rfl, BB.out⟩
      · by_cases h3 : y < 0
        · have e := cvr_no (xa := xa) (ya := ya) (xb := xb) (yb := yb) (xc := xc) (yc := yc) (x := x) (y := y) (by rw [show pix x y = false from decide_eq_false (by omega), Bool.and_false])
          rw [e]
          clear e
          go_enter Try.func41, Try.ntmps41
          go_wp2_with (go_at_call 56; refine (reach_any _ _ _ _ _ _ _).mono ?_; rintro e w1 ⟨rfl, hb1⟩; have BB : Hid (Below w.heap.size w w1) := ((Below.refl _ _).alloc (Nat.le_refl _) _).trans (hb1.mono (by simp)); clear hb1)
          go_ret2
          exact ⟨rfl, BB.out⟩
        · by_cases h4 : 24 ≤ y
          · have e := cvr_no (xa := xa) (ya := ya) (xb := xb) (yb := yb) (xc := xc) (yc := yc) (x := x) (y := y) (by rw [show pix x y = false from decide_eq_false (by omega), Bool.and_false])
            rw [e]
            clear e
            go_enter Try.func41, Try.ntmps41
            go_wp2_with (go_at_call 56; refine (reach_any _ _ _ _ _ _ _).mono ?_; rintro e w1 ⟨rfl, hb1⟩; have BB : Hid (Below w.heap.size w w1) := ((Below.refl _ _).alloc (Nat.le_refl _) _).trans (hb1.mono (by simp)); clear hb1)
            go_ret2
            exact ⟨rfl, BB.out⟩
          · have hp : pix x y = true := decide_eq_true (by omega)
            obtain ⟨k0, k1, k2⟩ := nea_parts hn
            obtain ⟨s1, s2⟩ := near_small k0
            obtain ⟨s3, s4⟩ := near_small k1
            obtain ⟨s5, s6⟩ := near_small k2
            have s7 : small (16 * x + 8) := ⟨by omega, by omega⟩
            have s8 : small (16 * y + 8) := ⟨by omega, by omega⟩
            have HE : Hid (cvr xa ya xb yb xc yc x y = (hol xa ya xb yb xc yc (16 * x + 8) (16 * y + 8), 0)) := by
              have e := cvr_yes k0 k1 k2 hp
              rw [e]
              exact (congrArg (fun b => (b, (0 : Int))) (hol_eq s1 s2 s3 s4 s5 s6).symm : (cov xa ya xb yb xc yc x y, (0 : Int)) = _)
            clear k0 k1 k2 hp
            go_enter Try.func41, Try.ntmps41
            go_wp2_with (first | (go_at_call 56; refine (reach_any _ _ _ _ _ _ _).mono ?_; rintro e w1 ⟨rfl, hb1⟩; obtain ⟨hc1, hf1⟩ := bcell hb1; have hz1 : w.heap.size < w1.heap.size := (by have := hb1.size; simp at this; omega); have BB : Hid (Below w.heap.size w w1) := ((Below.refl _ _).alloc (Nat.le_refl _) _).trans (hb1.mono (by simp)); have d0 : w1.cell? ⟨w.heap.size, 0, none⟩ = some (.int .i64 xa) := (by rw [hc1 _ _ (by simp)]; simp [go_sem]); have d1 : w1.cell? ⟨w.heap.size, 1, none⟩ = some (.int .i64 ya) := (by rw [hc1 _ _ (by simp)]; simp [go_sem]); have d2 : w1.cell? ⟨w.heap.size, 2, none⟩ = some (.int .i64 xb) := (by rw [hc1 _ _ (by simp)]; simp [go_sem]); have d3 : w1.cell? ⟨w.heap.size, 3, none⟩ = some (.int .i64 yb) := (by rw [hc1 _ _ (by simp)]; simp [go_sem]); have d4 : w1.cell? ⟨w.heap.size, 4, none⟩ = some (.int .i64 xc) := (by rw [hc1 _ _ (by simp)]; simp [go_sem]); have d5 : w1.cell? ⟨w.heap.size, 5, none⟩ = some (.int .i64 yc) := (by rw [hc1 _ _ (by simp)]; simp [go_sem]); clear hb1 hc1 hf1) | (go_at_call 57; refine (centre_any _ _ _ (by omega) (by omega) (by omega) (by omega)).mono ?_; rintro e w2 ⟨rfl, hb2⟩; obtain ⟨hc2, hf2⟩ := bcell hb2; have hz2 : w.heap.size < w2.heap.size := (by have := hb2.size; omega)) | (go_at_call 58; refine (holds_any _ _ _ _ _ _ _ _ _ s1 s2 s3 s4 s5 s6 s7 s8).mono ?_; rintro e w3 ⟨rfl, hb3⟩))
            go_ret2
            refine ⟨tupBI (by rw [HE.out]) (by rw [HE.out]), ?_⟩
            have hs2 := hb2.size
            exact ((BB.out.trans (hb2.mono (by omega))).alloc (by omega) _).trans (hb3.mono (by simp; omega))

set_option maxHeartbeats 400000 in
theorem cover_any (xa ya xb yb xc yc x y : Int) (w : World) :
    Calls Try.prog 30 #[.agg #[.int .i64 xa, .int .i64 ya, .int .i64 xb, .int .i64 yb, .int .i64 xc, .int .i64 yc], .int .i64 x, .int .i64 y] w fun e w' => e = .returned (.tuple #[.bool (cvr xa ya xb yb xc yc x y).1, .int .i64 (cvr xa ya xb yb xc yc x y).2]) ∧ Below w.heap.size w w' := by
  go_enter Try.func30, Try.ntmps30
  go_wp2_with (go_at_call 41; refine (cover_in _ _ _ _ _ _ _ _ _).mono ?_; rintro e w1 ⟨rfl, hb1⟩)
  go_ret2
  exact ⟨rfl, ((Below.refl _ _).alloc (Nat.le_refl _) _).trans (hb1.mono (by simp))⟩

end Go.Proofs.Ytbedkfgdhaajaab
