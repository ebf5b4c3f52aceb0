/- Walks: Cover of the document's answer (P3). -/
import Derived.Test.YtbedkfgdhaajaabCovering
namespace Go.Proofs.Ytbedkfgdhaajaab
open Go.RowKit

set_option maxHeartbeats 400000 in
theorem far_any (x y : Int) (w : World) :
    Calls Try.prog 112 #[.agg #[.int .i64 x, .int .i64 y]] w fun e w' => e = .returned (.bool (!near x y)) ∧ Below w.heap.size w w' := by
  by_cases h1 : x < -2048
  · have e : near x y = false := decide_eq_false (by omega)
    rw [e]; clear e
    go_enter Try.func112, Try.ntmps112
    go_wp2
    go_ret
    exact ⟨rfl, (Below.refl _ _).alloc (Nat.le_refl _) _⟩
  · by_cases h2 : 2047 < x
    · have e : near x y = false := decide_eq_false (by omega)
      rw [e]; clear e
      go_enter Try.func112, Try.ntmps112
      go_wp2
      go_ret
      exact ⟨rfl, (Below.refl _ _).alloc (Nat.le_refl _) _⟩
    · by_cases h3 : y < -2048
      · have e : near x y = false := decide_eq_false (by omega)
        rw [e]; clear e
        go_enter Try.func112, Try.ntmps112
        go_wp2
        go_ret
        exact ⟨rfl, (Below.refl _ _).alloc (Nat.le_refl _) _⟩
      · have e : (!near x y) = decide (2047 < y) := by
          unfold near
          rw [← decide_not]
          exact decide_eq_decide.mpr (by omega)
        rw [e]; clear e
        go_enter Try.func112, Try.ntmps112
        go_wp2
        go_ret
        exact ⟨rfl, (Below.refl _ _).alloc (Nat.le_refl _) _⟩

theorem nd_bd {xa ya xb yb x y : Int} (h1 : small xa) (h2 : small ya) (h3 : small xb) (h4 : small yb) (h5 : small (16 * x + 8)) (h6 : small (16 * y + 8)) :
    (-9000000000000000 ≤ (xb - xa) * (134217728 * (16 * y + 8 - ya) + 1) ∧ (xb - xa) * (134217728 * (16 * y + 8 - ya) + 1) ≤ 9000000000000000) ∧
    (-9000000000000000 ≤ (yb - ya) * (134217728 * (16 * x + 8 - xa) + 8192) ∧ (yb - ya) * (134217728 * (16 * x + 8 - xa) + 8192) ≤ 9000000000000000) := by
  unfold small at *
  have a := mul_bd (a := xb - xa) (b := 134217728 * (16 * y + 8 - ya) + 1) (k := 4095) (l := 600000000000) (by omega) (by omega) (by omega) (by omega)
  have b := mul_bd (a := yb - ya) (b := 134217728 * (16 * x + 8 - xa) + 8192) (k := 4095) (l := 600000000000) (by omega) (by omega) (by omega) (by omega)
  omega

set_option maxHeartbeats 400000 in
theorem refSide_any (xa ya xb yb x y : Int) (w : World) (h1 : small xa) (h2 : small ya) (h3 : small xb) (h4 : small yb) (h5 : small (16 * x + 8)) (h6 : small (16 * y + 8)) :
    Calls Try.prog 118 #[.agg #[.int .i64 xa, .int .i64 ya], .agg #[.int .i64 xb, .int .i64 yb], .int .i64 x, .int .i64 y] w fun e w' => e = .returned (.int .i64 (nd xa ya xb yb x y)) ∧ Below w.heap.size w w' := by
  have H : Hid _ := nd_bd h1 h2 h3 h4 h5 h6
  unfold small at *
  obtain ⟨h11, h12⟩ := h1
  obtain ⟨h21, h22⟩ := h2
  obtain ⟨h31, h32⟩ := h3
  obtain ⟨h41, h42⟩ := h4
  obtain ⟨h51, h52⟩ := h5
  obtain ⟨h61, h62⟩ := h6
  go_enter Try.func118, Try.ntmps118
  go_wp2
  go_ret
  have h := H.out
  refine ⟨ret_int ?_, ((Below.refl _ _).alloc (Nat.le_refl _) _).alloc (by simp) _⟩
  rw [wrap_in (n := (xb - xa) * _) (by omega) (by omega), wrap_in (n := (yb - ya) * _) (by omega) (by omega), wrap_in (by omega) (by omega)]
  rfl

set_option maxHeartbeats 1000000 in
theorem covers_flat (xa ya xb yb xc yc x y : Int) (w : World) (h1 : small xa) (h2 : small ya) (h3 : small xb) (h4 : small yb) (h5 : small xc) (h6 : small yc) (hz : sd xa ya xb yb xc yc = 0) :
    Calls Try.prog 113 #[.agg #[.int .i64 xa, .int .i64 ya, .int .i64 xb, .int .i64 yb, .int .i64 xc, .int .i64 yc], .int .i64 x, .int .i64 y] w fun e w' => e = .returned (.bool (cov xa ya xb yb xc yc x y)) ∧ Below w.heap.size w w' := by
  have e : cov xa ya xb yb xc yc x y = false := by unfold cov; rw [if_pos hz]
  rw [e]
  have hz' : ((xb - xa) * (yc - ya) - (yb - ya) * (xc - xa) == 0) = true := by simpa [sd] using hz
  clear e hz
  obtain ⟨⟨b1, b2⟩, b3, b4⟩ := sd_bd h1 h2 h3 h4 h5 h6
  have h11 := h1.1
  have h12 := h1.2
  have h21 := h2.1
  have h22 := h2.2
  have h31 := h3.1
  have h32 := h3.2
  have h41 := h4.1
  have h42 := h4.2
  have h51 := h5.1
  have h52 := h5.2
  have h61 := h6.1
  have h62 := h6.2
  go_enter Try.func113, Try.ntmps113
  go_wp2
  go_ret
  exact ⟨rfl, (Below.refl _ _).alloc (Nat.le_refl _) _⟩

set_option maxHeartbeats 1000000 in
theorem covers_pos (xa ya xb yb xc yc x y : Int) (w : World) (h1 : small xa) (h2 : small ya) (h3 : small xb) (h4 : small yb) (h5 : small xc) (h6 : small yc) (h7 : small (16 * x + 8)) (h8 : small (16 * y + 8)) (hp : 0 < sd xa ya xb yb xc yc) :
    Calls Try.prog 113 #[.agg #[.int .i64 xa, .int .i64 ya, .int .i64 xb, .int .i64 yb, .int .i64 xc, .int .i64 yc], .int .i64 x, .int .i64 y] w fun e w' => e = .returned (.bool (cov xa ya xb yb xc yc x y)) ∧ Below w.heap.size w w' := by
  have e : cov xa ya xb yb xc yc x y = (decide (0 < nd xa ya xb yb x y) && decide (0 < nd xb yb xc yc x y) && decide (0 < nd xc yc xa ya x y)) := by unfold cov; rw [if_neg (by omega), if_pos hp]
  rw [e]
  have hs : 0 < (xb - xa) * (yc - ya) - (yb - ya) * (xc - xa) := hp
  have hz' : ((xb - xa) * (yc - ya) - (yb - ya) * (xc - xa) == 0) = false := by simp; omega
  clear e hp
  obtain ⟨⟨b1, b2⟩, b3, b4⟩ := sd_bd h1 h2 h3 h4 h5 h6
  have h11 := h1.1
  have h12 := h1.2
  have h21 := h2.1
  have h22 := h2.2
  have h31 := h3.1
  have h32 := h3.2
  have h41 := h4.1
  have h42 := h4.2
  have h51 := h5.1
  have h52 := h5.2
  have h61 := h6.1
  have h62 := h6.2
  by_cases n1 : 0 < nd xa ya xb yb x y
  · by_cases n2 : 0 < nd xb yb xc yc x y
    · have e : (decide (0 < nd xa ya xb yb x y) && decide (0 < nd xb yb xc yc x y) && decide (0 < nd xc yc xa ya x y)) = decide (0 < nd xc yc xa ya x y) := by rw [decide_eq_true n1, decide_eq_true n2]; rfl
      rw [e]
      clear e
      go_enter Try.func113, Try.ntmps113
      go_wp2_with (go_at_call 118; refine (refSide_any _ _ _ _ _ _ _ (by assumption) (by assumption) (by assumption) (by assumption) (by assumption) (by assumption)).mono ?_; rintro e w1 ⟨rfl, hb1⟩; obtain ⟨hc1, hf1⟩ := bcell hb1; have hz1 : w.heap.size < w1.heap.size := (by have := hb1.size; first | omega | (simp at this; omega)); have hq : Below w.heap.size w w1 := (by first | exact ((Below.refl _ _).alloc (Nat.le_refl _) _).trans (hb1.mono (by simp)) | exact (by assumption : Below w.heap.size w _).trans (hb1.mono (by omega))))
      go_ret
      exact ⟨rfl, hq⟩
    · have e : (decide (0 < nd xa ya xb yb x y) && decide (0 < nd xb yb xc yc x y) && decide (0 < nd xc yc xa ya x y)) = false := by rw [decide_eq_false n2]; simp
      rw [e]
      clear e
      go_enter Try.func113, Try.ntmps113
      go_wp2_with (go_at_call 118; refine (refSide_any _ _ _ _ _ _ _ (by assumption) (by assumption) (by assumption) (by assumption) (by assumption) (by assumption)).mono ?_; rintro e w1 ⟨rfl, hb1⟩; obtain ⟨hc1, hf1⟩ := bcell hb1; have hz1 : w.heap.size < w1.heap.size := (by have := hb1.size; first | omega | (simp at this; omega)); have hq : Below w.heap.size w w1 := (by first | exact ((Below.refl _ _).alloc (Nat.le_refl _) _).trans (hb1.mono (by simp)) | exact (by assumption : Below w.heap.size w _).trans (hb1.mono (by omega))))
      go_ret
      exact ⟨rfl, hq⟩
  · have e : (decide (0 < nd xa ya xb yb x y) && decide (0 < nd xb yb xc yc x y) && decide (0 < nd xc yc xa ya x y)) = false := by rw [decide_eq_false n1]; simp
    rw [e]
    clear e
    go_enter Try.func113, Try.ntmps113
    go_wp2_with (go_at_call 118; refine (refSide_any _ _ _ _ _ _ _ (by assumption) (by assumption) (by assumption) (by assumption) (by assumption) (by assumption)).mono ?_; rintro e w1 ⟨rfl, hb1⟩; obtain ⟨hc1, hf1⟩ := bcell hb1; have hz1 : w.heap.size < w1.heap.size := (by have := hb1.size; first | omega | (simp at this; omega)); have hq : Below w.heap.size w w1 := (by first | exact ((Below.refl _ _).alloc (Nat.le_refl _) _).trans (hb1.mono (by simp)) | exact (by assumption : Below w.heap.size w _).trans (hb1.mono (by omega))))
    go_ret
    exact ⟨rfl, hq⟩

set_option maxHeartbeats 1000000 in
theorem covers_neg (xa ya xb yb xc yc x y : Int) (w : World) (h1 : small xa) (h2 : small ya) (h3 : small xb) (h4 : small yb) (h5 : small xc) (h6 : small yc) (h7 : small (16 * x + 8)) (h8 : small (16 * y + 8)) (hp : sd xa ya xb yb xc yc < 0) :
    Calls Try.prog 113 #[.agg #[.int .i64 xa, .int .i64 ya, .int .i64 xb, .int .i64 yb, .int .i64 xc, .int .i64 yc], .int .i64 x, .int .i64 y] w fun e w' => e = .returned (.bool (cov xa ya xb yb xc yc x y)) ∧ Below w.heap.size w w' := by
  have e : cov xa ya xb yb xc yc x y = (decide (nd xa ya xb yb x y < 0) && decide (nd xb yb xc yc x y < 0) && decide (nd xc yc xa ya x y < 0)) := by unfold cov; rw [if_neg (by omega), if_neg (by omega)]
  rw [e]
  have hs : (xb - xa) * (yc - ya) - (yb - ya) * (xc - xa) < 0 := hp
  have hz' : ((xb - xa) * (yc - ya) - (yb - ya) * (xc - xa) == 0) = false := by simp; omega
  clear e hp
  obtain ⟨⟨b1, b2⟩, b3, b4⟩ := sd_bd h1 h2 h3 h4 h5 h6
  have h11 := h1.1
  have h12 := h1.2
  have h21 := h2.1
  have h22 := h2.2
  have h31 := h3.1
  have h32 := h3.2
  have h41 := h4.1
  have h42 := h4.2
  have h51 := h5.1
  have h52 := h5.2
  have h61 := h6.1
  have h62 := h6.2
  by_cases n1 : nd xa ya xb yb x y < 0
  · by_cases n2 : nd xb yb xc yc x y < 0
    · have e : (decide (nd xa ya xb yb x y < 0) && decide (nd xb yb xc yc x y < 0) && decide (nd xc yc xa ya x y < 0)) = decide (nd xc yc xa ya x y < 0) := by rw [decide_eq_true n1, decide_eq_true n2]; rfl
      rw [e]
      clear e
      go_enter Try.func113, Try.ntmps113
      go_wp2_with (go_at_call 118; refine (refSide_any _ _ _ _ _ _ _ (by assumption) (by assumption) (by assumption) (by assumption) (by assumption) (by assumption)).mono ?_; rintro e w1 ⟨rfl, hb1⟩; obtain ⟨hc1, hf1⟩ := bcell hb1; have hz1 : w.heap.size < w1.heap.size := (by have := hb1.size; first | omega | (simp at this; omega)); have hq : Below w.heap.size w w1 := (by first | exact ((Below.refl _ _).alloc (Nat.le_refl _) _).trans (hb1.mono (by simp)) | exact (by assumption : Below w.heap.size w _).trans (hb1.mono (by omega))))
      go_ret
      exact ⟨rfl, hq⟩
    · have e : (decide (nd xa ya xb yb x y < 0) && decide (nd xb yb xc yc x y < 0) && decide (nd xc yc xa ya x y < 0)) = false := by rw [decide_eq_false n2]; simp
      rw [e]
      clear e
      go_enter Try.func113, Try.ntmps113
      go_wp2_with (go_at_call 118; refine (refSide_any _ _ _ _ _ _ _ (by assumption) (by assumption) (by assumption) (by assumption) (by assumption) (by assumption)).mono ?_; rintro e w1 ⟨rfl, hb1⟩; obtain ⟨hc1, hf1⟩ := bcell hb1; have hz1 : w.heap.size < w1.heap.size := (by have := hb1.size; first | omega | (simp at this; omega)); have hq : Below w.heap.size w w1 := (by first | exact ((Below.refl _ _).alloc (Nat.le_refl _) _).trans (hb1.mono (by simp)) | exact (by assumption : Below w.heap.size w _).trans (hb1.mono (by omega))))
      go_ret
      exact ⟨rfl, hq⟩
  · have e : (decide (nd xa ya xb yb x y < 0) && decide (nd xb yb xc yc x y < 0) && decide (nd xc yc xa ya x y < 0)) = false := by rw [decide_eq_false n1]; simp
    rw [e]
    clear e
    go_enter Try.func113, Try.ntmps113
    go_wp2_with (go_at_call 118; refine (refSide_any _ _ _ _ _ _ _ (by assumption) (by assumption) (by assumption) (by assumption) (by assumption) (by assumption)).mono ?_; rintro e w1 ⟨rfl, hb1⟩; obtain ⟨hc1, hf1⟩ := bcell hb1; have hz1 : w.heap.size < w1.heap.size := (by have := hb1.size; first | omega | (simp at this; omega)); have hq : Below w.heap.size w w1 := (by first | exact ((Below.refl _ _).alloc (Nat.le_refl _) _).trans (hb1.mono (by simp)) | exact (by assumption : Below w.heap.size w _).trans (hb1.mono (by omega))))
    go_ret
    exact ⟨rfl, hq⟩

theorem covers_any (xa ya xb yb xc yc x y : Int) (w : World) (h1 : small xa) (h2 : small ya) (h3 : small xb) (h4 : small yb) (h5 : small xc) (h6 : small yc) (h7 : small (16 * x + 8)) (h8 : small (16 * y + 8)) :
    Calls Try.prog 113 #[.agg #[.int .i64 xa, .int .i64 ya, .int .i64 xb, .int .i64 yb, .int .i64 xc, .int .i64 yc], .int .i64 x, .int .i64 y] w fun e w' => e = .returned (.bool (cov xa ya xb yb xc yc x y)) ∧ Below w.heap.size w w' := by
  rcases Int.lt_trichotomy (sd xa ya xb yb xc yc) 0 with h | h | h
  · exact covers_neg xa ya xb yb xc yc x y w h1 h2 h3 h4 h5 h6 h7 h8 h
  · exact covers_flat xa ya xb yb xc yc x y w h1 h2 h3 h4 h5 h6 h
  · exact covers_pos xa ya xb yb xc yc x y w h1 h2 h3 h4 h5 h6 h7 h8 h

end Go.Proofs.Ytbedkfgdhaajaab
