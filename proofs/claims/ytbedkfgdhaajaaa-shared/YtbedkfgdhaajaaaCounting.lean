/- Walks: 'counted' of the statement Shared (P3), case by case. -/
import Derived.Test.YtbedkfgdhaajaaaCounted
namespace Go.Proofs.Ytbedkfgdhaajaaa
open Go.RowKit

set_option maxHeartbeats 1000000 in
theorem counted_flat (xa ya xb yb xc yc x y : Int) (w : World) (h1 : small xa) (h2 : small ya) (h3 : small xb) (h4 : small yb) (h5 : small xc) (h6 : small yc) (p1 : 0 ≤ x) (p2 : x < 24) (p3 : 0 ≤ y) (p4 : y < 24) (hs : sg (sd xa ya xb yb xc yc) = 0) :
    Calls Try.prog 19 #[.agg #[.int .i64 xa, .int .i64 ya], .agg #[.int .i64 xb, .int .i64 yb], .agg #[.int .i64 xc, .int .i64 yc], .int .i64 x, .int .i64 y] w fun e w' => e = .returned (.tuple #[.int .i64 (cn xa ya xb yb xc yc x y), .bool true]) ∧ Below w.heap.size w w' := by
  have n1 : near xa ya = true := decide_eq_true ⟨h1.1, h1.2, h2.1, h2.2⟩
  have n2 : near xb yb = true := decide_eq_true ⟨h3.1, h3.2, h4.1, h4.2⟩
  have n3 : near xc yc = true := decide_eq_true ⟨h5.1, h5.2, h6.1, h6.2⟩
  have n4 : pix x y = true := decide_eq_true ⟨p1, p2, p3, p4⟩
  have s7 : small (16 * x + 8) := ⟨by omega, by omega⟩
  have s8 : small (16 * y + 8) := ⟨by omega, by omega⟩
  have hcov : cov xa ya xb yb xc yc x y = false := cov_flat hs
  have e : cn xa ya xb yb xc yc x y = 0 := by unfold cn; rw [hcov]; rfl
  rw [e]
  clear e
  go_enter Try.func19, Try.ntmps19
  go_wp2_with (first | (go_at_call 15; refine (cover_any _ _ _ _ _ _ _ _ _).mono ?_; rw [cvr_yes n1 n2 n3 n4]; rintro e wa ⟨rfl, hba⟩; obtain ⟨hca, hfa⟩ := bcell hba; have hza : w.heap.size + 3 ≤ wa.heap.size := (by have := hba.size; simp at this; omega); have hz2 : w.heap.size < wa.heap.size := (by omega); have hz3 : w.heap.size + 1 < wa.heap.size := (by omega); have hz4 : w.heap.size + 1 + 1 < wa.heap.size := (by omega); have hq : Below w.heap.size w wa := (by first | exact ((((Below.refl _ _).alloc (Nat.le_refl _) _).alloc (by simp) _).alloc (by simp; omega) _).trans (hba.mono (by simp; omega)) | exact ((by assumption : Below w.heap.size w _).alloc (by omega) _).trans (hba.mono (by simp; omega)) | exact (by assumption : Below w.heap.size w _).trans (hba.mono (by omega)))) | (go_at_call 38; refine (turn_any _ _ _ _ _ _ _ (by assumption) (by assumption) (by assumption) (by assumption) (by assumption) (by assumption)).mono ?_; rintro e w1 ⟨rfl, hb1⟩; obtain ⟨hc1, hf1⟩ := bcell hb1; have hz0 : wa.heap.size < w1.heap.size := (by have := hb1.size; first | omega | (simp at this; omega)); have hz2 : w.heap.size < w1.heap.size := (by omega); have hz3 : w.heap.size + 1 < w1.heap.size := (by omega); have hz4 : w.heap.size + 1 + 1 < w1.heap.size := (by omega); have hq : Below w.heap.size w w1 := (by first | exact ((((Below.refl _ _).alloc (Nat.le_refl _) _).alloc (by simp) _).alloc (by simp; omega) _).trans (hb1.mono (by simp; omega)) | exact ((by assumption : Below w.heap.size w _).alloc (by omega) _).trans (hb1.mono (by simp; omega)) | exact (by assumption : Below w.heap.size w _).trans (hb1.mono (by omega)))))
  go_ret2
  exact ⟨rfl, hq⟩

set_option maxHeartbeats 1000000 in
theorem counted_out1 (xa ya xb yb xc yc x y : Int) (w : World) (h1 : small xa) (h2 : small ya) (h3 : small xb) (h4 : small yb) (h5 : small xc) (h6 : small yc) (p1 : 0 ≤ x) (p2 : x < 24) (p3 : 0 ≤ y) (p4 : y < 24) (hs : (sg (sd xa ya xb yb xc yc) == 0) = false) (o1 : sg (sd xa ya xb yb xc yc) * sg (sd xa ya xb yb (16 * x + 8) (16 * y + 8)) < 0) :
    Calls Try.prog 19 #[.agg #[.int .i64 xa, .int .i64 ya], .agg #[.int .i64 xb, .int .i64 yb], .agg #[.int .i64 xc, .int .i64 yc], .int .i64 x, .int .i64 y] w fun e w' => e = .returned (.tuple #[.int .i64 (cn xa ya xb yb xc yc x y), .bool true]) ∧ Below w.heap.size w w' := by
  have n1 : near xa ya = true := decide_eq_true ⟨h1.1, h1.2, h2.1, h2.2⟩
  have n2 : near xb yb = true := decide_eq_true ⟨h3.1, h3.2, h4.1, h4.2⟩
  have n3 : near xc yc = true := decide_eq_true ⟨h5.1, h5.2, h6.1, h6.2⟩
  have n4 : pix x y = true := decide_eq_true ⟨p1, p2, p3, p4⟩
  have s7 : small (16 * x + 8) := ⟨by omega, by omega⟩
  have s8 : small (16 * y + 8) := ⟨by omega, by omega⟩
  have b11 := (sg_mul_bd (sd xa ya xb yb xc yc) (sd xa ya xb yb (16 * x + 8) (16 * y + 8))).1
  have b12 := (sg_mul_bd (sd xa ya xb yb xc yc) (sd xa ya xb yb (16 * x + 8) (16 * y + 8))).2
  have b21 := (sg_mul_bd (sd xa ya xb yb xc yc) (sd xb yb xc yc (16 * x + 8) (16 * y + 8))).1
  have b22 := (sg_mul_bd (sd xa ya xb yb xc yc) (sd xb yb xc yc (16 * x + 8) (16 * y + 8))).2
  have b31 := (sg_mul_bd (sd xa ya xb yb xc yc) (sd xc yc xa ya (16 * x + 8) (16 * y + 8))).1
  have b32 := (sg_mul_bd (sd xa ya xb yb xc yc) (sd xc yc xa ya (16 * x + 8) (16 * y + 8))).2
  have hcov : cov xa ya xb yb xc yc x y = false := cov_out h1 h2 h3 h4 h5 h6 (.inl o1)
  have e : cn xa ya xb yb xc yc x y = 0 := by unfold cn; rw [hcov]; rfl
  rw [e]
  clear e
  go_enter Try.func19, Try.ntmps19
  go_wp2_with (first | (go_at_call 15; refine (cover_any _ _ _ _ _ _ _ _ _).mono ?_; rw [cvr_yes n1 n2 n3 n4]; rintro e wa ⟨rfl, hba⟩; obtain ⟨hca, hfa⟩ := bcell hba; have hza : w.heap.size + 3 ≤ wa.heap.size := (by have := hba.size; simp at this; omega); have hz2 : w.heap.size < wa.heap.size := (by omega); have hz3 : w.heap.size + 1 < wa.heap.size := (by omega); have hz4 : w.heap.size + 1 + 1 < wa.heap.size := (by omega); have hq : Below w.heap.size w wa := (by first | exact ((((Below.refl _ _).alloc (Nat.le_refl _) _).alloc (by simp) _).alloc (by simp; omega) _).trans (hba.mono (by simp; omega)) | exact ((by assumption : Below w.heap.size w _).alloc (by omega) _).trans (hba.mono (by simp; omega)) | exact (by assumption : Below w.heap.size w _).trans (hba.mono (by omega)))) | (go_at_call 38; refine (turn_any _ _ _ _ _ _ _ (by assumption) (by assumption) (by assumption) (by assumption) (by assumption) (by assumption)).mono ?_; rintro e w1 ⟨rfl, hb1⟩; obtain ⟨hc1, hf1⟩ := bcell hb1; have hz0 : wa.heap.size < w1.heap.size := (by have := hb1.size; first | omega | (simp at this; omega)); have hz2 : w.heap.size < w1.heap.size := (by omega); have hz3 : w.heap.size + 1 < w1.heap.size := (by omega); have hz4 : w.heap.size + 1 + 1 < w1.heap.size := (by omega); have hq : Below w.heap.size w w1 := (by first | exact ((((Below.refl _ _).alloc (Nat.le_refl _) _).alloc (by simp) _).alloc (by simp; omega) _).trans (hb1.mono (by simp; omega)) | exact ((by assumption : Below w.heap.size w _).alloc (by omega) _).trans (hb1.mono (by simp; omega)) | exact (by assumption : Below w.heap.size w _).trans (hb1.mono (by omega)))))
  go_ret2
  exact ⟨rfl, hq⟩

set_option maxHeartbeats 1000000 in
theorem counted_out2 (xa ya xb yb xc yc x y : Int) (w : World) (h1 : small xa) (h2 : small ya) (h3 : small xb) (h4 : small yb) (h5 : small xc) (h6 : small yc) (p1 : 0 ≤ x) (p2 : x < 24) (p3 : 0 ≤ y) (p4 : y < 24) (hs : (sg (sd xa ya xb yb xc yc) == 0) = false) (o1 : ¬ sg (sd xa ya xb yb xc yc) * sg (sd xa ya xb yb (16 * x + 8) (16 * y + 8)) < 0) (o2 : sg (sd xa ya xb yb xc yc) * sg (sd xb yb xc yc (16 * x + 8) (16 * y + 8)) < 0) :
    Calls Try.prog 19 #[.agg #[.int .i64 xa, .int .i64 ya], .agg #[.int .i64 xb, .int .i64 yb], .agg #[.int .i64 xc, .int .i64 yc], .int .i64 x, .int .i64 y] w fun e w' => e = .returned (.tuple #[.int .i64 (cn xa ya xb yb xc yc x y), .bool true]) ∧ Below w.heap.size w w' := by
  have n1 : near xa ya = true := decide_eq_true ⟨h1.1, h1.2, h2.1, h2.2⟩
  have n2 : near xb yb = true := decide_eq_true ⟨h3.1, h3.2, h4.1, h4.2⟩
  have n3 : near xc yc = true := decide_eq_true ⟨h5.1, h5.2, h6.1, h6.2⟩
  have n4 : pix x y = true := decide_eq_true ⟨p1, p2, p3, p4⟩
  have s7 : small (16 * x + 8) := ⟨by omega, by omega⟩
  have s8 : small (16 * y + 8) := ⟨by omega, by omega⟩
  have b11 := (sg_mul_bd (sd xa ya xb yb xc yc) (sd xa ya xb yb (16 * x + 8) (16 * y + 8))).1
  have b12 := (sg_mul_bd (sd xa ya xb yb xc yc) (sd xa ya xb yb (16 * x + 8) (16 * y + 8))).2
  have b21 := (sg_mul_bd (sd xa ya xb yb xc yc) (sd xb yb xc yc (16 * x + 8) (16 * y + 8))).1
  have b22 := (sg_mul_bd (sd xa ya xb yb xc yc) (sd xb yb xc yc (16 * x + 8) (16 * y + 8))).2
  have b31 := (sg_mul_bd (sd xa ya xb yb xc yc) (sd xc yc xa ya (16 * x + 8) (16 * y + 8))).1
  have b32 := (sg_mul_bd (sd xa ya xb yb xc yc) (sd xc yc xa ya (16 * x + 8) (16 * y + 8))).2
  have hcov : cov xa ya xb yb xc yc x y = false := cov_out h1 h2 h3 h4 h5 h6 (.inr (.inl o2))
  have e : cn xa ya xb yb xc yc x y = 0 := by unfold cn; rw [hcov]; rfl
  rw [e]
  clear e
  go_enter Try.func19, Try.ntmps19
  go_wp2_with (first | (go_at_call 15; refine (cover_any _ _ _ _ _ _ _ _ _).mono ?_; rw [cvr_yes n1 n2 n3 n4]; rintro e wa ⟨rfl, hba⟩; obtain ⟨hca, hfa⟩ := bcell hba; have hza : w.heap.size + 3 ≤ wa.heap.size := (by have := hba.size; simp at this; omega); have hz2 : w.heap.size < wa.heap.size := (by omega); have hz3 : w.heap.size + 1 < wa.heap.size := (by omega); have hz4 : w.heap.size + 1 + 1 < wa.heap.size := (by omega); have hq : Below w.heap.size w wa := (by first | exact ((((Below.refl _ _).alloc (Nat.le_refl _) _).alloc (by simp) _).alloc (by simp; omega) _).trans (hba.mono (by simp; omega)) | exact ((by assumption : Below w.heap.size w _).alloc (by omega) _).trans (hba.mono (by simp; omega)) | exact (by assumption : Below w.heap.size w _).trans (hba.mono (by omega)))) | (go_at_call 38; refine (turn_any _ _ _ _ _ _ _ (by assumption) (by assumption) (by assumption) (by assumption) (by assumption) (by assumption)).mono ?_; rintro e w1 ⟨rfl, hb1⟩; obtain ⟨hc1, hf1⟩ := bcell hb1; have hz0 : wa.heap.size < w1.heap.size := (by have := hb1.size; first | omega | (simp at this; omega)); have hz2 : w.heap.size < w1.heap.size := (by omega); have hz3 : w.heap.size + 1 < w1.heap.size := (by omega); have hz4 : w.heap.size + 1 + 1 < w1.heap.size := (by omega); have hq : Below w.heap.size w w1 := (by first | exact ((((Below.refl _ _).alloc (Nat.le_refl _) _).alloc (by simp) _).alloc (by simp; omega) _).trans (hb1.mono (by simp; omega)) | exact ((by assumption : Below w.heap.size w _).alloc (by omega) _).trans (hb1.mono (by simp; omega)) | exact (by assumption : Below w.heap.size w _).trans (hb1.mono (by omega)))))
  go_ret2
  exact ⟨rfl, hq⟩

set_option maxHeartbeats 1000000 in
theorem counted_out3 (xa ya xb yb xc yc x y : Int) (w : World) (h1 : small xa) (h2 : small ya) (h3 : small xb) (h4 : small yb) (h5 : small xc) (h6 : small yc) (p1 : 0 ≤ x) (p2 : x < 24) (p3 : 0 ≤ y) (p4 : y < 24) (hs : (sg (sd xa ya xb yb xc yc) == 0) = false) (o1 : ¬ sg (sd xa ya xb yb xc yc) * sg (sd xa ya xb yb (16 * x + 8) (16 * y + 8)) < 0) (o2 : ¬ sg (sd xa ya xb yb xc yc) * sg (sd xb yb xc yc (16 * x + 8) (16 * y + 8)) < 0) (o3 : sg (sd xa ya xb yb xc yc) * sg (sd xc yc xa ya (16 * x + 8) (16 * y + 8)) < 0) :
    Calls Try.prog 19 #[.agg #[.int .i64 xa, .int .i64 ya], .agg #[.int .i64 xb, .int .i64 yb], .agg #[.int .i64 xc, .int .i64 yc], .int .i64 x, .int .i64 y] w fun e w' => e = .returned (.tuple #[.int .i64 (cn xa ya xb yb xc yc x y), .bool true]) ∧ Below w.heap.size w w' := by
  have n1 : near xa ya = true := decide_eq_true ⟨h1.1, h1.2, h2.1, h2.2⟩
  have n2 : near xb yb = true := decide_eq_true ⟨h3.1, h3.2, h4.1, h4.2⟩
  have n3 : near xc yc = true := decide_eq_true ⟨h5.1, h5.2, h6.1, h6.2⟩
  have n4 : pix x y = true := decide_eq_true ⟨p1, p2, p3, p4⟩
  have s7 : small (16 * x + 8) := ⟨by omega, by omega⟩
  have s8 : small (16 * y + 8) := ⟨by omega, by omega⟩
  have b11 := (sg_mul_bd (sd xa ya xb yb xc yc) (sd xa ya xb yb (16 * x + 8) (16 * y + 8))).1
  have b12 := (sg_mul_bd (sd xa ya xb yb xc yc) (sd xa ya xb yb (16 * x + 8) (16 * y + 8))).2
  have b21 := (sg_mul_bd (sd xa ya xb yb xc yc) (sd xb yb xc yc (16 * x + 8) (16 * y + 8))).1
  have b22 := (sg_mul_bd (sd xa ya xb yb xc yc) (sd xb yb xc yc (16 * x + 8) (16 * y + 8))).2
  have b31 := (sg_mul_bd (sd xa ya xb yb xc yc) (sd xc yc xa ya (16 * x + 8) (16 * y + 8))).1
  have b32 := (sg_mul_bd (sd xa ya xb yb xc yc) (sd xc yc xa ya (16 * x + 8) (16 * y + 8))).2
  have hcov : cov xa ya xb yb xc yc x y = false := cov_out h1 h2 h3 h4 h5 h6 (.inr (.inr o3))
  have e : cn xa ya xb yb xc yc x y = 0 := by unfold cn; rw [hcov]; rfl
  rw [e]
  clear e
  go_enter Try.func19, Try.ntmps19
  go_wp2_with (first | (go_at_call 15; refine (cover_any _ _ _ _ _ _ _ _ _).mono ?_; rw [cvr_yes n1 n2 n3 n4]; rintro e wa ⟨rfl, hba⟩; obtain ⟨hca, hfa⟩ := bcell hba; have hza : w.heap.size + 3 ≤ wa.heap.size := (by have := hba.size; simp at this; omega); have hz2 : w.heap.size < wa.heap.size := (by omega); have hz3 : w.heap.size + 1 < wa.heap.size := (by omega); have hz4 : w.heap.size + 1 + 1 < wa.heap.size := (by omega); have hq : Below w.heap.size w wa := (by first | exact ((((Below.refl _ _).alloc (Nat.le_refl _) _).alloc (by simp) _).alloc (by simp; omega) _).trans (hba.mono (by simp; omega)) | exact ((by assumption : Below w.heap.size w _).alloc (by omega) _).trans (hba.mono (by simp; omega)) | exact (by assumption : Below w.heap.size w _).trans (hba.mono (by omega)))) | (go_at_call 38; refine (turn_any _ _ _ _ _ _ _ (by assumption) (by assumption) (by assumption) (by assumption) (by assumption) (by assumption)).mono ?_; rintro e w1 ⟨rfl, hb1⟩; obtain ⟨hc1, hf1⟩ := bcell hb1; have hz0 : wa.heap.size < w1.heap.size := (by have := hb1.size; first | omega | (simp at this; omega)); have hz2 : w.heap.size < w1.heap.size := (by omega); have hz3 : w.heap.size + 1 < w1.heap.size := (by omega); have hz4 : w.heap.size + 1 + 1 < w1.heap.size := (by omega); have hq : Below w.heap.size w w1 := (by first | exact ((((Below.refl _ _).alloc (Nat.le_refl _) _).alloc (by simp) _).alloc (by simp; omega) _).trans (hb1.mono (by simp; omega)) | exact ((by assumption : Below w.heap.size w _).alloc (by omega) _).trans (hb1.mono (by simp; omega)) | exact (by assumption : Below w.heap.size w _).trans (hb1.mono (by omega)))))
  go_ret2
  exact ⟨rfl, hq⟩

set_option maxHeartbeats 1000000 in
theorem counted_yes (xa ya xb yb xc yc x y : Int) (w : World) (h1 : small xa) (h2 : small ya) (h3 : small xb) (h4 : small yb) (h5 : small xc) (h6 : small yc) (p1 : 0 ≤ x) (p2 : x < 24) (p3 : 0 ≤ y) (p4 : y < 24) (hs : (sg (sd xa ya xb yb xc yc) == 0) = false) (o1 : ¬ sg (sd xa ya xb yb xc yc) * sg (sd xa ya xb yb (16 * x + 8) (16 * y + 8)) < 0) (o2 : ¬ sg (sd xa ya xb yb xc yc) * sg (sd xb yb xc yc (16 * x + 8) (16 * y + 8)) < 0) (o3 : ¬ sg (sd xa ya xb yb xc yc) * sg (sd xc yc xa ya (16 * x + 8) (16 * y + 8)) < 0) (hcov : cov xa ya xb yb xc yc x y = true) :
    Calls Try.prog 19 #[.agg #[.int .i64 xa, .int .i64 ya], .agg #[.int .i64 xb, .int .i64 yb], .agg #[.int .i64 xc, .int .i64 yc], .int .i64 x, .int .i64 y] w fun e w' => e = .returned (.tuple #[.int .i64 (cn xa ya xb yb xc yc x y), .bool true]) ∧ Below w.heap.size w w' := by
  have n1 : near xa ya = true := decide_eq_true ⟨h1.1, h1.2, h2.1, h2.2⟩
  have n2 : near xb yb = true := decide_eq_true ⟨h3.1, h3.2, h4.1, h4.2⟩
  have n3 : near xc yc = true := decide_eq_true ⟨h5.1, h5.2, h6.1, h6.2⟩
  have n4 : pix x y = true := decide_eq_true ⟨p1, p2, p3, p4⟩
  have s7 : small (16 * x + 8) := ⟨by omega, by omega⟩
  have s8 : small (16 * y + 8) := ⟨by omega, by omega⟩
  have b11 := (sg_mul_bd (sd xa ya xb yb xc yc) (sd xa ya xb yb (16 * x + 8) (16 * y + 8))).1
  have b12 := (sg_mul_bd (sd xa ya xb yb xc yc) (sd xa ya xb yb (16 * x + 8) (16 * y + 8))).2
  have b21 := (sg_mul_bd (sd xa ya xb yb xc yc) (sd xb yb xc yc (16 * x + 8) (16 * y + 8))).1
  have b22 := (sg_mul_bd (sd xa ya xb yb xc yc) (sd xb yb xc yc (16 * x + 8) (16 * y + 8))).2
  have b31 := (sg_mul_bd (sd xa ya xb yb xc yc) (sd xc yc xa ya (16 * x + 8) (16 * y + 8))).1
  have b32 := (sg_mul_bd (sd xa ya xb yb xc yc) (sd xc yc xa ya (16 * x + 8) (16 * y + 8))).2
  have e : cn xa ya xb yb xc yc x y = sg (sd xa ya xb yb xc yc) := by unfold cn; rw [hcov]; rfl
  rw [e]
  clear e
  go_enter Try.func19, Try.ntmps19
  go_wp2_with (first | (go_at_call 15; refine (cover_any _ _ _ _ _ _ _ _ _).mono ?_; rw [cvr_yes n1 n2 n3 n4]; rintro e wa ⟨rfl, hba⟩; obtain ⟨hca, hfa⟩ := bcell hba; have hza : w.heap.size + 3 ≤ wa.heap.size := (by have := hba.size; simp at this; omega); have hz2 : w.heap.size < wa.heap.size := (by omega); have hz3 : w.heap.size + 1 < wa.heap.size := (by omega); have hz4 : w.heap.size + 1 + 1 < wa.heap.size := (by omega); have hq : Below w.heap.size w wa := (by first | exact ((((Below.refl _ _).alloc (Nat.le_refl _) _).alloc (by simp) _).alloc (by simp; omega) _).trans (hba.mono (by simp; omega)) | exact ((by assumption : Below w.heap.size w _).alloc (by omega) _).trans (hba.mono (by simp; omega)) | exact (by assumption : Below w.heap.size w _).trans (hba.mono (by omega)))) | (go_at_call 38; refine (turn_any _ _ _ _ _ _ _ (by assumption) (by assumption) (by assumption) (by assumption) (by assumption) (by assumption)).mono ?_; rintro e w1 ⟨rfl, hb1⟩; obtain ⟨hc1, hf1⟩ := bcell hb1; have hz0 : wa.heap.size < w1.heap.size := (by have := hb1.size; first | omega | (simp at this; omega)); have hz2 : w.heap.size < w1.heap.size := (by omega); have hz3 : w.heap.size + 1 < w1.heap.size := (by omega); have hz4 : w.heap.size + 1 + 1 < w1.heap.size := (by omega); have hq : Below w.heap.size w w1 := (by first | exact ((((Below.refl _ _).alloc (Nat.le_refl _) _).alloc (by simp) _).alloc (by simp; omega) _).trans (hb1.mono (by simp; omega)) | exact ((by assumption : Below w.heap.size w _).alloc (by omega) _).trans (hb1.mono (by simp; omega)) | exact (by assumption : Below w.heap.size w _).trans (hb1.mono (by omega)))))
  all_goals
    go_ret2
    exact ⟨rfl, hq⟩

set_option maxHeartbeats 1000000 in
theorem counted_no1 (xa ya xb yb xc yc x y : Int) (w : World) (h1 : small xa) (h2 : small ya) (h3 : small xb) (h4 : small yb) (h5 : small xc) (h6 : small yc) (p1 : 0 ≤ x) (p2 : x < 24) (p3 : 0 ≤ y) (p4 : y < 24) (hs : (sg (sd xa ya xb yb xc yc) == 0) = false) (o1 : ¬ sg (sd xa ya xb yb xc yc) * sg (sd xa ya xb yb (16 * x + 8) (16 * y + 8)) < 0) (o2 : ¬ sg (sd xa ya xb yb xc yc) * sg (sd xb yb xc yc (16 * x + 8) (16 * y + 8)) < 0) (o3 : ¬ sg (sd xa ya xb yb xc yc) * sg (sd xc yc xa ya (16 * x + 8) (16 * y + 8)) < 0) (hcov : cov xa ya xb yb xc yc x y = false) (q1 : ¬ 0 < sg (sd xa ya xb yb xc yc) * sg (sd xa ya xb yb (16 * x + 8) (16 * y + 8))) :
    Calls Try.prog 19 #[.agg #[.int .i64 xa, .int .i64 ya], .agg #[.int .i64 xb, .int .i64 yb], .agg #[.int .i64 xc, .int .i64 yc], .int .i64 x, .int .i64 y] w fun e w' => e = .returned (.tuple #[.int .i64 (cn xa ya xb yb xc yc x y), .bool true]) ∧ Below w.heap.size w w' := by
  have n1 : near xa ya = true := decide_eq_true ⟨h1.1, h1.2, h2.1, h2.2⟩
  have n2 : near xb yb = true := decide_eq_true ⟨h3.1, h3.2, h4.1, h4.2⟩
  have n3 : near xc yc = true := decide_eq_true ⟨h5.1, h5.2, h6.1, h6.2⟩
  have n4 : pix x y = true := decide_eq_true ⟨p1, p2, p3, p4⟩
  have s7 : small (16 * x + 8) := ⟨by omega, by omega⟩
  have s8 : small (16 * y + 8) := ⟨by omega, by omega⟩
  have b11 := (sg_mul_bd (sd xa ya xb yb xc yc) (sd xa ya xb yb (16 * x + 8) (16 * y + 8))).1
  have b12 := (sg_mul_bd (sd xa ya xb yb xc yc) (sd xa ya xb yb (16 * x + 8) (16 * y + 8))).2
  have b21 := (sg_mul_bd (sd xa ya xb yb xc yc) (sd xb yb xc yc (16 * x + 8) (16 * y + 8))).1
  have b22 := (sg_mul_bd (sd xa ya xb yb xc yc) (sd xb yb xc yc (16 * x + 8) (16 * y + 8))).2
  have b31 := (sg_mul_bd (sd xa ya xb yb xc yc) (sd xc yc xa ya (16 * x + 8) (16 * y + 8))).1
  have b32 := (sg_mul_bd (sd xa ya xb yb xc yc) (sd xc yc xa ya (16 * x + 8) (16 * y + 8))).2
  have e : cn xa ya xb yb xc yc x y = 0 := by unfold cn; rw [hcov]; rfl
  rw [e]
  clear e
  go_enter Try.func19, Try.ntmps19
  go_wp2_with (first | (go_at_call 15; refine (cover_any _ _ _ _ _ _ _ _ _).mono ?_; rw [cvr_yes n1 n2 n3 n4]; rintro e wa ⟨rfl, hba⟩; obtain ⟨hca, hfa⟩ := bcell hba; have hza : w.heap.size + 3 ≤ wa.heap.size := (by have := hba.size; simp at this; omega); have hz2 : w.heap.size < wa.heap.size := (by omega); have hz3 : w.heap.size + 1 < wa.heap.size := (by omega); have hz4 : w.heap.size + 1 + 1 < wa.heap.size := (by omega); have hq : Below w.heap.size w wa := (by first | exact ((((Below.refl _ _).alloc (Nat.le_refl _) _).alloc (by simp) _).alloc (by simp; omega) _).trans (hba.mono (by simp; omega)) | exact ((by assumption : Below w.heap.size w _).alloc (by omega) _).trans (hba.mono (by simp; omega)) | exact (by assumption : Below w.heap.size w _).trans (hba.mono (by omega)))) | (go_at_call 38; refine (turn_any _ _ _ _ _ _ _ (by assumption) (by assumption) (by assumption) (by assumption) (by assumption) (by assumption)).mono ?_; rintro e w1 ⟨rfl, hb1⟩; obtain ⟨hc1, hf1⟩ := bcell hb1; have hz0 : wa.heap.size < w1.heap.size := (by have := hb1.size; first | omega | (simp at this; omega)); have hz2 : w.heap.size < w1.heap.size := (by omega); have hz3 : w.heap.size + 1 < w1.heap.size := (by omega); have hz4 : w.heap.size + 1 + 1 < w1.heap.size := (by omega); have hq : Below w.heap.size w w1 := (by first | exact ((((Below.refl _ _).alloc (Nat.le_refl _) _).alloc (by simp) _).alloc (by simp; omega) _).trans (hb1.mono (by simp; omega)) | exact ((by assumption : Below w.heap.size w _).alloc (by omega) _).trans (hb1.mono (by simp; omega)) | exact (by assumption : Below w.heap.size w _).trans (hb1.mono (by omega)))))
  go_ret2
  exact ⟨rfl, hq⟩

set_option maxHeartbeats 1000000 in
theorem counted_no2 (xa ya xb yb xc yc x y : Int) (w : World) (h1 : small xa) (h2 : small ya) (h3 : small xb) (h4 : small yb) (h5 : small xc) (h6 : small yc) (p1 : 0 ≤ x) (p2 : x < 24) (p3 : 0 ≤ y) (p4 : y < 24) (hs : (sg (sd xa ya xb yb xc yc) == 0) = false) (o1 : ¬ sg (sd xa ya xb yb xc yc) * sg (sd xa ya xb yb (16 * x + 8) (16 * y + 8)) < 0) (o2 : ¬ sg (sd xa ya xb yb xc yc) * sg (sd xb yb xc yc (16 * x + 8) (16 * y + 8)) < 0) (o3 : ¬ sg (sd xa ya xb yb xc yc) * sg (sd xc yc xa ya (16 * x + 8) (16 * y + 8)) < 0) (hcov : cov xa ya xb yb xc yc x y = false) (q1 : 0 < sg (sd xa ya xb yb xc yc) * sg (sd xa ya xb yb (16 * x + 8) (16 * y + 8))) (q2 : ¬ 0 < sg (sd xa ya xb yb xc yc) * sg (sd xb yb xc yc (16 * x + 8) (16 * y + 8))) :
    Calls Try.prog 19 #[.agg #[.int .i64 xa, .int .i64 ya], .agg #[.int .i64 xb, .int .i64 yb], .agg #[.int .i64 xc, .int .i64 yc], .int .i64 x, .int .i64 y] w fun e w' => e = .returned (.tuple #[.int .i64 (cn xa ya xb yb xc yc x y), .bool true]) ∧ Below w.heap.size w w' := by
  have n1 : near xa ya = true := decide_eq_true ⟨h1.1, h1.2, h2.1, h2.2⟩
  have n2 : near xb yb = true := decide_eq_true ⟨h3.1, h3.2, h4.1, h4.2⟩
  have n3 : near xc yc = true := decide_eq_true ⟨h5.1, h5.2, h6.1, h6.2⟩
  have n4 : pix x y = true := decide_eq_true ⟨p1, p2, p3, p4⟩
  have s7 : small (16 * x + 8) := ⟨by omega, by omega⟩
  have s8 : small (16 * y + 8) := ⟨by omega, by omega⟩
  have b11 := (sg_mul_bd (sd xa ya xb yb xc yc) (sd xa ya xb yb (16 * x + 8) (16 * y + 8))).1
  have b12 := (sg_mul_bd (sd xa ya xb yb xc yc) (sd xa ya xb yb (16 * x + 8) (16 * y + 8))).2
  have b21 := (sg_mul_bd (sd xa ya xb yb xc yc) (sd xb yb xc yc (16 * x + 8) (16 * y + 8))).1
  have b22 := (sg_mul_bd (sd xa ya xb yb xc yc) (sd xb yb xc yc (16 * x + 8) (16 * y + 8))).2
  have b31 := (sg_mul_bd (sd xa ya xb yb xc yc) (sd xc yc xa ya (16 * x + 8) (16 * y + 8))).1
  have b32 := (sg_mul_bd (sd xa ya xb yb xc yc) (sd xc yc xa ya (16 * x + 8) (16 * y + 8))).2
  have e : cn xa ya xb yb xc yc x y = 0 := by unfold cn; rw [hcov]; rfl
  rw [e]
  clear e
  go_enter Try.func19, Try.ntmps19
  go_wp2_with (first | (go_at_call 15; refine (cover_any _ _ _ _ _ _ _ _ _).mono ?_; rw [cvr_yes n1 n2 n3 n4]; rintro e wa ⟨rfl, hba⟩; obtain ⟨hca, hfa⟩ := bcell hba; have hza : w.heap.size + 3 ≤ wa.heap.size := (by have := hba.size; simp at this; omega); have hz2 : w.heap.size < wa.heap.size := (by omega); have hz3 : w.heap.size + 1 < wa.heap.size := (by omega); have hz4 : w.heap.size + 1 + 1 < wa.heap.size := (by omega); have hq : Below w.heap.size w wa := (by first | exact ((((Below.refl _ _).alloc (Nat.le_refl _) _).alloc (by simp) _).alloc (by simp; omega) _).trans (hba.mono (by simp; omega)) | exact ((by assumption : Below w.heap.size w _).alloc (by omega) _).trans (hba.mono (by simp; omega)) | exact (by assumption : Below w.heap.size w _).trans (hba.mono (by omega)))) | (go_at_call 38; refine (turn_any _ _ _ _ _ _ _ (by assumption) (by assumption) (by assumption) (by assumption) (by assumption) (by assumption)).mono ?_; rintro e w1 ⟨rfl, hb1⟩; obtain ⟨hc1, hf1⟩ := bcell hb1; have hz0 : wa.heap.size < w1.heap.size := (by have := hb1.size; first | omega | (simp at this; omega)); have hz2 : w.heap.size < w1.heap.size := (by omega); have hz3 : w.heap.size + 1 < w1.heap.size := (by omega); have hz4 : w.heap.size + 1 + 1 < w1.heap.size := (by omega); have hq : Below w.heap.size w w1 := (by first | exact ((((Below.refl _ _).alloc (Nat.le_refl _) _).alloc (by simp) _).alloc (by simp; omega) _).trans (hb1.mono (by simp; omega)) | exact ((by assumption : Below w.heap.size w _).alloc (by omega) _).trans (hb1.mono (by simp; omega)) | exact (by assumption : Below w.heap.size w _).trans (hb1.mono (by omega)))))
  go_ret2
  exact ⟨rfl, hq⟩

set_option maxHeartbeats 1000000 in
theorem counted_no3 (xa ya xb yb xc yc x y : Int) (w : World) (h1 : small xa) (h2 : small ya) (h3 : small xb) (h4 : small yb) (h5 : small xc) (h6 : small yc) (p1 : 0 ≤ x) (p2 : x < 24) (p3 : 0 ≤ y) (p4 : y < 24) (hs : (sg (sd xa ya xb yb xc yc) == 0) = false) (o1 : ¬ sg (sd xa ya xb yb xc yc) * sg (sd xa ya xb yb (16 * x + 8) (16 * y + 8)) < 0) (o2 : ¬ sg (sd xa ya xb yb xc yc) * sg (sd xb yb xc yc (16 * x + 8) (16 * y + 8)) < 0) (o3 : ¬ sg (sd xa ya xb yb xc yc) * sg (sd xc yc xa ya (16 * x + 8) (16 * y + 8)) < 0) (hcov : cov xa ya xb yb xc yc x y = false) (q1 : 0 < sg (sd xa ya xb yb xc yc) * sg (sd xa ya xb yb (16 * x + 8) (16 * y + 8))) (q2 : 0 < sg (sd xa ya xb yb xc yc) * sg (sd xb yb xc yc (16 * x + 8) (16 * y + 8))) (q3 : ¬ 0 < sg (sd xa ya xb yb xc yc) * sg (sd xc yc xa ya (16 * x + 8) (16 * y + 8))) :
    Calls Try.prog 19 #[.agg #[.int .i64 xa, .int .i64 ya], .agg #[.int .i64 xb, .int .i64 yb], .agg #[.int .i64 xc, .int .i64 yc], .int .i64 x, .int .i64 y] w fun e w' => e = .returned (.tuple #[.int .i64 (cn xa ya xb yb xc yc x y), .bool true]) ∧ Below w.heap.size w w' := by
  have n1 : near xa ya = true := decide_eq_true ⟨h1.1, h1.2, h2.1, h2.2⟩
  have n2 : near xb yb = true := decide_eq_true ⟨h3.1, h3.2, h4.1, h4.2⟩
  have n3 : near xc yc = true := decide_eq_true ⟨h5.1, h5.2, h6.1, h6.2⟩
  have n4 : pix x y = true := decide_eq_true ⟨p1, p2, p3, p4⟩
  have s7 : small (16 * x + 8) := ⟨by omega, by omega⟩
  have s8 : small (16 * y + 8) := ⟨by omega, by omega⟩
  have b11 := (sg_mul_bd (sd xa ya xb yb xc yc) (sd xa ya xb yb (16 * x + 8) (16 * y + 8))).1
  have b12 := (sg_mul_bd (sd xa ya xb yb xc yc) (sd xa ya xb yb (16 * x + 8) (16 * y + 8))).2
  have b21 := (sg_mul_bd (sd xa ya xb yb xc yc) (sd xb yb xc yc (16 * x + 8) (16 * y + 8))).1
  have b22 := (sg_mul_bd (sd xa ya xb yb xc yc) (sd xb yb xc yc (16 * x + 8) (16 * y + 8))).2
  have b31 := (sg_mul_bd (sd xa ya xb yb xc yc) (sd xc yc xa ya (16 * x + 8) (16 * y + 8))).1
  have b32 := (sg_mul_bd (sd xa ya xb yb xc yc) (sd xc yc xa ya (16 * x + 8) (16 * y + 8))).2
  have e : cn xa ya xb yb xc yc x y = 0 := by unfold cn; rw [hcov]; rfl
  rw [e]
  clear e
  go_enter Try.func19, Try.ntmps19
  go_wp2_with (first | (go_at_call 15; refine (cover_any _ _ _ _ _ _ _ _ _).mono ?_; rw [cvr_yes n1 n2 n3 n4]; rintro e wa ⟨rfl, hba⟩; obtain ⟨hca, hfa⟩ := bcell hba; have hza : w.heap.size + 3 ≤ wa.heap.size := (by have := hba.size; simp at this; omega); have hz2 : w.heap.size < wa.heap.size := (by omega); have hz3 : w.heap.size + 1 < wa.heap.size := (by omega); have hz4 : w.heap.size + 1 + 1 < wa.heap.size := (by omega); have hq : Below w.heap.size w wa := (by first | exact ((((Below.refl _ _).alloc (Nat.le_refl _) _).alloc (by simp) _).alloc (by simp; omega) _).trans (hba.mono (by simp; omega)) | exact ((by assumption : Below w.heap.size w _).alloc (by omega) _).trans (hba.mono (by simp; omega)) | exact (by assumption : Below w.heap.size w _).trans (hba.mono (by omega)))) | (go_at_call 38; refine (turn_any _ _ _ _ _ _ _ (by assumption) (by assumption) (by assumption) (by assumption) (by assumption) (by assumption)).mono ?_; rintro e w1 ⟨rfl, hb1⟩; obtain ⟨hc1, hf1⟩ := bcell hb1; have hz0 : wa.heap.size < w1.heap.size := (by have := hb1.size; first | omega | (simp at this; omega)); have hz2 : w.heap.size < w1.heap.size := (by omega); have hz3 : w.heap.size + 1 < w1.heap.size := (by omega); have hz4 : w.heap.size + 1 + 1 < w1.heap.size := (by omega); have hq : Below w.heap.size w w1 := (by first | exact ((((Below.refl _ _).alloc (Nat.le_refl _) _).alloc (by simp) _).alloc (by simp; omega) _).trans (hb1.mono (by simp; omega)) | exact ((by assumption : Below w.heap.size w _).alloc (by omega) _).trans (hb1.mono (by simp; omega)) | exact (by assumption : Below w.heap.size w _).trans (hb1.mono (by omega)))))
  go_ret2
  exact ⟨rfl, hq⟩

theorem counted_any (xa ya xb yb xc yc x y : Int) (w : World) (h1 : small xa) (h2 : small ya) (h3 : small xb) (h4 : small yb) (h5 : small xc) (h6 : small yc) (p1 : 0 ≤ x) (p2 : x < 24) (p3 : 0 ≤ y) (p4 : y < 24) :
    Calls Try.prog 19 #[.agg #[.int .i64 xa, .int .i64 ya], .agg #[.int .i64 xb, .int .i64 yb], .agg #[.int .i64 xc, .int .i64 yc], .int .i64 x, .int .i64 y] w fun e w' => e = .returned (.tuple #[.int .i64 (cn xa ya xb yb xc yc x y), .bool true]) ∧ Below w.heap.size w w' := by
  by_cases hs : sg (sd xa ya xb yb xc yc) = 0
  · exact counted_flat xa ya xb yb xc yc x y w h1 h2 h3 h4 h5 h6 p1 p2 p3 p4 hs
  · have hs' : (sg (sd xa ya xb yb xc yc) == 0) = false := by simpa using hs
    by_cases o1 : sg (sd xa ya xb yb xc yc) * sg (sd xa ya xb yb (16 * x + 8) (16 * y + 8)) < 0
    · exact counted_out1 xa ya xb yb xc yc x y w h1 h2 h3 h4 h5 h6 p1 p2 p3 p4 hs' o1
    · by_cases o2 : sg (sd xa ya xb yb xc yc) * sg (sd xb yb xc yc (16 * x + 8) (16 * y + 8)) < 0
      · exact counted_out2 xa ya xb yb xc yc x y w h1 h2 h3 h4 h5 h6 p1 p2 p3 p4 hs' o1 o2
      · by_cases o3 : sg (sd xa ya xb yb xc yc) * sg (sd xc yc xa ya (16 * x + 8) (16 * y + 8)) < 0
        · exact counted_out3 xa ya xb yb xc yc x y w h1 h2 h3 h4 h5 h6 p1 p2 p3 p4 hs' o1 o2 o3
        · cases hcov : cov xa ya xb yb xc yc x y
          · by_cases q1 : 0 < sg (sd xa ya xb yb xc yc) * sg (sd xa ya xb yb (16 * x + 8) (16 * y + 8))
            · by_cases q2 : 0 < sg (sd xa ya xb yb xc yc) * sg (sd xb yb xc yc (16 * x + 8) (16 * y + 8))
              · by_cases q3 : 0 < sg (sd xa ya xb yb xc yc) * sg (sd xc yc xa ya (16 * x + 8) (16 * y + 8))
                · have := cov_in h1 h2 h3 h4 h5 h6 q1 q2 q3
                  rw [hcov] at this
                  cases this
                · exact counted_no3 xa ya xb yb xc yc x y w h1 h2 h3 h4 h5 h6 p1 p2 p3 p4 hs' o1 o2 o3 hcov q1 q2 q3
              · exact counted_no2 xa ya xb yb xc yc x y w h1 h2 h3 h4 h5 h6 p1 p2 p3 p4 hs' o1 o2 o3 hcov q1 q2
            · exact counted_no1 xa ya xb yb xc yc x y w h1 h2 h3 h4 h5 h6 p1 p2 p3 p4 hs' o1 o2 o3 hcov q1
          · exact counted_yes xa ya xb yb xc yc x y w h1 h2 h3 h4 h5 h6 p1 p2 p3 p4 hs' o1 o2 o3 hcov

end Go.Proofs.Ytbedkfgdhaajaaa
