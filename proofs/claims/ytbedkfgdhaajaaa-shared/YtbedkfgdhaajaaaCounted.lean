/- Walks: the statement Shared's own functions (P3). -/
import Derived.Test.YtbedkfgdhaajaaaCovering
import Derived.Test.YtbedkfgdhaajaaaSigns
import Derived.Deep.RegionHeld3
namespace Go.Proofs.Ytbedkfgdhaajaaa
open Go.RowKit

set_option maxHeartbeats 400000 in
theorem turn_any (xa ya xb yb px py : Int) (w : World) (h1 : small xa) (h2 : small ya) (h3 : small xb) (h4 : small yb) (h5 : small px) (h6 : small py) :
    Calls Try.prog 38 #[.agg #[.int .i64 xa, .int .i64 ya], .agg #[.int .i64 xb, .int .i64 yb], .agg #[.int .i64 px, .int .i64 py]] w fun e w' => e = .returned (.int .i64 (sg (sd xa ya xb yb px py))) ∧ Below w.heap.size w w' := by
  obtain ⟨⟨b1, b2⟩, b3, b4⟩ := sd_bd h1 h2 h3 h4 h5 h6
  have hg : sd xa ya xb yb px py = (xb - xa) * (py - ya) - (yb - ya) * (px - xa) := rfl
  have h11 := h1.1
  have h12 := h1.2
  have h21 := h2.1
  have h22 := h2.2
  have h31 := h3.1
  have h32 := h3.2
  have h41 := h4.1
  have h42 := h4.2
  have h51 := h5.1
  have h52 := h5.2
  have h61 := h6.1
  have h62 := h6.2
  rcases sg_cases (sd xa ya xb yb px py) with ⟨k, e⟩ | ⟨k, e⟩ | ⟨k, e⟩
  · rw [e]
    rw [hg] at k
    clear e hg
    go_enter Try.func38, Try.ntmps38
    go_wp2
    go_ret
    exact ⟨rfl, (((Below.refl _ _).alloc (Nat.le_refl _) _).alloc (by simp) _).alloc (by simp; omega) _⟩
  · rw [e]
    rw [hg] at k
    clear e hg
    go_enter Try.func38, Try.ntmps38
    go_wp2
    go_ret
    exact ⟨rfl, (((Below.refl _ _).alloc (Nat.le_refl _) _).alloc (by simp) _).alloc (by simp; omega) _⟩
  · rw [e]
    rw [hg] at k
    have k1 : ¬ 0 < (xb - xa) * (py - ya) - (yb - ya) * (px - xa) := by omega
    have k2 : ¬ (xb - xa) * (py - ya) - (yb - ya) * (px - xa) < 0 := by omega
    clear e hg k
    go_enter Try.func38, Try.ntmps38
    go_wp2
    go_ret
    exact ⟨rfl, (((Below.refl _ _).alloc (Nat.le_refl _) _).alloc (by simp) _).alloc (by simp; omega) _⟩

set_option maxHeartbeats 400000 in
theorem pick_any (c n : Int) (w : World) (h1 : -9223372036854775808 ≤ c) (h2 : c ≤ 9223372036854775807) (h3 : 0 < n) (h4 : n ≤ 4096) :
    Calls Try.prog 18 #[.int .i64 c, .int .i64 n] w fun e w' => e = .returned (.int .i64 (pk c n)) ∧ w' = w := by
  by_cases h : c < 0
  · have e : pk c n = (-(c + 1)) % n := by unfold pk; rw [if_pos h]
    rw [e]
    clear e
    go_enter Try.func18, Try.ntmps18
    go_wp2
    go_ret
    exact ⟨ret_int (by rw [← Int.neg_tmod, Int.tmod_eq_emod_of_nonneg (by omega)]), rfl⟩
  · have e : pk c n = c % n := by unfold pk; rw [if_neg h]
    rw [e]
    clear e
    go_enter Try.func18, Try.ntmps18
    go_wp2
    go_ret
    exact ⟨rfl, rfl⟩

/-- a coordinate that may be, out of any number -/
def plc (v : Int) : Int := pk v 4096 - 2048

theorem plc_small (v : Int) : small (plc v) := by
  have := pk_bd (c := v) (n := 4096) (by omega)
  unfold plc small
  omega

theorem plc_wrap (v : Int) : IntKind.i64.wrap (IntKind.i64.wrap (pk v 4096 - 2047) - 1) = plc v := by
  have := pk_bd (c := v) (n := 4096) (by omega)
  rw [IntKind.wrap_i64, IntKind.wrap_i64]
  unfold plc
  omega

set_option maxHeartbeats 400000 in
theorem place_any (x y : Int) (w : World) (h1 : -9223372036854775808 ≤ x) (h2 : x ≤ 9223372036854775807) (h3 : -9223372036854775808 ≤ y) (h4 : y ≤ 9223372036854775807) :
    Calls Try.prog 17 #[.agg #[.int .i64 x, .int .i64 y]] w fun e w' => e = .returned (.agg #[.int .i64 (plc x), .int .i64 (plc y)]) ∧ Below w.heap.size w w' := by
  have p1 := (pk_bd (c := x) (n := 4096) (by omega)).1
  have p2 := (pk_bd (c := x) (n := 4096) (by omega)).2
  have p3 := (pk_bd (c := y) (n := 4096) (by omega)).1
  have p4 := (pk_bd (c := y) (n := 4096) (by omega)).2
  go_enter Try.func17, Try.ntmps17
  go_wp2
  go_region_with (go_at_call 18; refine (pick_any _ _ _ (by assumption) (by assumption) (by omega) (by omega)).mono ?_; rintro e w1 ⟨rfl, rfl⟩)
  all_goals
    go_wp2
    exact bodyPost_ret (v := .agg #[.int .i64 (plc x), .int .i64 (plc y)]) (by simp [results, Try.results17, go_sem, plc_wrap]) rfl ⟨rfl, (((Below.refl _ _).alloc (Nat.le_refl _) _).alloc (by simp) _).drew⟩

end Go.Proofs.Ytbedkfgdhaajaaa
