/- Walks: Cover of the program (P3). -/
import Derived.Test.YtoafhdbgjpkgfaaSides
namespace Go.Proofs.Ytoafhdbgjpkgfaa
open Go.RowKit

set_option maxHeartbeats 400000 in
theorem reach_any (x y : Int) (w : World) :
    Calls Try.prog 53 #[.agg #[.int .i64 x, .int .i64 y]] w fun e w' => e = .returned (.bool (near x y)) ∧ Below w.heap.size w w' := by
  by_cases h1 : x < -2048
  · have e : near x y = false := decide_eq_false (by omega)
    rw [e]; clear e
    go_enter Try.func53, Try.ntmps53
    go_wp2
    go_ret
    exact ⟨rfl, (Below.refl _ _).alloc (Nat.le_refl _) _⟩
  · by_cases h2 : 2047 < x
    · have e : near x y = false := decide_eq_false (by omega)
      rw [e]; clear e
      go_enter Try.func53, Try.ntmps53
      go_wp2
      go_ret
      exact ⟨rfl, (Below.refl _ _).alloc (Nat.le_refl _) _⟩
    · by_cases h3 : -2048 ≤ y
      · have e : near x y = decide (y ≤ 2047) := decide_eq_decide.mpr (by omega)
        rw [e]; clear e
        go_enter Try.func53, Try.ntmps53
        go_wp2
        go_ret
        exact ⟨rfl, (Below.refl _ _).alloc (Nat.le_refl _) _⟩
      · have e : near x y = false := decide_eq_false (by omega)
        rw [e]; clear e
        go_enter Try.func53, Try.ntmps53
        go_wp2
        go_ret
        exact ⟨rfl, (Below.refl _ _).alloc (Nat.le_refl _) _⟩

set_option maxHeartbeats 400000 in
theorem centre_any (x y : Int) (w : World) (h1 : 0 ≤ x) (h2 : x < 24) (h3 : 0 ≤ y) (h4 : y < 24) :
    Calls Try.prog 54 #[.int .i64 x, .int .i64 y] w fun e w' => e = .returned (.agg #[.int .i64 (16 * x + 8), .int .i64 (16 * y + 8)]) ∧ Below w.heap.size w w' := by
  go_enter Try.func54, Try.ntmps54
  go_wp2
  exact bodyPost_ret (v := .agg #[.int .i64 (16 * x + 8), .int .i64 (16 * y + 8)]) (by simp [results, Try.results54, go_sem]) rfl ⟨rfl, (Below.refl _ _).alloc (Nat.le_refl _) _⟩

/-- a pixel that may be -/
def pix (x y : Int) : Bool := decide (0 ≤ x ∧ x < 24 ∧ 0 ≤ y ∧ y < 24)

/-- P3 -/
def cvr (xa ya xb yb xc yc x y : Int) : Bool × Int :=
  if (near xa ya && near xb yb && near xc yc && pix x y) = true then (cov xa ya xb yb xc yc x y, 0) else (false, 13)

theorem cvr_no {xa ya xb yb xc yc x y : Int} (h : (near xa ya && near xb yb && near xc yc && pix x y) = false) : cvr xa ya xb yb xc yc x y = (false, 13) := by
  unfold cvr; rw [h]; rfl

theorem cvr_yes {xa ya xb yb xc yc x y : Int} (h1 : near xa ya = true) (h2 : near xb yb = true) (h3 : near xc yc = true) (h4 : pix x y = true) : cvr xa ya xb yb xc yc x y = (cov xa ya xb yb xc yc x y, 0) := by
  unfold cvr; rw [h1, h2, h3, h4]; rfl

theorem tupBI {a c : Bool} {b d : Int} (h : a = c) (k : b = d) : Ending.returned (.tuple #[.bool a, .int .i64 b]) = .returned (.tuple #[.bool c, .int .i64 d]) := by rw [h, k]

/-- what the round of 'Cover' finds -/
def CovW (w wr : World) (xa ya xb yb xc yc : Int) : Prop :=
  Below w.heap.size w wr ∧ w.heap.size + 2 ≤ wr.heap.size ∧ wr.cell? ⟨w.heap.size + 1, 0, none⟩ = some (.int .i64 xa) ∧ wr.cell? ⟨w.heap.size + 1, 1, none⟩ = some (.int .i64 ya) ∧ wr.cell? ⟨w.heap.size + 1, 2, none⟩ = some (.int .i64 xb) ∧ wr.cell? ⟨w.heap.size + 1, 3, none⟩ = some (.int .i64 yb) ∧
  wr.cell? ⟨w.heap.size + 1, 4, none⟩ = some (.int .i64 xc) ∧ wr.cell? ⟨w.heap.size + 1, 5, none⟩ = some (.int .i64 yc)

theorem covW_start {w : World} {t u : TypeId} {c : Array Value} {xa ya xb yb xc yc : Int} :
    CovW w ((w.alloc (.cells c t)).alloc (.cells #[.int .i64 xa, .int .i64 ya, .int .i64 xb, .int .i64 yb, .int .i64 xc, .int .i64 yc] u)) xa ya xb yb xc yc := by
  refine ⟨((Below.refl _ _).alloc (Nat.le_refl _) _).alloc (by simp) _, by simp, ?_, ?_, ?_, ?_, ?_, ?_⟩
  all_goals simp [go_sem]

theorem covW_next {w wr w2 : World} {o : Obj} {xa ya xb yb xc yc : Int} (h : CovW w wr xa ya xb yb xc yc)
    (hb : Below (wr.alloc o).heap.size (wr.alloc o) w2) : CovW w w2 xa ya xb yb xc yc := by
  obtain ⟨hbw, hsz, c0, c1, c2, c3, c4, c5⟩ := h
  have hs := hb.size
  simp at hs
  refine ⟨(hbw.alloc (by omega) _).trans (hb.mono (by simp; omega)), by omega, ?_, ?_, ?_, ?_, ?_, ?_⟩
  all_goals
    rw [hb.cell (by simp; omega)]
    rw [World.cell?_alloc_past _ _ _ (by omega)]
    assumption

set_option maxHeartbeats 1000000 in
theorem cover_in (xa ya xb yb xc yc x y : Int) (w : World) :
    Calls Try.prog 35 #[.agg #[.int .i64 xa, .int .i64 ya, .int .i64 xb, .int .i64 yb, .int .i64 xc, .int .i64 yc], .int .i64 x, .int .i64 y] w fun e w' => e = .returned (.tuple #[.bool (cvr xa ya xb yb xc yc x y).1, .int .i64 (cvr xa ya xb yb xc yc x y).2]) ∧ Below w.heap.size w w' := by
  have i0 : ∀ w, (Instr.index 100 (.agg #[.int .i64 xa, .int .i64 ya, .int .i64 xb, .int .i64 yb, .int .i64 xc, .int .i64 yc]) (.int .i64 0)).run Try.prog w = .ok (.agg #[.int .i64 xa, .int .i64 ya]) w := fun _ => by kernel_rfl
  have i1 : ∀ w, (Instr.index 100 (.agg #[.int .i64 xa, .int .i64 ya, .int .i64 xb, .int .i64 yb, .int .i64 xc, .int .i64 yc]) (.int .i64 1)).run Try.prog w = .ok (.agg #[.int .i64 xb, .int .i64 yb]) w := fun _ => by kernel_rfl
  have i2 : ∀ w, (Instr.index 100 (.agg #[.int .i64 xa, .int .i64 ya, .int .i64 xb, .int .i64 yb, .int .i64 xc, .int .i64 yc]) (.int .i64 2)).run Try.prog w = .ok (.agg #[.int .i64 xc, .int .i64 yc]) w := fun _ => by kernel_rfl
  go_enter Try.func35, Try.ntmps35
  go_wp2
  go_loopw [20, 10] (fun i _ wr => (i = .int .i64 0 ∨ (i = .int .i64 1 ∧ near xa ya = true) ∨ (i = .int .i64 2 ∧ near xa ya = true ∧ near xb yb = true) ∨ (i = .int .i64 3 ∧ near xa ya = true ∧ near xb yb = true ∧ near xc yc = true)) ∧ CovW w wr xa ya xb yb xc yc) (fun i _ _ => 3 - (intOf i).toNat)
  case atStart => exact ⟨.inl rfl, covW_start⟩
  case round =>
    obtain ⟨hk, hW⟩ := hrel
    have HW : Hid (CovW w wr xa ya xb yb xc yc) := hW
    obtain ⟨hbw, hsz, c0, c1, c2, c3, c4, c5⟩ := hW
    have HB : Hid (Below w.heap.size w wr) := hbw
    clear hbw
    rcases hk with rfl | ⟨rfl, k0⟩ | ⟨rfl, k0, k1⟩ | ⟨rfl, k0, k1, k2⟩
    · cases ha : near xa ya
      · go_wp2_with (go_at_call 53; refine (reach_any _ _ _).mono ?_; rintro e w2 ⟨rfl, hb2⟩)
        go_ret2
        refine ⟨tupBI (by rw [cvr_no (by simp [ha])]) (by rw [cvr_no (by simp [ha])]), ?_⟩
        exact (HB.out.alloc (by omega) _).trans (hb2.mono (by simp; omega))
      · go_wp2_with (go_at_call 53; refine (reach_any _ _ _).mono ?_; rintro e w2 ⟨rfl, hb2⟩)
        go_roundw
        case rel => exact ⟨.inr (.inl ⟨by go_num, trivial⟩), covW_next HW.out hb2⟩
        case measure => simp [intOf]
    · have K0 : Hid (near xa ya = true) := k0
      clear k0
      cases ha : near xb yb
      · go_wp2_with (go_at_call 53; refine (reach_any _ _ _).mono ?_; rintro e w2 ⟨rfl, hb2⟩)
        go_ret2
        refine ⟨tupBI (by rw [cvr_no (by simp [ha])]) (by rw [cvr_no (by simp [ha])]), ?_⟩
        exact (HB.out.alloc (by omega) _).trans (hb2.mono (by simp; omega))
      · go_wp2_with (go_at_call 53; refine (reach_any _ _ _).mono ?_; rintro e w2 ⟨rfl, hb2⟩)
        go_roundw
        case rel => exact ⟨.inr (.inr (.inl ⟨by go_num, K0.out, trivial⟩)), covW_next HW.out hb2⟩
        case measure => simp [intOf]
    · have K0 : Hid (near xa ya = true) := k0
      clear k0
      have K1 : Hid (near xb yb = true) := k1
      clear k1
      cases ha : near xc yc
      · go_wp2_with (go_at_call 53; refine (reach_any _ _ _).mono ?_; rintro e w2 ⟨rfl, hb2⟩)
        go_ret2
        refine ⟨tupBI (by rw [cvr_no (by simp [ha])]) (by rw [cvr_no (by simp [ha])]), ?_⟩
        exact (HB.out.alloc (by omega) _).trans (hb2.mono (by simp; omega))
      · go_wp2_with (go_at_call 53; refine (reach_any _ _ _).mono ?_; rintro e w2 ⟨rfl, hb2⟩)
        go_roundw
        case rel => exact ⟨.inr (.inr (.inr ⟨by go_num, K0.out, K1.out, trivial⟩)), covW_next HW.out hb2⟩
        case measure => simp [intOf]
    · clear i0 i1 i2
      have K0 : Hid (near xa ya = true) := k0
      have K1 : Hid (near xb yb = true) := k1
      have K2 : Hid (near xc yc = true) := k2
      clear k0 k1 k2
      by_cases h1 : x < 0
      · have hp : pix x y = false := decide_eq_false (by omega)
        go_wp2
        go_ret2
        exact ⟨tupBI (by rw [cvr_no (by simp [hp])]) (by rw [cvr_no (by simp [hp])]), HB.out⟩
      · by_cases h2 : 24 ≤ x
        · have hp : pix x y = false := decide_eq_false (by omega)
          go_wp2
          go_ret2
          exact ⟨tupBI (by rw [cvr_no (by simp [hp])]) (by rw [cvr_no (by simp [hp])]), HB.out⟩
        · by_cases h3 : y < 0
          · have hp : pix x y = false := decide_eq_false (by omega)
            go_wp2
            go_ret2
            exact ⟨tupBI (by rw [cvr_no (by simp [hp])]) (by rw [cvr_no (by simp [hp])]), HB.out⟩
          · by_cases h4 : 24 ≤ y
            · have hp : pix x y = false := decide_eq_false (by omega)
              go_wp2
              go_ret2
              exact ⟨tupBI (by rw [cvr_no (by simp [hp])]) (by rw [cvr_no (by simp [hp])]), HB.out⟩
            · have HP : Hid (pix x y = true) := decide_eq_true (by omega)
              obtain ⟨s1, s2⟩ := near_small K0.out
              obtain ⟨s3, s4⟩ := near_small K1.out
              obtain ⟨s5, s6⟩ := near_small K2.out
              have s7 : small (16 * x + 8) := ⟨by omega, by omega⟩
              have s8 : small (16 * y + 8) := ⟨by omega, by omega⟩
              have hsz0 : w.heap.size < wr.heap.size := by omega
              have hsz1 : w.heap.size + 1 < wr.heap.size := by omega
              go_wp2_with (first | (go_at_call 54; refine (centre_any _ _ _ (by omega) (by omega) (by omega) (by omega)).mono ?_; rintro e w2 ⟨rfl, hb2⟩; obtain ⟨hc2, hf2⟩ := bcell hb2; have hz2 : w.heap.size + 1 < w2.heap.size := (by have := hb2.size; omega)) | (go_at_call 55; refine (holds_any _ _ _ _ _ _ _ _ _ s1 s2 s3 s4 s5 s6 s7 s8).mono ?_; rintro e w3 ⟨rfl, hb3⟩))
              go_ret2
              refine ⟨tupBI (by rw [cvr_yes K0.out K1.out K2.out HP.out]; exact hol_eq s1 s2 s3 s4 s5 s6) (by rw [cvr_yes K0.out K1.out K2.out HP.out]), ?_⟩
              have hs2 := hb2.size
              exact ((HB.out.trans (hb2.mono (by omega))).alloc (by omega) _).trans (hb3.mono (by simp; omega))

set_option maxHeartbeats 400000 in
theorem cover_any (xa ya xb yb xc yc x y : Int) (w : World) :
    Calls Try.prog 15 #[.agg #[.int .i64 xa, .int .i64 ya, .int .i64 xb, .int .i64 yb, .int .i64 xc, .int .i64 yc], .int .i64 x, .int .i64 y] w fun e w' => e = .returned (.tuple #[.bool (cvr xa ya xb yb xc yc x y).1, .int .i64 (cvr xa ya xb yb xc yc x y).2]) ∧ Below w.heap.size w w' := by
  go_enter Try.func15, Try.ntmps15
  go_wp2_with (go_at_call 35; refine (cover_in _ _ _ _ _ _ _ _ _).mono ?_; rintro e w1 ⟨rfl, hb1⟩)
  go_ret2
  exact ⟨rfl, ((Below.refl _ _).alloc (Nat.le_refl _) _).trans (hb1.mono (by simp))⟩

end Go.Proofs.Ytoafhdbgjpkgfaa
