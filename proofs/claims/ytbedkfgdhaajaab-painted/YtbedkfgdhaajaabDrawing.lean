/- Walks: what a Draw asks for, and its error (P13). -/
import Derived.Test.YtbedkfgdhaajaabCommand
import Derived.Test.YtbedkfgdhaajaabCovering
import Derived.Test.YtbedkfgdhaajaabBytes
import Derived.BigQuiet
namespace Go.Proofs.Ytbedkfgdhaajaab
open Go.RowKit

/-- what a Draw asks for, as a struct's cells -/
def dAgg (l : List UInt8) : Value := .agg #[.int .i64 (bn l 1), .int .i64 (bn l 2), .int .i64 (bn l 3), .int .i64 (bn l 4), .int .i64 (crn l 5), .int .i64 (crn l 7), .int .i64 (crn l 9), .int .i64 (crn l 11), .int .i64 (crn l 13), .int .i64 (crn l 15)]

/-- what lies where, once the three corners are read -/
theorem corners_at {w w2 w3 w4 : World} {t u : TypeId} {z : Value} {a b c d : Int} (hz : z = .int .i64 0)
    (hb2 : Below (w.alloc (.cells #[z, z, z, z, z, z, z, z, z, z] t)).heap.size (w.alloc (.cells #[z, z, z, z, z, z, z, z, z, z] t)) w2)
    (hb3 : Below (w2.alloc (.cells #[.int .i64 a, .int .i64 b] u)).heap.size (w2.alloc (.cells #[.int .i64 a, .int .i64 b] u)) w3)
    (hb4 : Below (w3.alloc (.cells #[.int .i64 c, .int .i64 d] u)).heap.size (w3.alloc (.cells #[.int .i64 c, .int .i64 d] u)) w4) :
    (w.heap.size < w4.heap.size ∧ w2.heap.size < w4.heap.size ∧ w3.heap.size < w4.heap.size) ∧ Below w.heap.size w w4 ∧
    (w4.cell? ⟨w2.heap.size, 0, none⟩ = some (.int .i64 a) ∧ w4.cell? ⟨w2.heap.size, 1, none⟩ = some (.int .i64 b) ∧ w4.cell? ⟨w3.heap.size, 0, none⟩ = some (.int .i64 c) ∧ w4.cell? ⟨w3.heap.size, 1, none⟩ = some (.int .i64 d)) ∧
    (∀ o, o < 10 → w4.cell? ⟨w.heap.size, o, none⟩ = some (.int .i64 0)) ∧ (∀ o, w4.frozen? ⟨w.heap.size, o, none⟩ = false) := by
  have s2 := hb2.size
  have s3 := hb3.size
  have s4 := hb4.size
  simp only [World.size_alloc] at s2 s3 s4
  refine ⟨⟨by omega, by omega, by omega⟩, ?_, ⟨?_, ?_, ?_, ?_⟩, fun o ho => ?_, fun o => ?_⟩
  · exact (((((Below.refl _ _).alloc (Nat.le_refl _) _).trans (hb2.mono (by simp))).alloc (by omega) _).trans (hb3.mono (by simp; omega)) |>.alloc (by omega) _).trans (hb4.mono (by simp; omega))
  · rw [hb4.cell (by simp; omega), World.cell?_alloc_past _ _ _ (by first | omega | (simp; omega) | (simp only [World.size_alloc]; omega)), hb3.cell (by simp)]; simp [go_sem]
  · rw [hb4.cell (by simp; omega), World.cell?_alloc_past _ _ _ (by first | omega | (simp; omega) | (simp only [World.size_alloc]; omega)), hb3.cell (by simp)]; simp [go_sem]
  · rw [hb4.cell (by simp)]; simp [go_sem]
  · rw [hb4.cell (by simp)]; simp [go_sem]
  · rw [hb4.cell (by simp; omega), World.cell?_alloc_past _ _ _ (by first | omega | (simp; omega) | (simp only [World.size_alloc]; omega)), hb3.cell (by simp; omega), World.cell?_alloc_past _ _ _ (by first | omega | (simp; omega) | (simp only [World.size_alloc]; omega)), hb2.cell (by simp), hz]
    rcases (by omega : o = 0 ∨ o = 1 ∨ o = 2 ∨ o = 3 ∨ o = 4 ∨ o = 5 ∨ o = 6 ∨ o = 7 ∨ o = 8 ∨ o = 9) with rfl | rfl | rfl | rfl | rfl | rfl | rfl | rfl | rfl | rfl <;> simp [go_sem]
  · rw [hb4.frozen (by simp; omega), World.frozen?_alloc_past _ _ _ (by first | omega | (simp; omega) | (simp only [World.size_alloc]; omega)), hb3.frozen (by simp; omega), World.frozen?_alloc_past _ _ _ (by first | omega | (simp; omega) | (simp only [World.size_alloc]; omega)), hb2.frozen (by simp)]
    simp [go_sem]

set_option maxHeartbeats 1000000 in
theorem drawingOf_any (ao : Option Addr) (cap : Nat) (l : List UInt8) (w : World) (hB : BS w ao cap l) :
    Calls Try.prog 70 #[.slice ao l.length cap] w fun e w' => e = .returned (dAgg l) ∧ Below w.heap.size w w' := by
  have HB : Hid (BS w ao cap l) := hB
  unfold dAgg
  clear hB
  go_enter Try.func70, Try.ntmps70
  go_wp2_with (first
    | (go_at_call 52; refine (field_at _ _ _ _ _ (HB.out.alloc _) 1 (by omega)).mono ?_; rintro e w2 ⟨rfl, rfl⟩)
    | (go_at_call 52; refine (field_at _ _ _ _ _ (HB.out.alloc _) 2 (by omega)).mono ?_; rintro e w2 ⟨rfl, rfl⟩)
    | (go_at_call 52; refine (field_at _ _ _ _ _ (HB.out.alloc _) 3 (by omega)).mono ?_; rintro e w2 ⟨rfl, rfl⟩)
    | (go_at_call 52; refine (field_at _ _ _ _ _ (HB.out.alloc _) 4 (by omega)).mono ?_; rintro e w2 ⟨rfl, rfl⟩)
    | (go_at_call 90; refine (corner_any _ _ _ _ _ (HB.out.alloc _) 5 (by omega) (by omega)).mono ?_; rintro e w2 ⟨rfl, hb2⟩; have HB2 : Hid (BS w2 ao cap l) := (HB.out.alloc _).below hb2)
    | (go_at_call 90; refine (corner_any _ _ _ _ _ (HB2.out.alloc _) 9 (by omega) (by omega)).mono ?_; rintro e w3 ⟨rfl, hb3⟩; have HB3 : Hid (BS w3 ao cap l) := (HB2.out.alloc _).below hb3)
    | (go_at_call 90; refine (corner_any _ _ _ _ _ (HB3.out.alloc _) 13 (by omega) (by omega)).mono ?_; rintro e w4 ⟨rfl, hb4⟩; obtain ⟨⟨z2, z3, z4⟩, hB4, ⟨q0, q1, q2, q3⟩, q4, q5⟩ := corners_at rfl hb2 hb3 hb4; have H4 : Hid (Below w.heap.size w w4) := hB4; clear hb2 hb3 hb4 hB4))
  refine bodyPost_ret (v := .agg #[.int .i64 (bn l 1), .int .i64 (bn l 2), .int .i64 (bn l 3), .int .i64 (bn l 4), .int .i64 (crn l 5), .int .i64 (crn l 7), .int .i64 (crn l 9), .int .i64 (crn l 11), .int .i64 (crn l 13), .int .i64 (crn l 15)]) (by simp [results, Try.results70, go_sem, q4, z2, Nat.lt_succ_of_lt z2]) rfl ⟨rfl, ?_⟩
  exact ((((((((((((H4.out.setCell (Nat.le_refl _) _).setCell (Nat.le_refl _) _).setCell (Nat.le_refl _) _).setCell (Nat.le_refl _) _).setCell (Nat.le_refl _) _).setCell (Nat.le_refl _) _).setCell (Nat.le_refl _) _).setCell (Nat.le_refl _) _).setCell (Nat.le_refl _) _).setCell (Nat.le_refl _) _).alloc (by simp only [sz_setCell]; omega) _).alloc (by simp only [World.size_alloc, sz_setCell]; omega) _)

/-- a program of a context; none, if there is none of this number -/
def hsC (R : Rm) (n : Nat) : Bool := decide (n < 4) && R.has n
def cdC (R : Rm) (n : Nat) : List UInt8 := if n < 4 then R.cd n else []

set_option maxHeartbeats 400000 in
theorem programOf_any (F M : Nat → Prop) (p : Nat) (g : Gst) (ht : Nat → Int) (d : Int) (n : Nat) (w : World) (hC : Cx w F M p (mk g ht d)) :
    Calls Try.prog 71 #[.pointer (some ⟨p, 0, none⟩), .int .i64 n] w fun e w' => e = .returned (.agg #[.bool (hsC g.rm n), .string (str (cdC g.rm n))]) ∧ Below w.heap.size w w' := by
  obtain ⟨ad, cp, hA, _⟩ := hC
  have hlt := hA.lt
  by_cases h : n < 4
  · have q0 := hA.hs n h
    have q1 := hA.cd n h
    have e1 : hsC g.rm n = g.rm.has n := by unfold hsC; rw [decide_eq_true h, Bool.true_and]
    have e2 : cdC g.rm n = g.rm.cd n := if_pos h
    simp only [show (mk g ht d).has n = g.rm.has n from rfl, show (mk g ht d).cd n = g.rm.cd n from rfl] at q0 q1
    rw [e1, e2]
    have n0 : (0 : Int) ≤ n := by omega
    have n4 : (n : Int) < 4 := by omega
    clear hA e1 e2
    go_enter Try.func71, Try.ntmps71
    go_wp2
    exact bodyPost_ret (v := .agg #[.bool (g.rm.has n), .string (str (g.rm.cd n))]) (by simp [results, Try.results71, go_sem]) rfl ⟨rfl, (Below.refl _ _).alloc (Nat.le_refl _) _⟩
  · have e1 : hsC g.rm n = false := by unfold hsC; rw [decide_eq_false h, Bool.false_and]
    have e2 : cdC g.rm n = [] := if_neg h
    rw [e1, e2]
    have n4 : (4 : Int) ≤ n := by omega
    clear hA e1 e2
    go_enter Try.func71, Try.ntmps71
    go_wp2
    exact bodyPost_ret (v := .agg #[.bool false, .string (str [])]) (by simp [results, Try.results71, go_sem]; rfl) rfl ⟨rfl, (Below.refl _ _).alloc (Nat.le_refl _) _⟩

theorem hsC_yes {R : Rm} {n : Nat} (h : hsC R n = true) : ¬ (4 ≤ n ∨ R.has n = false) := by
  unfold hsC at h
  rw [Bool.and_eq_true] at h
  have h1 := of_decide_eq_true h.1
  intro q
  rcases q with q | q
  · omega
  · rw [h.2] at q; simp at q

theorem Cx.alloc {W : World} {F M : Nat → Prop} {p : Nat} {C : Ctx} (h : Cx W F M p C) (o : Obj) : Cx (W.alloc o) F M p C := h.below ((Below.refl _ _).alloc (Nat.le_refl _) o)
theorem Cx.drewN {W : World} {F M : Nat → Prop} {p : Nat} {C : Ctx} (h : Cx W F M p C) (n : Nat) : Cx (W.drewN n) F M p C := by obtain ⟨ad, cp, h, hM⟩ := h; exact ⟨ad, cp, h.drewN n, hM⟩

/-- the cells of what a Draw asks for stay -/
theorem draw_cells {w1 w3 : World} {t : TypeId} {n : Nat} {a0 a1 a2 a3 a4 a5 a6 a7 a8 a9 : Value} (hb : Below ((w1.alloc (.cells #[a0, a1, a2, a3, a4, a5, a6, a7, a8, a9] t)).drewN n).heap.size ((w1.alloc (.cells #[a0, a1, a2, a3, a4, a5, a6, a7, a8, a9] t)).drewN n) w3) :
    w1.heap.size < w3.heap.size ∧ w3.cell? ⟨w1.heap.size, 0, none⟩ = some a0 ∧ w3.cell? ⟨w1.heap.size, 1, none⟩ = some a1 ∧ w3.cell? ⟨w1.heap.size, 2, none⟩ = some a2 ∧ w3.cell? ⟨w1.heap.size, 3, none⟩ = some a3 ∧ w3.cell? ⟨w1.heap.size, 4, none⟩ = some a4 ∧
    w3.cell? ⟨w1.heap.size, 5, none⟩ = some a5 ∧ w3.cell? ⟨w1.heap.size, 6, none⟩ = some a6 ∧ w3.cell? ⟨w1.heap.size, 7, none⟩ = some a7 ∧ w3.cell? ⟨w1.heap.size, 8, none⟩ = some a8 ∧ w3.cell? ⟨w1.heap.size, 9, none⟩ = some a9 := by
  have hs := hb.size
  simp at hs
  refine ⟨by omega, ?_, ?_, ?_, ?_, ?_, ?_, ?_, ?_, ?_, ?_⟩
  all_goals
    rw [hb.cell (by simp)]
    simp [go_sem]

set_option maxHeartbeats 1000000 in
theorem fdraw_any (F M : Nat → Prop) (p : Nat) (g : Gst) (ht : Nat → Int) (d : Int) (ao : Option Addr) (cap : Nat) (m : List UInt8) (w : World) (hC : Cx w F M p (mk g ht d)) (hB : BS w ao cap m) :
    Calls Try.prog 68 #[.pointer (some ⟨p, 0, none⟩), .slice ao m.length cap] w fun e w' => e = .returned (.int .i64 (der g.rm m)) ∧ Below w.heap.size w w' := by
  have HC : Hid (Cx w F M p (mk g ht d)) := hC
  have HB : Hid (BS w ao cap m) := hB
  have hlt := hC.lt
  clear hC hB
  cases h1 : thr g.rm (bn m 1)
  · have e : der g.rm m = 2 := by unfold der; rw [h1]; rfl
    rw [e]
    clear e
    go_enter Try.func68, Try.ntmps68
    go_wp2_with (go_at_call 70; refine (drawingOf_any _ _ _ _ HB.out).mono ?_; unfold dAgg; rintro e w1 ⟨rfl, hb1⟩; have HC1 : Hid (Cx w1 F M p (mk g ht d)) := HC.out.below hb1; have hlt1 := HC1.out.lt; have BB : Hid (Below w.heap.size w w1) := hb1; clear hb1)
    go_quiet (first | (go_at_call 69; exact Calls.quiet_of_same (has_g F M p g ht d _ ((HC1.out.alloc _).drewN _) _)))
    go_wp2
    go_ret
    exact ⟨rfl, below_drewN (BB.out.alloc BB.out.size _) _⟩
  · cases h2 : hsC g.rm (bn m 2)
    · have e : der g.rm m = 6 := by
        unfold der; rw [h1, if_neg (by simp), if_pos]
        unfold hsC at h2
        by_cases q : bn m 2 < 4
        · rw [decide_eq_true q, Bool.true_and] at h2; exact .inr h2
        · exact .inl (by omega)
      rw [e]
      clear e
      go_enter Try.func68, Try.ntmps68
      go_wp2_with (go_at_call 70; refine (drawingOf_any _ _ _ _ HB.out).mono ?_; unfold dAgg; rintro e w1 ⟨rfl, hb1⟩; have HC1 : Hid (Cx w1 F M p (mk g ht d)) := HC.out.below hb1; have hlt1 := HC1.out.lt; have BB : Hid (Below w.heap.size w w1) := hb1; clear hb1)
      go_quiet (first | (go_at_call 69; exact Calls.quiet_of_same (has_g F M p g ht d _ ((HC1.out.alloc _).drewN _) _)))
      go_wp2_with (go_at_call 71; refine (programOf_any F M p g ht d _ _ ((HC1.out.alloc _).drewN _)).mono ?_; rintro e w3 ⟨rfl, hb3⟩; have BB3 : Hid (Below w.heap.size w w3) := (below_drewN (BB.out.alloc BB.out.size _) _).trans (hb3.mono (by have := BB.out.size; simp; omega)); clear hb3)
      go_ret
      exact ⟨rfl, BB3.out.alloc BB3.out.size _⟩
    · have HP : Hid (¬ (4 ≤ bn m 2 ∨ g.rm.has (bn m 2) = false)) := hsC_yes h2
      cases h3 : thr g.rm (bn m 3)
      · have e : der g.rm m = 2 := by unfold der; rw [h1, if_neg (by simp), if_neg HP.out, h3]; rfl
        rw [e]
        clear e
        go_enter Try.func68, Try.ntmps68
        go_wp2_with (go_at_call 70; refine (drawingOf_any _ _ _ _ HB.out).mono ?_; unfold dAgg; rintro e w1 ⟨rfl, hb1⟩; have HC1 : Hid (Cx w1 F M p (mk g ht d)) := HC.out.below hb1; have hlt1 := HC1.out.lt; have BB : Hid (Below w.heap.size w w1) := hb1; clear hb1)
        go_quiet (first | (go_at_call 69; exact Calls.quiet_of_same (has_g F M p g ht d _ ((HC1.out.alloc _).drewN _) _)))
        go_wp2_with (go_at_call 71; refine (programOf_any F M p g ht d _ _ ((HC1.out.alloc _).drewN _)).mono ?_; rintro e w3 ⟨rfl, hb3⟩; have HC3 : Hid (Cx w3 F M p (mk g ht d)) := ((HC1.out.alloc _).drewN _).below hb3; have hlt3 := HC3.out.lt; obtain ⟨z3, k0, k1, k2, k3, k4, k5, k6, k7, k8, k9⟩ := draw_cells hb3; have BB3 : Hid (Below w.heap.size w w3) := (below_drewN (BB.out.alloc BB.out.size _) _).trans (hb3.mono (by have := BB.out.size; simp; omega)); clear hb3)
        go_quiet (first | (go_at_call 69; exact Calls.quiet_of_same (has_g F M p g ht d _ ((HC3.out.alloc _).drewN _) _)))
        go_wp2
        go_ret
        exact ⟨rfl, below_drewN (BB3.out.alloc BB3.out.size _) _⟩
      · have e : der g.rm m = if nea (crn m 5) (crn m 7) (crn m 9) (crn m 11) (crn m 13) (crn m 15) = true then 0 else 8 := by
          unfold der; rw [h1, if_neg (by simp), if_neg HP.out, h3, if_neg (by simp)]
          unfold nea
          simp only [Bool.and_eq_true, and_assoc]
        rw [e]
        clear e
        cases h4 : nea (crn m 5) (crn m 7) (crn m 9) (crn m 11) (crn m 13) (crn m 15)
        · rw [if_neg (by simp)]
          go_enter Try.func68, Try.ntmps68
          go_wp2_with (go_at_call 70; refine (drawingOf_any _ _ _ _ HB.out).mono ?_; unfold dAgg; rintro e w1 ⟨rfl, hb1⟩; have HC1 : Hid (Cx w1 F M p (mk g ht d)) := HC.out.below hb1; have hlt1 := HC1.out.lt; have BB : Hid (Below w.heap.size w w1) := hb1; clear hb1)
          go_quiet (first | (go_at_call 69; exact Calls.quiet_of_same (has_g F M p g ht d _ ((HC1.out.alloc _).drewN _) _)))
          go_wp2_with (go_at_call 71; refine (programOf_any F M p g ht d _ _ ((HC1.out.alloc _).drewN _)).mono ?_; rintro e w3 ⟨rfl, hb3⟩; have HC3 : Hid (Cx w3 F M p (mk g ht d)) := ((HC1.out.alloc _).drewN _).below hb3; have hlt3 := HC3.out.lt; obtain ⟨z3, k0, k1, k2, k3, k4, k5, k6, k7, k8, k9⟩ := draw_cells hb3; have BB3 : Hid (Below w.heap.size w w3) := (below_drewN (BB.out.alloc BB.out.size _) _).trans (hb3.mono (by have := BB.out.size; simp; omega)); clear hb3)
          go_quiet (first | (go_at_call 69; exact Calls.quiet_of_same (has_g F M p g ht d _ ((HC3.out.alloc _).drewN _) _)))
          go_wp2_with (go_at_call 56; refine (reach_any _ _ _ _ _ _ _).mono ?_; rintro e w4 ⟨rfl, hb4⟩)
          go_ret
          exact ⟨rfl, (below_drewN (BB3.out.alloc BB3.out.size _) _).trans (hb4.mono (by have := BB3.out.size; simp; omega))⟩
        · rw [if_pos rfl]
          go_enter Try.func68, Try.ntmps68
          go_wp2_with (go_at_call 70; refine (drawingOf_any _ _ _ _ HB.out).mono ?_; unfold dAgg; rintro e w1 ⟨rfl, hb1⟩; have HC1 : Hid (Cx w1 F M p (mk g ht d)) := HC.out.below hb1; have hlt1 := HC1.out.lt; have BB : Hid (Below w.heap.size w w1) := hb1; clear hb1)
          go_quiet (first | (go_at_call 69; exact Calls.quiet_of_same (has_g F M p g ht d _ ((HC1.out.alloc _).drewN _) _)))
          go_wp2_with (go_at_call 71; refine (programOf_any F M p g ht d _ _ ((HC1.out.alloc _).drewN _)).mono ?_; rintro e w3 ⟨rfl, hb3⟩; have HC3 : Hid (Cx w3 F M p (mk g ht d)) := ((HC1.out.alloc _).drewN _).below hb3; have hlt3 := HC3.out.lt; obtain ⟨z3, k0, k1, k2, k3, k4, k5, k6, k7, k8, k9⟩ := draw_cells hb3; have BB3 : Hid (Below w.heap.size w w3) := (below_drewN (BB.out.alloc BB.out.size _) _).trans (hb3.mono (by have := BB.out.size; simp; omega)); clear hb3)
          go_quiet (first | (go_at_call 69; exact Calls.quiet_of_same (has_g F M p g ht d _ ((HC3.out.alloc _).drewN _) _)))
          go_wp2_with (go_at_call 56; refine (reach_any _ _ _ _ _ _ _).mono ?_; rintro e w4 ⟨rfl, hb4⟩)
          go_ret
          exact ⟨rfl, (below_drewN (BB3.out.alloc BB3.out.size _) _).trans (hb4.mono (by have := BB3.out.size; simp; omega))⟩

end Go.Proofs.Ytbedkfgdhaajaab
