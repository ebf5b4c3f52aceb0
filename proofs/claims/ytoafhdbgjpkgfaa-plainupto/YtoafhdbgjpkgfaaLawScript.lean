/- The list of pairs of package tenantslaw, in memory; its steps. -/
import Derived.Test.YtoafhdbgjpkgfaaLawList
import Derived.Test.YtoafhdbgjpkgfaaLawUnd
namespace Go.Proofs.Ytoafhdbgjpkgfaa
open Go.RowKit

/-- the cells of n pairs -/
def pcl (X H : Nat → Option Addr) : Nat → List Value
  | 0 => []
  | n + 1 => pcl X H n ++ [.pointer (X n), .pointer (H n)]
theorem pcl_length (X H : Nat → Option Addr) (n : Nat) : (pcl X H n).length = n * 2 := by
  induction n with
  | zero => rfl
  | succ n ih => simp only [pcl, List.length_append, ih]; simp; omega
theorem pcl_congr {X H X' H' : Nat → Option Addr} {n : Nat} (h : ∀ i, i < n → X i = X' i) (k : ∀ i, i < n → H i = H' i) : pcl X H n = pcl X' H' n := by
  induction n with
  | zero => rfl
  | succ n ih => simp only [pcl]; rw [ih (fun i hi => h i (by omega)) (fun i hi => k i (by omega)), h n (by omega), k n (by omega)]
theorem pcl_get (X H : Nat → Option Addr) (n i : Nat) (hi : i < n) : (pcl X H n)[i * 2]? = some (.pointer (X i)) ∧ (pcl X H n)[i * 2 + 1]? = some (.pointer (H i)) := by
  induction n with
  | zero => omega
  | succ n ih =>
    have hl := pcl_length X H n
    simp only [pcl]
    by_cases e : i = n
    · subst e
      rw [List.getElem?_append_right (by omega), List.getElem?_append_right (by omega), hl]
      simp
    · obtain ⟨a, b⟩ := ih (by omega)
      rw [List.getElem?_append_left (by omega), List.getElem?_append_left (by omega)]
      exact ⟨a, b⟩

structure LS (W wr : World) (ao : Option Addr) (cap n : Nat) (X H : Nat → Option Addr) (Gs : Nat → Nat → Prop) : Prop where
  vs : VS wr ao cap 2 n (pcl X H n)
  pr : ∀ i, i < n → Pr wr (Gs i) (X i) (H i)
  dis : ∀ i j b, i < n → j < n → i ≠ j → Gs i b → ¬ Gs j b
  own : ∀ i b, i < n → Gs i b → ¬ blk ao b
  abv : ∀ i b, i < n → Gs i b → W.heap.size ≤ b
  abo : ∀ b, blk ao b → W.heap.size ≤ b
  bel : Below W.heap.size W wr

section
variable {W w w' : World} {ao : Option Addr} {cap n : Nat} {X H : Nat → Option Addr} {Gs : Nat → Nat → Prop}
theorem LS.below (h : LS W w ao cap n X H Gs) (hb : Below w.heap.size w w') : LS W w' ao cap n X H Gs :=
  ⟨h.vs.below hb, fun i hi => (h.pr i hi).below hb, h.dis, h.own, h.abv, h.abo, h.bel.trans (hb.mono h.bel.size)⟩

/-- a pair more -/
theorem LS.push (h : LS W w ao cap n X H Gs) {O : Obj} {w7 : World} {ao' : Option Addr} {cap' : Nat} {G : Nat → Prop} {x y : Option Addr} (hP : Pr w G x y) (hd : ∀ i b, i < n → G b → ¬ Gs i b) (ho : ∀ b, G b → ¬ blk ao b) (ha : ∀ b, G b → W.heap.size ≤ b)
    (hv : VS w7 ao' cap' 2 (n + 1) (pcl X H n ++ [.pointer x, .pointer y])) (h7 : Only (blk ao) (w.alloc O) w7) (hb : ∀ b, blk ao' b → blk ao b ∨ (w.alloc O).heap.size ≤ b) :
    LS W w7 ao' cap' (n + 1) (updA X n x) (updA H n y) (updA Gs n G) := by
  have hz := h.bel.size
  have ho7 : Only (blk ao) w w7 := (Only.of_below ((Below.refl w.heap.size w).alloc (Nat.le_refl _) O)).trans h7 (fun b q => .inl q)
  have hb' : ∀ b, blk ao' b → blk ao b ∨ w.heap.size ≤ b := fun b q => (hb b q).imp id (fun r => by rw [World.size_alloc] at r; omega)
  have hin : ∀ i b, i < n → Gs i b → b < w.heap.size := fun i b hi q => (h.pr i hi).1 b q
  refine ⟨?_, fun i hi => ?_, fun i j b hi hj hij => ?_, fun i b hi => ?_, fun i b hi => ?_, fun b q => ?_, ?_⟩
  · have e : pcl (updA X n x) (updA H n y) (n + 1) = pcl X H n ++ [.pointer x, .pointer y] := by
      simp only [pcl]
      rw [updA_same, updA_same, pcl_congr (fun i hi => updA_other _ _ (by omega)) (fun i hi => updA_other _ _ (by omega))]
    rw [e]; exact hv
  · by_cases e : i = n
    · subst e; rw [updA_same, updA_same, updA_same]; exact hP.only ho7 ho
    · rw [updA_other _ _ e, updA_other _ _ e, updA_other _ _ e]; exact (h.pr i (by omega)).only ho7 (fun b q => h.own i b (by omega) q)
  · by_cases ei : i = n
    · subst ei
      rw [updA_same, updA_other _ _ (fun q => hij q.symm)]
      exact fun q => hd j b (by omega) q
    · by_cases ej : j = n
      · subst ej; rw [updA_same, updA_other _ _ ei]; exact fun q1 q2 => hd i b (by omega) q2 q1
      · rw [updA_other _ _ ei, updA_other _ _ ej]; exact h.dis i j b (by omega) (by omega) hij
  · by_cases e : i = n
    · subst e
      rw [updA_same]
      intro q1 q2
      rcases hb' b q2 with k | k
      · exact ho b q1 k
      · have := hP.1 b q1; omega
    · rw [updA_other _ _ e]
      intro q1 q2
      rcases hb' b q2 with k | k
      · exact h.own i b (by omega) q1 k
      · have := hin i b (by omega) q1; omega
  · by_cases e : i = n
    · subst e; rw [updA_same]; exact ha b
    · rw [updA_other _ _ e]; exact h.abv i b (by omega)
  · rcases hb' b q with k | k
    · exact h.abo b k
    · omega
  · exact h.bel.trans (ho7.below hz h.abo)

/-- one pair has gone on -/
theorem LS.step (h : LS W w ao cap n X H Gs) {i : Nat} (hi : i < n) (k : PGo (Gs i) w w' (X i) (H i)) : ∃ G, LS W w' ao cap n X H (updA Gs i G) := by
  obtain ⟨o, G', p, f⟩ := k
  have hz := h.bel.size
  have hin : ∀ i b, i < n → Gs i b → b < w.heap.size := fun i b hi q => (h.pr i hi).1 b q
  refine ⟨G', h.vs.only o (fun b q1 q2 => h.own i b hi q2 q1), fun j hj => ?_, fun j l b hj hl hjl => ?_, fun j b hj => ?_, fun j b hj => ?_, h.abo, h.bel.trans (o.below hz (fun b q => h.abv i b hi q))⟩
  · by_cases e : j = i
    · subst e; rw [updA_same]; exact p
    · rw [updA_other _ _ e]; exact (h.pr j hj).only o (fun b q => h.dis j i b hj hi e q)
  · by_cases ej : j = i
    · subst ej
      rw [updA_same, updA_other _ _ (fun q => hjl q.symm)]
      intro q1 q2
      rcases f b q1 with r | r
      · exact h.dis j l b hj hl hjl r q2
      · have := hin l b hl q2; omega
    · by_cases el : l = i
      · subst el
        rw [updA_same, updA_other _ _ ej]
        intro q1 q2
        rcases f b q2 with r | r
        · exact h.dis j l b hj hl hjl q1 r
        · have := hin j b hj q1; omega
      · rw [updA_other _ _ ej, updA_other _ _ el]; exact h.dis j l b hj hl hjl
  · by_cases e : j = i
    · subst e
      rw [updA_same]
      intro q1 q2
      rcases f b q1 with r | r
      · exact h.own j b hj r q2
      · have := h.vs.lt q2; omega
    · rw [updA_other _ _ e]; exact h.own j b hj
  · by_cases e : j = i
    · subst e
      rw [updA_same]
      intro q
      rcases f b q with r | r
      · exact h.abv j b hj r
      · omega
    · rw [updA_other _ _ e]; exact h.abv j b hj

/-- the cells of pair i -/
theorem LS.cells (h : LS W w ao cap n X H Gs) {i : Nat} (hi : i < n) : ∃ b off, ao = some ⟨b, off, none⟩ ∧ b < w.heap.size ∧ w.cell? ⟨b, off + i * 2, none⟩ = some (.pointer (X i)) ∧ w.cell? ⟨b, off + i * 2 + 1, none⟩ = some (.pointer (H i)) := by
  obtain ⟨b, off, e, hb⟩ := h.vs.there (by have := h.vs.hle; omega)
  obtain ⟨g1, g2⟩ := pcl_get X H n i hi
  have hl := pcl_length X H n
  refine ⟨b, off, e, hb, ?_, ?_⟩
  · have := h.vs.hce _ e (i * 2) (by omega)
    rw [List.getElem?_eq_getElem (by omega)] at g1
    rw [Option.some.inj g1] at this
    exact this
  · have := h.vs.hce _ e (i * 2 + 1) (by omega)
    rw [List.getElem?_eq_getElem (by omega)] at g2
    rw [Option.some.inj g2] at this
    rw [Nat.add_assoc]
    exact this
end

/-- a new pair of both -/
theorem pr_new {w3 w4 w5 : World} (s4 : Sv w4 (fun b => b = w3.heap.size) w3.heap.size (fun _ => none)) (h5 : Below w4.heap.size w4 w5) (s5 : HAt w5 w4.heap.size (fun _ => none)) :
    Pr w5 (fun b => w3.heap.size ≤ b ∧ b < w5.heap.size) (some ⟨w3.heap.size, 0, none⟩) (some ⟨w4.heap.size, 0, none⟩) := by
  have z4 := s4.lt
  have z5 := s5.lt
  have z45 := h5.size
  refine ⟨fun b q => q.2, .inr ⟨w3.heap.size, w4.heap.size, _, _, rfl, rfl, s4.below h5, s5, fun q => by have q' : w4.heap.size = w3.heap.size := q; omega, J7.bare, fun b q => ?_, ⟨by omega, z5⟩⟩⟩
  have q' : b = w3.heap.size := q
  subst q'
  exact ⟨Nat.le_refl _, by omega⟩

end Go.Proofs.Ytoafhdbgjpkgfaa
