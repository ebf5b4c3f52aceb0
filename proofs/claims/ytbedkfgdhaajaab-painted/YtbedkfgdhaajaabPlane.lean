/- Plain functions and facts on triangles (P3): nothing of the dump is imported. -/
namespace Go.Proofs.Ytbedkfgdhaajaab

/-- on which side of the line from a to b the point p lies -/
def sd (xa ya xb yb px py : Int) : Int := (xb - xa) * (py - ya) - (yb - ya) * (px - xa)

/-- the same of a pixel's centre, moved by a little to the right and by less down -/
def nd (xa ya xb yb x y : Int) : Int := (xb - xa) * (134217728 * (16 * y + 8 - ya) + 1) - (yb - ya) * (134217728 * (16 * x + 8 - xa) + 8192)

/-- a coordinate that may be -/
def small (v : Int) : Prop := -2048 ≤ v ∧ v ≤ 2047

theorem mul_bd {a b : Int} {k l : Nat} (h1 : -(k : Int) ≤ a) (h2 : a ≤ k) (h3 : -(l : Int) ≤ b) (h4 : b ≤ l) : -((k * l : Nat) : Int) ≤ a * b ∧ a * b ≤ ((k * l : Nat) : Int) := by
  have e : (a * b).natAbs ≤ k * l := by
    rw [Int.natAbs_mul]
    exact Nat.mul_le_mul (by omega) (by omega)
  omega

theorem nd_eq (xa ya xb yb x y : Int) : nd xa ya xb yb x y = 134217728 * sd xa ya xb yb (16 * x + 8) (16 * y + 8) + (xb - xa) - 8192 * (yb - ya) := by
  unfold nd sd; grind

theorem sd_cyc (xa ya xb yb xc yc : Int) : sd xb yb xc yc xa ya = sd xa ya xb yb xc yc := by
  unfold sd; grind

theorem sd_bd {xa ya xb yb px py : Int} (h1 : small xa) (h2 : small ya) (h3 : small xb) (h4 : small yb) (h5 : small px) (h6 : small py) :
    (-16769025 ≤ (xb - xa) * (py - ya) ∧ (xb - xa) * (py - ya) ≤ 16769025) ∧ (-16769025 ≤ (yb - ya) * (px - xa) ∧ (yb - ya) * (px - xa) ≤ 16769025) := by
  unfold small at *
  exact ⟨mul_bd (k := 4095) (l := 4095) (by omega) (by omega) (by omega) (by omega), mul_bd (k := 4095) (l := 4095) (by omega) (by omega) (by omega) (by omega)⟩

/-- the edge from a to b, c the third corner, is a left or a top one -/
def owns (xa ya xb yb xc yc : Int) : Bool :=
  if ya = yb then decide (ya < yc) else if yb < ya then decide (0 < sd xa ya xb yb xc yc) else decide (sd xa ya xb yb xc yc < 0)

/-- p is on c's side of the edge from a to b, or on an edge that is the triangle's own -/
def adm (xa ya xb yb xc yc px py : Int) : Bool :=
  if sd xa ya xb yb px py = 0 then owns xa ya xb yb xc yc else decide (0 < sd xa ya xb yb px py) == decide (0 < sd xa ya xb yb xc yc)

def hol (xa ya xb yb xc yc px py : Int) : Bool :=
  if sd xa ya xb yb xc yc = 0 then false else adm xa ya xb yb xc yc px py && adm xb yb xc yc xa ya px py && adm xc yc xa ya xb yb px py

/-- P3 of corners and a pixel that may be -/
def cov (xa ya xb yb xc yc x y : Int) : Bool :=
  if sd xa ya xb yb xc yc = 0 then false
  else if 0 < sd xa ya xb yb xc yc then decide (0 < nd xa ya xb yb x y) && decide (0 < nd xb yb xc yc x y) && decide (0 < nd xc yc xa ya x y)
  else decide (nd xa ya xb yb x y < 0) && decide (nd xb yb xc yc x y < 0) && decide (nd xc yc xa ya x y < 0)

/-- the moved centre lies where the centre lies, if that is on no line -/
theorem nd_pos {xa ya xb yb x y : Int} (h1 : small xa) (h2 : small ya) (h3 : small xb) (h4 : small yb) (h : 0 < sd xa ya xb yb (16 * x + 8) (16 * y + 8)) : 0 < nd xa ya xb yb x y := by
  rw [nd_eq]; unfold small at *; omega

theorem nd_neg {xa ya xb yb x y : Int} (h1 : small xa) (h2 : small ya) (h3 : small xb) (h4 : small yb) (h : sd xa ya xb yb (16 * x + 8) (16 * y + 8) < 0) : nd xa ya xb yb x y < 0 := by
  rw [nd_eq]; unfold small at *; omega

theorem pos_mul {a b : Int} (h : 0 < a * b) : (0 < a ∧ 0 < b) ∨ (a < 0 ∧ b < 0) := by
  rcases Int.lt_trichotomy a 0 with ha | ha | ha
  · rcases Int.lt_trichotomy b 0 with hb | hb | hb
    · exact .inr ⟨ha, hb⟩
    · subst hb; simp at h
    · have := Int.mul_neg_of_neg_of_pos ha hb; omega
  · subst ha; simp at h
  · rcases Int.lt_trichotomy b 0 with hb | hb | hb
    · have := Int.mul_neg_of_pos_of_neg ha hb; omega
    · subst hb; simp at h
    · exact .inl ⟨ha, hb⟩

theorem neg_mul {a b : Int} (h : a * b < 0) : (0 < a ∧ b < 0) ∨ (a < 0 ∧ 0 < b) := by
  rcases Int.lt_trichotomy a 0 with ha | ha | ha
  · rcases Int.lt_trichotomy b 0 with hb | hb | hb
    · have := Int.mul_pos_of_neg_of_neg ha hb; omega
    · subst hb; simp at h
    · exact .inr ⟨ha, hb⟩
  · subst ha; simp at h
  · rcases Int.lt_trichotomy b 0 with hb | hb | hb
    · exact .inl ⟨ha, hb⟩
    · subst hb; simp at h
    · have := Int.mul_pos ha hb; omega

theorem sd_level {xa ya xb yb xc yc : Int} (h : ya = yb) : sd xa ya xb yb xc yc = (xb - xa) * (yc - ya) := by
  unfold sd; subst h; simp

theorem adm_pos {xa ya xb yb xc yc x y : Int} (h1 : small xa) (h2 : small ya) (h3 : small xb) (h4 : small yb) (hp : 0 < sd xa ya xb yb xc yc) :
    adm xa ya xb yb xc yc (16 * x + 8) (16 * y + 8) = decide (0 < nd xa ya xb yb x y) := by
  unfold adm
  by_cases hz : sd xa ya xb yb (16 * x + 8) (16 * y + 8) = 0
  · rw [if_pos hz]
    have e := nd_eq xa ya xb yb x y
    rw [hz] at e
    unfold owns
    by_cases hl : ya = yb
    · rw [if_pos hl]
      have k := sd_level (xa := xa) (xb := xb) (xc := xc) (yc := yc) hl
      rw [k] at hp
      have := pos_mul hp
      unfold small at *
      exact decide_eq_decide.mpr (by omega)
    · rw [if_neg hl]
      unfold small at *
      by_cases hu : yb < ya
      · rw [if_pos hu]
        exact decide_eq_decide.mpr (by omega)
      · rw [if_neg hu]
        exact decide_eq_decide.mpr (by omega)
  · rw [if_neg hz, decide_eq_true hp]
    by_cases hs : 0 < sd xa ya xb yb (16 * x + 8) (16 * y + 8)
    · rw [decide_eq_true hs, decide_eq_true (nd_pos h1 h2 h3 h4 hs)]; rfl
    · have := nd_neg h1 h2 h3 h4 (show sd xa ya xb yb (16 * x + 8) (16 * y + 8) < 0 by omega)
      rw [decide_eq_false hs, decide_eq_false (by omega)]; rfl

theorem adm_neg {xa ya xb yb xc yc x y : Int} (h1 : small xa) (h2 : small ya) (h3 : small xb) (h4 : small yb) (hp : sd xa ya xb yb xc yc < 0) :
    adm xa ya xb yb xc yc (16 * x + 8) (16 * y + 8) = decide (nd xa ya xb yb x y < 0) := by
  unfold adm
  by_cases hz : sd xa ya xb yb (16 * x + 8) (16 * y + 8) = 0
  · rw [if_pos hz]
    have e := nd_eq xa ya xb yb x y
    rw [hz] at e
    unfold owns
    by_cases hl : ya = yb
    · rw [if_pos hl]
      have k := sd_level (xa := xa) (xb := xb) (xc := xc) (yc := yc) hl
      rw [k] at hp
      have := neg_mul hp
      unfold small at *
      exact decide_eq_decide.mpr (by omega)
    · rw [if_neg hl]
      unfold small at *
      by_cases hu : yb < ya
      · rw [if_pos hu]
        exact decide_eq_decide.mpr (by omega)
      · rw [if_neg hu]
        exact decide_eq_decide.mpr (by omega)
  · rw [if_neg hz, decide_eq_false (show ¬ 0 < sd xa ya xb yb xc yc by omega)]
    by_cases hs : 0 < sd xa ya xb yb (16 * x + 8) (16 * y + 8)
    · have := nd_pos h1 h2 h3 h4 hs
      rw [decide_eq_true hs, decide_eq_false (by omega)]; rfl
    · have := nd_neg h1 h2 h3 h4 (show sd xa ya xb yb (16 * x + 8) (16 * y + 8) < 0 by omega)
      rw [decide_eq_false hs, decide_eq_true this]; rfl

theorem hol_eq {xa ya xb yb xc yc x y : Int} (h1 : small xa) (h2 : small ya) (h3 : small xb) (h4 : small yb) (h5 : small xc) (h6 : small yc) :
    hol xa ya xb yb xc yc (16 * x + 8) (16 * y + 8) = cov xa ya xb yb xc yc x y := by
  unfold hol cov
  by_cases hz : sd xa ya xb yb xc yc = 0
  · rw [if_pos hz, if_pos hz]
  · rw [if_neg hz, if_neg hz]
    have e1 := sd_cyc xa ya xb yb xc yc
    have e2 := sd_cyc xb yb xc yc xa ya
    by_cases hp : 0 < sd xa ya xb yb xc yc
    · rw [if_pos hp, adm_pos h1 h2 h3 h4 hp, adm_pos h3 h4 h5 h6 (by omega), adm_pos h5 h6 h1 h2 (by omega)]
    · rw [if_neg hp, adm_neg h1 h2 h3 h4 (by omega), adm_neg h3 h4 h5 h6 (by omega), adm_neg h5 h6 h1 h2 (by omega)]

/-- a corner that may be -/
def near (x y : Int) : Bool := decide (-2048 ≤ x ∧ x ≤ 2047 ∧ -2048 ≤ y ∧ y ≤ 2047)

theorem near_small {x y : Int} (h : near x y = true) : small x ∧ small y := by
  unfold near at h; unfold small; have := of_decide_eq_true h; omega

end Go.Proofs.Ytbedkfgdhaajaab
