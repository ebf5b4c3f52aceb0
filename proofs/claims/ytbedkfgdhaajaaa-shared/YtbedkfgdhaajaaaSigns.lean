/- Plain facts on triangles, counted with signs (P3, Shared): nothing of the dump is imported. -/
import Derived.Test.YtbedkfgdhaajaaaPlane
namespace Go.Proofs.Ytbedkfgdhaajaaa

/-- the sign of a number -/
def sg (v : Int) : Int := if 0 < v then 1 else if v < 0 then -1 else 0

theorem sg_cases (v : Int) : (0 < v ∧ sg v = 1) ∨ (v < 0 ∧ sg v = -1) ∨ (v = 0 ∧ sg v = 0) := by
  unfold sg
  split
  · omega
  · split <;> omega

/-- a triangle that covers the pixel counts as its sign -/
def cn (xa ya xb yb xc yc x y : Int) : Int := if cov xa ya xb yb xc yc x y = true then sg (sd xa ya xb yb xc yc) else 0

/-- three numbers of one sign count as that sign -/
def q (u v t : Int) : Int := if 0 < u ∧ 0 < v ∧ 0 < t then 1 else if u < 0 ∧ v < 0 ∧ t < 0 then -1 else 0

theorem q_cases (u v t : Int) : (q u v t = 1 ∧ 0 < u ∧ 0 < v ∧ 0 < t) ∨ (q u v t = -1 ∧ u < 0 ∧ v < 0 ∧ t < 0) ∨ (q u v t = 0 ∧ ¬ (0 < u ∧ 0 < v ∧ 0 < t) ∧ ¬ (u < 0 ∧ v < 0 ∧ t < 0)) := by
  unfold q
  split
  · omega
  · split <;> omega

theorem nd_sum (xa ya xb yb xc yc x y : Int) : nd xa ya xb yb x y + nd xb yb xc yc x y + nd xc yc xa ya x y = 134217728 * sd xa ya xb yb xc yc := by
  unfold nd sd; grind

theorem nd_anti (xa ya xb yb x y : Int) : nd xb yb xa ya x y = - nd xa ya xb yb x y := by
  unfold nd; grind

theorem nd_gen (xa ya xb yb x y : Int) : nd xa ya xb yb x y = (xb - xa) * (134217728 * (16 * y + 8) + 1 - 134217728 * ya) - (yb - ya) * (134217728 * (16 * x + 8) + 8192 - 134217728 * xa) := by
  unfold nd; grind

theorem pluck (X Y G xa ya xb yb xc yc xm ym : Int) :
    ((xc - xb) * (Y - G * yb) - (yc - yb) * (X - G * xb)) * ((xm - xa) * (Y - G * ya) - (ym - ya) * (X - G * xa)) +
    ((xa - xc) * (Y - G * yc) - (ya - yc) * (X - G * xc)) * ((xm - xb) * (Y - G * yb) - (ym - yb) * (X - G * xb)) +
    ((xb - xa) * (Y - G * ya) - (yb - ya) * (X - G * xa)) * ((xm - xc) * (Y - G * yc) - (ym - yc) * (X - G * xc)) = 0 := by
  grind

theorem nd_pluck (xa ya xb yb xc yc xm ym x y : Int) :
    nd xb yb xc yc x y * nd xa ya xm ym x y + nd xc yc xa ya x y * nd xb yb xm ym x y + nd xa ya xb yb x y * nd xc yc xm ym x y = 0 := by
  rw [nd_gen xb yb xc yc, nd_gen xa ya xm ym, nd_gen xc yc xa ya, nd_gen xb yb xm ym, nd_gen xa ya xb yb, nd_gen xc yc xm ym]
  exact pluck _ _ _ _ _ _ _ _ _ _ _

theorem nd_zero {xa ya xb yb x y : Int} (h1 : small xa) (h2 : small ya) (h3 : small xb) (h4 : small yb) (h : nd xa ya xb yb x y = 0) : xa = xb ∧ ya = yb := by
  rw [nd_eq] at h
  unfold small at *
  omega

theorem cn_q {xa ya xb yb xc yc x y : Int} : cn xa ya xb yb xc yc x y = q (nd xa ya xb yb x y) (nd xb yb xc yc x y) (nd xc yc xa ya x y) := by
  have hs := nd_sum xa ya xb yb xc yc x y
  have hg := sg_cases (sd xa ya xb yb xc yc)
  have hq := q_cases (nd xa ya xb yb x y) (nd xb yb xc yc x y) (nd xc yc xa ya x y)
  unfold cn cov
  by_cases hz : sd xa ya xb yb xc yc = 0
  · rw [if_pos hz]
    simp
    omega
  · rw [if_neg hz]
    by_cases hp : 0 < sd xa ya xb yb xc yc
    · rw [if_pos hp]
      simp only [Bool.and_eq_true, decide_eq_true_eq]
      split <;> omega
    · rw [if_neg hp]
      simp only [Bool.and_eq_true, decide_eq_true_eq]
      split <;> omega

/-- q of the signs -/
def qs (u v t : Int) : Int := if u = 1 ∧ v = 1 ∧ t = 1 then 1 else if u = -1 ∧ v = -1 ∧ t = -1 then -1 else 0

theorem q_qs (u v t : Int) : q u v t = qs (sg u) (sg v) (sg t) := by
  have a := sg_cases u
  have b := sg_cases v
  have c := sg_cases t
  unfold q qs
  have e1 : (0 < u ∧ 0 < v ∧ 0 < t) ↔ (sg u = 1 ∧ sg v = 1 ∧ sg t = 1) := by omega
  have e2 : (u < 0 ∧ v < 0 ∧ t < 0) ↔ (sg u = -1 ∧ sg v = -1 ∧ sg t = -1) := by omega
  simp only [e1, e2]

theorem sg_neg (v : Int) : sg (-v) = - sg v := by
  have a := sg_cases v
  have b := sg_cases (-v)
  omega

theorem sg_mul (a b : Int) : sg (a * b) = sg a * sg b := by
  rcases sg_cases a with ⟨k, e⟩ | ⟨k, e⟩ | ⟨k, e⟩ <;> rcases sg_cases b with ⟨l, f⟩ | ⟨l, f⟩ | ⟨l, f⟩ <;> rw [e, f]
  · have := Int.mul_pos k l; have := sg_cases (a * b); omega
  · have := Int.mul_neg_of_pos_of_neg k l; have := sg_cases (a * b); omega
  · subst l; simp [sg]
  · have := Int.mul_neg_of_neg_of_pos k l; have := sg_cases (a * b); omega
  · have := Int.mul_pos_of_neg_of_neg k l; have := sg_cases (a * b); omega
  · subst l; simp [sg]
  · subst k; simp [sg]
  · subst k; simp [sg]
  · subst k; simp [sg]

theorem sg_one {v : Int} (h : v ≠ 0) : sg v = 1 ∨ sg v = -1 := by
  have := sg_cases v; omega

theorem qs_sum {u v t a b c : Int} (hu : u = 1 ∨ u = -1) (hv : v = 1 ∨ v = -1) (ht : t = 1 ∨ t = -1) (ha : a = 1 ∨ a = -1) (hb : b = 1 ∨ b = -1) (hc : c = 1 ∨ c = -1)
    (h : ¬ (v * a = 1 ∧ t * b = 1 ∧ u * c = 1) ∧ ¬ (v * a = -1 ∧ t * b = -1 ∧ u * c = -1)) : qs u v t = qs u b (-a) + qs v c (-b) + qs t a (-c) := by
  rcases hu with rfl | rfl <;> rcases hv with rfl | rfl <;> rcases ht with rfl | rfl <;> rcases ha with rfl | rfl <;> rcases hb with rfl | rfl <;> rcases hc with rfl | rfl <;> revert h <;> decide

theorem q_sum {u v t a b c : Int} (h : v * a + t * b + u * c = 0) (hu : u ≠ 0) (hv : v ≠ 0) (ht : t ≠ 0) (ha : a ≠ 0) (hb : b ≠ 0) (hc : c ≠ 0) :
    q u v t = q u b (-a) + q v c (-b) + q t a (-c) := by
  rw [q_qs, q_qs, q_qs, q_qs, sg_neg, sg_neg, sg_neg]
  refine qs_sum (sg_one hu) (sg_one hv) (sg_one ht) (sg_one ha) (sg_one hb) (sg_one hc) ?_
  rw [← sg_mul, ← sg_mul, ← sg_mul]
  have k1 := sg_cases (v * a)
  have k2 := sg_cases (t * b)
  have k3 := sg_cases (u * c)
  generalize v * a = A at *
  generalize t * b = B at *
  generalize u * c = C at *
  omega

theorem sg_three (v : Int) : sg v = 1 ∨ sg v = -1 ∨ sg v = 0 := by
  have := sg_cases v; omega

/-- two of the corners are one, or the fourth point is one of them -/
theorem q_z1 (t a c : Int) : q 0 (-t) t = q 0 a (-a) + q (-t) c (-a) + q t a (-c) := by
  rw [q_qs, q_qs, q_qs, q_qs, sg_neg, sg_neg, sg_neg, show sg 0 = 0 from rfl]
  rcases sg_three t with e | e | e <;> rcases sg_three a with f | f | f <;> rcases sg_three c with g | g | g <;> rw [e, f, g] <;> decide

theorem q_z4 (u v t : Int) : q u v t = q u (-u) (-0) + q v t (- -u) + q t 0 (-t) := by
  rw [q_qs, q_qs, q_qs, q_qs, sg_neg, sg_neg, sg_neg, sg_neg, sg_neg, show sg 0 = 0 from rfl]
  rcases sg_three u with e | e | e <;> rcases sg_three v with f | f | f <;> rcases sg_three t with g | g | g <;> rw [e, f, g] <;> decide

theorem q_cyc (u v t : Int) : q u v t = q v t u := by
  unfold q
  have e1 : (0 < u ∧ 0 < v ∧ 0 < t) ↔ (0 < v ∧ 0 < t ∧ 0 < u) := by omega
  have e2 : (u < 0 ∧ v < 0 ∧ t < 0) ↔ (v < 0 ∧ t < 0 ∧ u < 0) := by omega
  simp only [e1, e2]

/-- all that is known of six numbers -/
theorem q_all {u v t a b c : Int} (h : v * a + t * b + u * c = 0) (hu : u = 0 → v = -t ∧ b = a) (hv : v = 0 → t = -u ∧ c = b) (ht : t = 0 → u = -v ∧ a = c)
    (ha : a = 0 → b = -u ∧ c = t) (hb : b = 0 → c = -v ∧ a = u) (hc : c = 0 → a = -t ∧ b = v) : q u v t = q u b (-a) + q v c (-b) + q t a (-c) := by
  by_cases z1 : u = 0
  · obtain ⟨rfl, rfl⟩ := hu z1
    subst z1
    exact q_z1 _ _ _
  · by_cases z2 : v = 0
    · obtain ⟨rfl, rfl⟩ := hv z2
      subst z2
      rw [q_cyc, q_z1 u c a]
      omega
    · by_cases z3 : t = 0
      · obtain ⟨rfl, rfl⟩ := ht z3
        subst z3
        rw [q_cyc, q_cyc, q_z1 v a b]
        omega
      · by_cases z4 : a = 0
        · obtain ⟨rfl, rfl⟩ := ha z4
          subst z4
          exact q_z4 _ _ _
        · by_cases z5 : b = 0
          · obtain ⟨rfl, rfl⟩ := hb z5
            subst z5
            rw [q_cyc, q_z4 v t a]
            omega
          · by_cases z6 : c = 0
            · obtain ⟨rfl, rfl⟩ := hc z6
              subst z6
              rw [q_cyc, q_cyc, q_z4 t u b]
              omega
            · exact q_sum h z1 z2 z3 z4 z5 z6

/-- a triangle is, counted with signs, the three that have a fourth point for a corner -/
theorem cn_sum {xa ya xb yb xc yc xm ym x y : Int} (h1 : small xa) (h2 : small ya) (h3 : small xb) (h4 : small yb) (h5 : small xc) (h6 : small yc) (h7 : small xm) (h8 : small ym) :
    cn xa ya xb yb xc yc x y = cn xa ya xb yb xm ym x y + cn xb yb xc yc xm ym x y + cn xc yc xa ya xm ym x y := by
  rw [cn_q, cn_q, cn_q, cn_q, nd_anti xa ya xm ym, nd_anti xb yb xm ym, nd_anti xc yc xm ym]
  refine q_all (nd_pluck xa ya xb yb xc yc xm ym x y) (fun z => ?_) (fun z => ?_) (fun z => ?_) (fun z => ?_) (fun z => ?_) (fun z => ?_)
  · obtain ⟨rfl, rfl⟩ := nd_zero h1 h2 h3 h4 z
    exact ⟨nd_anti _ _ _ _ _ _, rfl⟩
  · obtain ⟨rfl, rfl⟩ := nd_zero h3 h4 h5 h6 z
    exact ⟨nd_anti _ _ _ _ _ _, rfl⟩
  · obtain ⟨rfl, rfl⟩ := nd_zero h5 h6 h1 h2 z
    exact ⟨nd_anti _ _ _ _ _ _, rfl⟩
  · obtain ⟨rfl, rfl⟩ := nd_zero h1 h2 h7 h8 z
    exact ⟨nd_anti _ _ _ _ _ _, rfl⟩
  · obtain ⟨rfl, rfl⟩ := nd_zero h3 h4 h7 h8 z
    exact ⟨nd_anti _ _ _ _ _ _, rfl⟩
  · obtain ⟨rfl, rfl⟩ := nd_zero h5 h6 h7 h8 z
    exact ⟨nd_anti _ _ _ _ _ _, rfl⟩

/-! ### a centre strictly inside, strictly outside -/
theorem cov_flat {xa ya xb yb xc yc x y : Int} (h : sg (sd xa ya xb yb xc yc) = 0) : cov xa ya xb yb xc yc x y = false := by
  have := sg_cases (sd xa ya xb yb xc yc)
  unfold cov
  rw [if_pos (by omega)]

/-- what one edge says -/
theorem out_edge {s a n : Int} (h : sg s * sg a < 0) (hp : 0 < a → 0 < n) (hn : a < 0 → n < 0) : (0 < s → n < 0) ∧ (s < 0 → 0 < n) ∧ s ≠ 0 := by
  have k1 := sg_cases s
  have k2 := sg_cases a
  rcases k1 with ⟨k, e⟩ | ⟨k, e⟩ | ⟨k, e⟩ <;> rcases k2 with ⟨l, f⟩ | ⟨l, f⟩ | ⟨l, f⟩ <;> rw [e, f] at h <;> simp at h <;> omega

theorem in_edge {s a n : Int} (h : 0 < sg s * sg a) (hp : 0 < a → 0 < n) (hn : a < 0 → n < 0) : (0 < s → 0 < n) ∧ (s < 0 → n < 0) ∧ s ≠ 0 := by
  have k1 := sg_cases s
  have k2 := sg_cases a
  rcases k1 with ⟨k, e⟩ | ⟨k, e⟩ | ⟨k, e⟩ <;> rcases k2 with ⟨l, f⟩ | ⟨l, f⟩ | ⟨l, f⟩ <;> rw [e, f] at h <;> simp at h <;> omega

theorem sg_mul_bd (a b : Int) : -1 ≤ sg a * sg b ∧ sg a * sg b ≤ 1 := by
  have k1 := sg_cases a
  have k2 := sg_cases b
  rcases k1 with ⟨k, e⟩ | ⟨k, e⟩ | ⟨k, e⟩ <;> rcases k2 with ⟨l, f⟩ | ⟨l, f⟩ | ⟨l, f⟩ <;> rw [e, f] <;> simp

theorem cov_out {xa ya xb yb xc yc x y : Int} (h1 : small xa) (h2 : small ya) (h3 : small xb) (h4 : small yb) (h5 : small xc) (h6 : small yc)
    (h : sg (sd xa ya xb yb xc yc) * sg (sd xa ya xb yb (16 * x + 8) (16 * y + 8)) < 0 ∨ sg (sd xa ya xb yb xc yc) * sg (sd xb yb xc yc (16 * x + 8) (16 * y + 8)) < 0 ∨ sg (sd xa ya xb yb xc yc) * sg (sd xc yc xa ya (16 * x + 8) (16 * y + 8)) < 0) :
    cov xa ya xb yb xc yc x y = false := by
  have k : ((0 < sd xa ya xb yb xc yc → nd xa ya xb yb x y < 0) ∧ (sd xa ya xb yb xc yc < 0 → 0 < nd xa ya xb yb x y) ∧ sd xa ya xb yb xc yc ≠ 0) ∨
      ((0 < sd xa ya xb yb xc yc → nd xb yb xc yc x y < 0) ∧ (sd xa ya xb yb xc yc < 0 → 0 < nd xb yb xc yc x y) ∧ sd xa ya xb yb xc yc ≠ 0) ∨
      ((0 < sd xa ya xb yb xc yc → nd xc yc xa ya x y < 0) ∧ (sd xa ya xb yb xc yc < 0 → 0 < nd xc yc xa ya x y) ∧ sd xa ya xb yb xc yc ≠ 0) := by
    rcases h with h | h | h
    · exact .inl (out_edge h (nd_pos h1 h2 h3 h4) (nd_neg h1 h2 h3 h4))
    · exact .inr (.inl (out_edge h (nd_pos h3 h4 h5 h6) (nd_neg h3 h4 h5 h6)))
    · exact .inr (.inr (out_edge h (nd_pos h5 h6 h1 h2) (nd_neg h5 h6 h1 h2)))
  unfold cov
  rw [if_neg (by omega)]
  by_cases hp : 0 < sd xa ya xb yb xc yc
  · rw [if_pos hp]
    simp only [Bool.and_eq_false_iff, decide_eq_false_iff_not]
    omega
  · rw [if_neg hp]
    simp only [Bool.and_eq_false_iff, decide_eq_false_iff_not]
    omega

theorem cov_in {xa ya xb yb xc yc x y : Int} (h1 : small xa) (h2 : small ya) (h3 : small xb) (h4 : small yb) (h5 : small xc) (h6 : small yc)
    (k1 : 0 < sg (sd xa ya xb yb xc yc) * sg (sd xa ya xb yb (16 * x + 8) (16 * y + 8))) (k2 : 0 < sg (sd xa ya xb yb xc yc) * sg (sd xb yb xc yc (16 * x + 8) (16 * y + 8))) (k3 : 0 < sg (sd xa ya xb yb xc yc) * sg (sd xc yc xa ya (16 * x + 8) (16 * y + 8))) :
    cov xa ya xb yb xc yc x y = true := by
  have e1 := in_edge k1 (nd_pos (x := x) (y := y) h1 h2 h3 h4) (nd_neg h1 h2 h3 h4)
  have e2 := in_edge k2 (nd_pos (x := x) (y := y) h3 h4 h5 h6) (nd_neg h3 h4 h5 h6)
  have e3 := in_edge k3 (nd_pos (x := x) (y := y) h5 h6 h1 h2) (nd_neg h5 h6 h1 h2)
  unfold cov
  rw [if_neg (by omega)]
  by_cases hp : 0 < sd xa ya xb yb xc yc
  · rw [if_pos hp]
    simp only [Bool.and_eq_true, decide_eq_true_eq]
    omega
  · rw [if_neg hp]
    simp only [Bool.and_eq_true, decide_eq_true_eq]
    omega

/-- which of n things a number speaks of -/
def pk (c n : Int) : Int := (if c < 0 then -(c + 1) else c) % n

theorem pk_bd {c n : Int} (h : 0 < n) : 0 ≤ pk c n ∧ pk c n < n := by
  unfold pk
  exact ⟨Int.emod_nonneg _ (by omega), Int.emod_lt_of_pos _ h⟩

end Go.Proofs.Ytbedkfgdhaajaaa
