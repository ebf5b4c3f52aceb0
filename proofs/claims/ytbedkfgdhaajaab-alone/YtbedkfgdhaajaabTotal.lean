/- All that waits is done: what is replied and spent, however it is sent and paid (P7 to P9). Nothing of the dump's is walked here. -/
import Derived.Test.YtbedkfgdhaajaabEmpty
namespace Go.Proofs.Ytbedkfgdhaajaab

/-- no whole command begins the text -/
def stuck (l : List UInt8) : Prop := pz l = 0 ∨ l.length < pz l
instance (l : List UInt8) : Decidable (stuck l) := inferInstanceAs (Decidable (_ ∨ _))

/-- at most n commands, one after another: the replies, the cost, the room and the bytes behind them -/
def fr : Nat → Rm → List UInt8 → List UInt8 × Int × Rm × List UInt8
  | 0, R, l => ([], 0, R, l)
  | n + 1, R, l => if stuck l then ([], 0, R, l)
    else ((pd R (l.take (pz l))).1 ++ (fr n (pd R (l.take (pz l))).2.2 (l.drop (pz l))).1, (pd R (l.take (pz l))).2.1 + (fr n (pd R (l.take (pz l))).2.2 (l.drop (pz l))).2.1, (fr n (pd R (l.take (pz l))).2.2 (l.drop (pz l))).2.2)

theorem fr_fuel {n m : Nat} {R : Rm} {l : List UInt8} (hn : l.length < n) (hm : l.length < m) : fr n R l = fr m R l := by
  induction n generalizing m R l with
  | zero => omega
  | succ n ih =>
    obtain ⟨m, rfl⟩ : ∃ k, m = k + 1 := ⟨m - 1, by omega⟩
    unfold fr
    by_cases h : stuck l
    · rw [if_pos h, if_pos h]
    · rw [if_neg h, if_neg h]
      have h1 : 0 < pz l := Nat.pos_of_ne_zero (fun q => h (.inl q))
      have h2 := pz_pos h1
      rw [ih (m := m) (l := l.drop (pz l)) (by rw [List.length_drop]; omega) (by rw [List.length_drop]; omega)]

def FR (R : Rm) (l : List UInt8) : List UInt8 × Int × Rm × List UInt8 := fr (l.length + 1) R l

theorem FR_stuck {R : Rm} {l : List UInt8} (h : stuck l) : FR R l = ([], 0, R, l) := by unfold FR fr; rw [if_pos h]
theorem FR_step {R : Rm} {l : List UInt8} (h : ¬ stuck l) : (FR R l).1 = (pd R (l.take (pz l))).1 ++ (FR (pd R (l.take (pz l))).2.2 (l.drop (pz l))).1 ∧ (FR R l).2.1 = (pd R (l.take (pz l))).2.1 + (FR (pd R (l.take (pz l))).2.2 (l.drop (pz l))).2.1 := by
  have h1 : 0 < pz l := Nat.pos_of_ne_zero (fun q => h (.inl q))
  have h2 := pz_pos h1
  have e : fr l.length (pd R (l.take (pz l))).2.2 (l.drop (pz l)) = FR (pd R (l.take (pz l))).2.2 (l.drop (pz l)) := fr_fuel (by rw [List.length_drop]; omega) (by omega)
  unfold FR
  rw [fr, if_neg h, e]
  exact ⟨rfl, rfl⟩

/-- .. of a context, s being still to come: all its replies, and what is still to be spent -/
def Rep (g : Gst) (s : List UInt8) : List UInt8 := g.out ++ (FR g.rm (g.wait ++ s)).1
def Cst (g : Gst) (s : List UInt8) : Int := (FR g.rm (g.wait ++ s)).2.1 - g.paid

theorem work_rep {n : Nat} {g : Gst} {f : Int} (s : List UInt8) : Rep (pwork n g f).1 s = Rep g s ∧ (f - (pwork n g f).2) + Cst (pwork n g f).1 s = Cst g s := by
  induction n generalizing g f with
  | zero => exact ⟨rfl, by show f - f + Cst g s = _; omega⟩
  | succ n ih =>
    by_cases hn : pnx g = 0
    · rw [pwork_none hn]; exact ⟨rfl, by show f - f + Cst g s = _; omega⟩
    · by_cases hs : f < pcost g - g.paid
      · rw [pwork_stop hn hs]
        refine ⟨rfl, ?_⟩
        show f - 0 + ((FR g.rm (g.wait ++ s)).2.1 - (g.paid + f)) = (FR g.rm (g.wait ++ s)).2.1 - g.paid
        omega
      · rw [pwork_go hn hs]
        obtain ⟨h1, h2, h3, h4⟩ := pnx_some hn
        have e1 : pz (g.wait ++ s) = pz g.wait := pz_app h3
        have hst : ¬ stuck (g.wait ++ s) := by
          unfold stuck
          rw [e1, List.length_append]
          omega
        have et : (g.wait ++ s).take (pz (g.wait ++ s)) = pcm g := by rw [e1, List.take_append_of_le_length h4]; unfold pcm; rw [h2]
        have ed : (g.wait ++ s).drop (pz (g.wait ++ s)) = (pfin g).wait ++ s := by rw [e1, List.drop_append_of_le_length h4]; show _ = g.wait.drop (pnx g) ++ s; rw [h2]
        obtain ⟨f1, f2⟩ := FR_step (R := g.rm) hst
        rw [et, ed] at f1 f2
        obtain ⟨i1, i2⟩ := ih (g := pfin g) (f := f - (pcost g - g.paid))
        refine ⟨?_, ?_⟩
        · rw [i1]
          unfold Rep
          rw [f1]
          show (g.out ++ (pd g.rm (pcm g)).1) ++ _ = _
          rw [List.append_assoc]
          rfl
        · have e3 : Cst (pfin g) s = (FR (pd g.rm (pcm g)).2.2 ((pfin g).wait ++ s)).2.1 - 0 := rfl
          have e4 : Cst g s = (pd g.rm (pcm g)).2.1 + (FR (pd g.rm (pcm g)).2.2 ((pfin g).wait ++ s)).2.1 - g.paid := by unfold Cst; rw [f2]
          have e5 : pcost g = (pd g.rm (pcm g)).2.1 := rfl
          omega

theorem take_rep (g : Gst) (s : List UInt8) : g.out ++ Rep (gtake g) s = Rep g s ∧ Cst (gtake g) s = Cst g s := ⟨rfl, rfl⟩
theorem send_rep (g : Gst) (a s : List UInt8) : Rep (gsend g a) s = Rep g (a ++ s) ∧ Cst (gsend g a) s = Cst g (a ++ s) := by
  refine ⟨?_, ?_⟩ <;> simp only [Rep, Cst, gsend, List.append_assoc]

theorem emp_rep (g : Gst) (k : Nat) : (emp k g).2.1 ++ Rep (emp k g).1 [] = Rep g [] ∧ (emp k g).2.2 + Cst (emp k g).1 [] = Cst g [] := by
  induction k with
  | zero => exact ⟨rfl, by show 0 + Cst g [] = _; omega⟩
  | succ k ih =>
    obtain ⟨i1, i2⟩ := ih
    obtain ⟨w1, w2⟩ := work_rep (n := 1025) (g := (emp k g).1) (f := 1048576) []
    obtain ⟨t1, t2⟩ := take_rep (pwork 1025 (emp k g).1 1048576).1 []
    refine ⟨?_, ?_⟩
    · show ((emp k g).2.1 ++ (pwork 1025 (emp k g).1 1048576).1.out) ++ Rep (gtake (pwork 1025 (emp k g).1 1048576).1) [] = _
      rw [List.append_assoc, t1, w1, i1]
    · show (emp k g).2.2 + (1048576 - (pwork 1025 (emp k g).1 1048576).2) + Cst (gtake (pwork 1025 (emp k g).1 1048576).1) [] = _
      rw [t2]; omega

/-- what a command replies and costs, by its length -/
theorem ddo_fine {R : Rm} (h : okR R) (s : List UInt8) (hs : s.length = dsz s) (h0 : 0 < s.length) : (ddo R s).1.length ≤ 52 * s.length ∧ (ddo R s).2.1 ≤ 2203 * (s.length : Int) := by
  have b4 := bn_le s 4
  have b2 := bn_le s 2
  have hne : ¬ s.length = 0 := by omega
  have hz : dsz s = if bn s 0 = 1 then 4 else if bn s 0 = 2 then 2 else if bn s 0 = 3 then (if s.length < 5 then 0 else 5 + bn s 4) else if bn s 0 = 4 then 5 else if bn s 0 = 5 then (if s.length < 3 then 0 else 3 + 4 * bn s 2) else if bn s 0 = 6 then 3 else if bn s 0 = 7 then 17 else 1 := by unfold dsz; rw [if_neg hne]
  unfold ddo
  by_cases h1 : bn s 0 = 1
  · rw [if_pos h1] at hz ⊢
    by_cases hc : can R.bs (bn s 1) (bn s 2) (bn s 3) = 0
    · simp only [if_pos hc]
      obtain ⟨_, _, ha, hb, _⟩ := can_ok hc
      have hm := mul24 (a := (bn s 2 : Int)) (b := (bn s 3 : Int)) (by omega) (by omega)
      exact ⟨by simp; omega, by omega⟩
    · simp only [if_neg hc]; exact ⟨by simp; omega, by omega⟩
  · rw [if_neg h1] at hz ⊢
    by_cases h5 : bn s 0 = 5
    · rw [if_pos h5]
      have : 3 ≤ s.length := by
        rw [if_neg (by omega), if_neg (by omega), if_neg (by omega), if_pos h5] at hz
        split at hz <;> omega
      split <;> exact ⟨by simp; omega, by simp only; omega⟩
    · rw [if_neg h5]
      by_cases h7 : bn s 0 = 7
      · rw [if_pos h7]
        have hl : s.length = 17 := by rw [hs, hz]; simp [h7]
        have hc : dwC R s ≤ 37441 := by
          unfold dwC
          split
          · rename_i hd
            have h8 : bn s 1 < 8 := by
              rcases Nat.lt_or_ge (bn s 1) 8 with q | q
              · exact q
              · unfold der at hd
                rw [if_pos (show thr R (bn s 1) = false from decide_eq_false (fun p => by omega))] at hd
                omega
            have := dst_bd R s (R.bs (bn s 1)).length
            have := h.len _ h8
            omega
          · omega
        exact ⟨by simp; omega, by simp only; omega⟩
      · rw [if_neg h7]
        by_cases ho : bn s 0 = 0 ∨ 7 < bn s 0
        · rw [if_pos ho]; exact ⟨by simp; omega, by simp; omega⟩
        · rw [if_neg ho]
          by_cases ht : thr R (bn s 1) = false
          · rw [if_pos ht]; exact ⟨by simp; omega, by simp; omega⟩
          · rw [if_neg ht]
            have ht' : thr R (bn s 1) = true := by simpa using ht
            have h8 : bn s 1 < 8 := (of_decide_eq_true ht' : _ ∧ _).1
            have hl := h.len _ h8
            by_cases k2 : bn s 0 = 2
            · rw [if_pos k2]; exact ⟨by simp; omega, by simp; omega⟩
            · rw [if_neg k2]
              rw [if_neg k2] at hz
              by_cases k3 : bn s 0 = 3
              · rw [if_pos k3]
                rw [if_pos k3] at hz
                have : 5 ≤ s.length := by split at hz <;> omega
                exact ⟨by simp; omega, by simp only; omega⟩
              · rw [if_neg k3]
                rw [if_neg k3] at hz
                by_cases k4 : bn s 0 = 4
                · rw [if_pos k4]
                  rw [if_pos k4] at hz
                  exact ⟨by simp [rdb_length]; omega, by simp only; omega⟩
                · rw [if_neg k4]
                  have h6 : bn s 0 = 6 := by omega
                  rw [if_neg k4, if_neg h5, if_pos h6] at hz
                  exact ⟨by simp; omega, by simp only; omega⟩

theorem pd_fine {R : Rm} (h : okR R) (s : List UInt8) (hs : s.length = pz s) (h0 : 0 < s.length) : (pd R s).1.length ≤ 52 * s.length ∧ (pd R s).2.1 ≤ 2203 * (s.length : Int) := by
  exact ddo_fine h s hs h0

theorem fr_fine {n : Nat} {R : Rm} (h : okR R) (l : List UInt8) : (fr n R l).1.length ≤ 52 * l.length ∧ 0 ≤ (fr n R l).2.1 ∧ (fr n R l).2.1 ≤ 2203 * (l.length : Int) := by
  induction n generalizing R l with
  | zero => exact ⟨by simp [fr], by simp [fr], by simp [fr]; omega⟩
  | succ n ih =>
    unfold fr
    by_cases hs : stuck l
    · rw [if_pos hs]; exact ⟨by simp, by simp, by simp; omega⟩
    · rw [if_neg hs]
      have h1 : 0 < pz l := Nat.pos_of_ne_zero (fun q => hs (.inl q))
      have h2 : pz l ≤ l.length := Nat.le_of_not_lt (fun q => hs (.inr q))
      have hl : (l.take (pz l)).length = pz (l.take (pz l)) := by rw [pz_take h1 h2]; exact List.length_take_of_le h2
      have hl2 : (l.take (pz l)).length = pz l := List.length_take_of_le h2
      have hb := pd_bd h _ hl
      have hf := pd_fine h _ hl (by omega)
      obtain ⟨i1, i2, i3⟩ := ih hb.2.2.2.2 (l.drop (pz l))
      rw [List.length_drop] at i1 i3
      rw [hl2] at hf
      refine ⟨?_, ?_, ?_⟩
      · simp only [List.length_append]; omega
      · simp only; omega
      · simp only; omega

theorem whl_stuck {g : Gst} (h : ¬ whl g) : stuck g.wait := by
  unfold whl at h
  unfold stuck
  omega
theorem stuck_whl {g : Gst} (h : stuck g.wait) : ¬ whl g := by
  unfold stuck at h
  unfold whl
  omega

/-- a Run with all fuel, no replies waiting: nothing whole waits behind it, or a thousand bytes of replies, or all the fuel was spent -/
theorem work_end {n : Nat} {g : Gst} {f : Int} (hn : g.wait.length < n) : ¬ whl (pwork n g f).1 ∨ 1024 ≤ (pwork n g f).1.out.length ∨ (pwork n g f).2 = 0 := by
  induction n generalizing g f with
  | zero => omega
  | succ n ih =>
    by_cases h0 : pnx g = 0
    · rw [pwork_none h0]
      unfold pnx at h0
      split at h0
      · exact .inr (.inl (by assumption))
      · left
        show ¬ whl g
        unfold whl
        split at h0 <;> omega
    · by_cases hs : f < pcost g - g.paid
      · rw [pwork_stop h0 hs]; exact .inr (.inr rfl)
      · rw [pwork_go h0 hs]
        obtain ⟨h1, h2, h3, h4⟩ := pnx_some h0
        exact ih (by show (g.wait.drop (pnx g)).length < n; rw [List.length_drop]; omega)

theorem emp_done {g : Gst} (k : Nat) (h : ¬ whl (emp k g).1) : ¬ whl (emp (k + 1) g).1 := by
  have h0 : pnx (emp k g).1 = 0 := by
    unfold pnx
    unfold whl at h
    split
    · rfl
    · split
      · rfl
      · omega
  show ¬ whl (gtake (pwork 1025 (emp k g).1 1048576).1)
  rw [pwork_none h0]
  exact h

/-- seventy times is enough -/
theorem emp_all {g : Gst} (hP : okP g) (ho : g.out = []) : ¬ whl (emp 70 g).1 := by
  have hlen : (Rep g []).length ≤ 53248 ∧ Cst g [] ≤ 2255872 := by
    have hb := fr_fine (n := (g.wait ++ []).length + 1) hP.rm (g.wait ++ [])
    have hw := hP.wt
    have hp := hP.p0
    unfold Rep Cst FR
    rw [ho]
    simp only [List.append_nil, List.nil_append] at hb ⊢
    omega
  have key : ∀ k, k ≤ 70 → ¬ whl (emp k g).1 ∨ ∃ a b : Nat, a + b = k ∧ 1024 * a ≤ (emp k g).2.1.length ∧ 1048576 * (b : Int) ≤ (emp k g).2.2 := by
    intro k hk
    induction k with
    | zero => exact .inr ⟨0, 0, rfl, by omega, by simp [emp]⟩
    | succ k ih =>
      rcases ih (by omega) with q | ⟨a, b, e, ha, hb⟩
      · exact .inl (emp_done k q)
      · obtain ⟨e1, e2, e3, e4⟩ := emp_ok hP k
        have hw := e1.work (n := 1025) (f := 1048576) (by omega)
        rcases work_end (n := 1025) (g := (emp k g).1) (f := 1048576) (by have := e1.wt; omega) with q | q | q
        · exact .inl q
        · refine .inr ⟨a + 1, b, by omega, ?_, ?_⟩
          · show 1024 * (a + 1) ≤ ((emp k g).2.1 ++ (pwork 1025 (emp k g).1 1048576).1.out).length
            rw [List.length_append]; omega
          · show 1048576 * (b : Int) ≤ (emp k g).2.2 + (1048576 - (pwork 1025 (emp k g).1 1048576).2)
            omega
        · refine .inr ⟨a, b + 1, by omega, ?_, ?_⟩
          · show 1024 * a ≤ ((emp k g).2.1 ++ (pwork 1025 (emp k g).1 1048576).1.out).length
            rw [List.length_append]; omega
          · show 1048576 * ((b + 1 : Nat) : Int) ≤ (emp k g).2.2 + (1048576 - (pwork 1025 (emp k g).1 1048576).2)
            omega
  rcases key 70 (by omega) with q | ⟨a, b, e, ha, hb⟩
  · exact q
  · exfalso
    obtain ⟨r1, r2⟩ := emp_rep g 70
    have hl : (emp 70 g).2.1.length ≤ (Rep g []).length := by rw [← r1, List.length_append]; omega
    have hc : 0 ≤ Cst (emp 70 g).1 [] := by
      have hk := (emp_ok hP 70).1
      rcases hk.p2 with q | ⟨q1, q2⟩
      · unfold Cst
        have := fr_fine (n := ((emp 70 g).1.wait ++ []).length + 1) hk.rm ((emp 70 g).1.wait ++ [])
        unfold FR
        omega
      · unfold Cst
        rw [List.append_nil]
        have hst : ¬ stuck (emp 70 g).1.wait := fun q => stuck_whl q q1
        obtain ⟨_, f2⟩ := FR_step (R := (emp 70 g).1.rm) hst
        have hl2 : ((emp 70 g).1.wait.take (pz (emp 70 g).1.wait)).length = pz ((emp 70 g).1.wait.take (pz (emp 70 g).1.wait)) := by rw [pz_take q1.1 q1.2]; exact List.length_take_of_le q1.2
        have hb2 := pd_bd hk.rm _ hl2
        have := fr_fine (n := ((emp 70 g).1.wait.drop (pz (emp 70 g).1.wait)).length + 1) hb2.2.2.2.2 ((emp 70 g).1.wait.drop (pz (emp 70 g).1.wait))
        unfold pc1 at q2
        unfold FR at f2 ⊢
        rw [f2]
        omega
    omega

/-- .. and then all has been replied and spent -/
theorem emp_total {g : Gst} (hP : okP g) (ho : g.out = []) : (emp 70 g).2.1 = Rep g [] ∧ (emp 70 g).2.2 = Cst g [] := by
  obtain ⟨r1, r2⟩ := emp_rep g 70
  have hd := emp_all hP ho
  have hs := whl_stuck hd
  have e1 : Rep (emp 70 g).1 [] = [] := by
    unfold Rep
    rw [List.append_nil, FR_stuck hs]
    rfl
  have e2 : Cst (emp 70 g).1 [] = 0 := by
    unfold Cst
    rw [List.append_nil, FR_stuck hs]
    rcases (emp_ok hP 70).1.p2 with q | q
    · show 0 - (emp 70 g).1.paid = 0; omega
    · exact absurd q.1 hd
  rw [e1, List.append_nil] at r1
  exact ⟨r1, by omega⟩

end Go.Proofs.Ytbedkfgdhaajaab
