/- The program's context, as plain functions (P8, P10 to P13). Nothing of the dump's is walked here. The program's commands one by one, as plain facts (P10 to P13). -/
import Derived.Test.YtbedkfgdhaajaabDocFacts
namespace Go.Proofs.Ytbedkfgdhaajaab

theorem bn_app {l s : List UInt8} {k : Nat} (h : k < l.length) : bn (l ++ s) k = bn l k := by
  unfold bn
  rw [List.getD_eq_getElem?_getD, List.getD_eq_getElem?_getD, List.getElem?_append_left h]

theorem dsz_congr {l m : List UInt8} (hl : ¬ l.length = 0) (hm : ¬ m.length = 0) (h0 : bn m 0 = bn l 0) (h3 : bn l 0 = 3 → ¬ l.length < 5 ∧ ¬ m.length < 5 ∧ bn m 4 = bn l 4) (h5 : bn l 0 = 5 → ¬ l.length < 3 ∧ ¬ m.length < 3 ∧ bn m 2 = bn l 2) : dsz m = dsz l := by
  unfold dsz
  rw [if_neg hl, if_neg hm, h0]
  by_cases k1 : bn l 0 = 1
  · rw [if_pos k1, if_pos k1]
  · rw [if_neg k1, if_neg k1]
    by_cases k2 : bn l 0 = 2
    · rw [if_pos k2, if_pos k2]
    · rw [if_neg k2, if_neg k2]
      by_cases k3 : bn l 0 = 3
      · obtain ⟨a, b, c⟩ := h3 k3
        rw [if_pos k3, if_pos k3, if_neg a, if_neg b, c]
      · rw [if_neg k3, if_neg k3]
        by_cases k4 : bn l 0 = 4
        · rw [if_pos k4, if_pos k4]
        · rw [if_neg k4, if_neg k4]
          by_cases k5 : bn l 0 = 5
          · obtain ⟨a, b, c⟩ := h5 k5
            rw [if_pos k5, if_pos k5, if_neg a, if_neg b, c]
          · rw [if_neg k5, if_neg k5]

theorem dsz_3 {l : List UInt8} (h : bn l 0 = 3) (h0 : 0 < dsz l) : ¬ l.length < 5 := by
  intro hl
  unfold dsz at h0
  split at h0
  · omega
  · simp [h] at h0
theorem dsz_5 {l : List UInt8} (h : bn l 0 = 5) (h0 : 0 < dsz l) : ¬ l.length < 3 := by
  intro hl
  unfold dsz at h0
  split at h0
  · omega
  · simp [h] at h0
theorem dsz_pos {l : List UInt8} (h0 : 0 < dsz l) : ¬ l.length = 0 := by
  intro hl
  unfold dsz at h0
  rw [if_pos hl] at h0
  omega

/-- bytes behind a whole command do not change how long it is -/
theorem dsz_app {l s : List UInt8} (h0 : 0 < dsz l) : dsz (l ++ s) = dsz l := by
  have hl := dsz_pos h0
  refine dsz_congr hl (by rw [List.length_append]; omega) (bn_app (by omega)) (fun h => ?_) (fun h => ?_)
  · have := dsz_3 h h0
    exact ⟨this, by rw [List.length_append]; omega, bn_app (by omega)⟩
  · have := dsz_5 h h0
    exact ⟨this, by rw [List.length_append]; omega, bn_app (by omega)⟩

/-- how long the first command is; 0: that is not there to be seen yet -/
def pz (s : List UInt8) : Nat := dsz s

/-- any command, whole: its reply, its cost, the room behind it -/
def pd (R : Rm) (s : List UInt8) : List UInt8 × Int × Rm := ddo R s

theorem pz_n7 {s : List UInt8} (_h : ¬ bn s 0 = 7) : pz s = dsz s := rfl
theorem pd_n7 {R : Rm} {s : List UInt8} (_h : ¬ bn s 0 = 7) : pd R s = ddo R s := rfl
theorem pz_7 {s : List UInt8} (h : bn s 0 = 7) : pz s = 17 := by
  have h0 : ¬ s.length = 0 := fun q => by rw [bn_out (by omega)] at h; omega
  unfold pz dsz
  rw [if_neg h0, if_neg (by omega), if_neg (by omega), if_neg (by omega), if_neg (by omega), if_neg (by omega), if_neg (by omega), if_pos h]
theorem pd_7 {R : Rm} {s : List UInt8} (h : bn s 0 = 7) : pd R s = ([eb (der R s)], dwC R s, dwR R s) := by
  unfold pd ddo; rw [if_neg (by omega), if_neg (by omega), if_pos h]

theorem pz_pos {l : List UInt8} (h0 : 0 < pz l) : 0 < l.length := by
  have := dsz_pos h0; omega
theorem pz_app {l s : List UInt8} (h0 : 0 < pz l) : pz (l ++ s) = pz l := dsz_app h0
theorem pz_take {l : List UInt8} (h0 : 0 < pz l) (h1 : pz l ≤ l.length) : pz (l.take (pz l)) = pz l := dsz_take h0 h1

theorem pd_bd {R : Rm} (h : okR R) (s : List UInt8) (hs : s.length = pz s) : 1 ≤ (pd R s).2.1 ∧ (pd R s).2.1 ≤ 100000 ∧ 1 ≤ (pd R s).1.length ∧ (pd R s).1.length ≤ 256 ∧ okR (pd R s).2.2 := ddo_bd h s hs

/-- P8: may the first command be worked at, and how long is it? 0: no -/
def pnx (g : Gst) : Nat := if 1024 ≤ g.out.length then 0 else if g.wait.length < pz g.wait then 0 else pz g.wait
def pcm (g : Gst) : List UInt8 := g.wait.take (pnx g)
def pfin (g : Gst) : Gst := ⟨true, (pd g.rm (pcm g)).2.2, g.wait.drop (pnx g), 0, g.out ++ (pd g.rm (pcm g)).1⟩
def pcost (g : Gst) : Int := (pd g.rm (pcm g)).2.1

/-- P8 of one context: what it is behind a Run with this fuel, and how much of it is left -/
def pwork : Nat → Gst → Int → Gst × Int
  | 0, g, f => (g, f)
  | n + 1, g, f =>
    if pnx g = 0 then (g, f)
    else if f < pcost g - g.paid then ({ g with paid := g.paid + f }, 0)
    else pwork n (pfin g) (f - (pcost g - g.paid))

theorem pwork_none {n : Nat} {g : Gst} {f : Int} (h : pnx g = 0) : pwork n g f = (g, f) := by
  cases n with
  | zero => rfl
  | succ n => rw [pwork, if_pos h]
theorem pwork_stop {n : Nat} {g : Gst} {f : Int} (h : ¬ pnx g = 0) (hf : f < pcost g - g.paid) : pwork (n + 1) g f = ({ g with paid := g.paid + f }, 0) := by
  rw [pwork, if_neg h, if_pos hf]
theorem pwork_go {n : Nat} {g : Gst} {f : Int} (h : ¬ pnx g = 0) (hf : ¬ f < pcost g - g.paid) : pwork (n + 1) g f = pwork n (pfin g) (f - (pcost g - g.paid)) := by
  rw [pwork, if_neg h, if_neg hf]

theorem pnx_some {g : Gst} (h : ¬ pnx g = 0) : g.out.length < 1024 ∧ pnx g = pz g.wait ∧ 0 < pz g.wait ∧ pz g.wait ≤ g.wait.length := by
  unfold pnx at *
  split at h
  · exact absurd rfl h
  · split at h
    · exact absurd rfl h
    · rename_i h1 h2
      rw [if_neg h1, if_neg h2]
      exact ⟨by omega, rfl, by omega, by omega⟩

theorem pcm_len {g : Gst} (h : ¬ pnx g = 0) : (pcm g).length = pnx g ∧ (pcm g).length = pz (pcm g) := by
  obtain ⟨h1, h2, h3, h4⟩ := pnx_some h
  have e : (pcm g).length = pnx g := List.length_take_of_le (by omega)
  refine ⟨e, ?_⟩
  rw [e]
  unfold pcm
  rw [h2, pz_take h3 h4]

/-- a whole command waits; what it costs -/
def whl (g : Gst) : Prop := 0 < pz g.wait ∧ pz g.wait ≤ g.wait.length
def pc1 (g : Gst) : Int := (pd g.rm (g.wait.take (pz g.wait))).2.1

theorem pcost_eq {g : Gst} (h : ¬ pnx g = 0) : pcost g = pc1 g := by
  unfold pcost pc1 pcm; rw [(pnx_some h).2.1]

/-- what holds of every context that came about by calls -/
structure okP (g : Gst) : Prop where
  op : g.op = true
  rm : okR g.rm
  wt : g.wait.length ≤ 1024
  ot : g.out.length ≤ 1279
  p0 : 0 ≤ g.paid
  p2 : g.paid = 0 ∨ (whl g ∧ g.paid < pc1 g)

theorem whl_bd {g : Gst} (h : okR g.rm) (hw : whl g) : 1 ≤ pc1 g ∧ pc1 g ≤ 100000 := by
  have hl : (g.wait.take (pz g.wait)).length = pz (g.wait.take (pz g.wait)) := by rw [pz_take hw.1 hw.2]; exact List.length_take_of_le hw.2
  have := pd_bd h _ hl
  exact ⟨this.1, this.2.1⟩

theorem okP.cost {g : Gst} (h : okP g) (hn : ¬ pnx g = 0) : 1 ≤ pcost g ∧ pcost g ≤ 100000 ∧ g.paid < pcost g := by
  obtain ⟨h1, h2, h3, h4⟩ := pnx_some hn
  have hw : whl g := ⟨h3, h4⟩
  have hb := whl_bd h.rm hw
  rw [pcost_eq hn]
  refine ⟨hb.1, hb.2, ?_⟩
  rcases h.p2 with q | q
  · omega
  · exact q.2

theorem okP.fin {g : Gst} (h : okP g) (hn : ¬ pnx g = 0) : okP (pfin g) := by
  obtain ⟨h1, h2, h3, h4⟩ := pnx_some hn
  have hb := pd_bd h.rm (pcm g) (pcm_len hn).2
  refine ⟨rfl, hb.2.2.2.2, ?_, ?_, by show (0 : Int) ≤ 0; omega, .inl rfl⟩
  · show (g.wait.drop (pnx g)).length ≤ 1024
    rw [List.length_drop]; have := h.wt; omega
  · show (g.out ++ (pd g.rm (pcm g)).1).length ≤ 1279
    rw [List.length_append]; omega

theorem okP.stop {g : Gst} (h : okP g) (hn : ¬ pnx g = 0) {f : Int} (hf0 : 0 ≤ f) (hf : f < pcost g - g.paid) : okP { g with paid := g.paid + f } := by
  obtain ⟨h1, h2, h3, h4⟩ := pnx_some hn
  refine ⟨h.op, h.rm, h.wt, h.ot, ?_, .inr ⟨⟨h3, h4⟩, ?_⟩⟩
  · show 0 ≤ g.paid + f
    have := h.p0; omega
  · show g.paid + f < pc1 g
    rw [← pcost_eq hn]; omega

theorem okP.work {n : Nat} {g : Gst} {f : Int} (h : okP g) (hf : 0 ≤ f) : okP (pwork n g f).1 ∧ 0 ≤ (pwork n g f).2 ∧ (pwork n g f).2 ≤ f := by
  induction n generalizing g f with
  | zero => exact ⟨h, hf, Int.le_refl _⟩
  | succ n ih =>
    by_cases hn : pnx g = 0
    · rw [pwork_none hn]; exact ⟨h, hf, Int.le_refl _⟩
    · have hc := h.cost hn
      by_cases hs : f < pcost g - g.paid
      · rw [pwork_stop hn hs]; exact ⟨h.stop hn hf hs, Int.le_refl _, hf⟩
      · rw [pwork_go hn hs]
        obtain ⟨i1, i2, i3⟩ := ih (g := pfin g) (f := f - (pcost g - g.paid)) (h.fin hn) (by omega)
        exact ⟨i1, i2, by have := h.p0; omega⟩

def gsend (g : Gst) (s : List UInt8) : Gst := { g with wait := g.wait ++ s }
def gtake (g : Gst) : Gst := { g with out := [] }

theorem whl_send {g : Gst} {s : List UInt8} (h : whl g) : whl (gsend g s) ∧ pc1 (gsend g s) = pc1 g := by
  have e : pz (g.wait ++ s) = pz g.wait := pz_app h.1
  refine ⟨⟨?_, ?_⟩, ?_⟩
  · show 0 < pz (g.wait ++ s); rw [e]; exact h.1
  · show pz (g.wait ++ s) ≤ (g.wait ++ s).length; rw [e, List.length_append]; have := h.2; omega
  · show (pd g.rm ((g.wait ++ s).take (pz (g.wait ++ s)))).2.1 = _
    rw [e, List.take_append_of_le_length h.2]; rfl

theorem okP.send {g : Gst} (h : okP g) {s : List UInt8} (hl : g.wait.length + s.length ≤ 1024) : okP (gsend g s) := by
  refine ⟨h.op, h.rm, by show (g.wait ++ s).length ≤ 1024; rw [List.length_append]; exact hl, h.ot, h.p0, ?_⟩
  rcases h.p2 with q | q
  · exact .inl q
  · have := whl_send (s := s) q.1
    exact .inr ⟨this.1, by rw [this.2]; exact q.2⟩

theorem okP.take {g : Gst} (h : okP g) : okP (gtake g) := ⟨h.op, h.rm, h.wt, by show ([] : List UInt8).length ≤ 1279; simp, h.p0, h.p2⟩

end Go.Proofs.Ytbedkfgdhaajaab

namespace Go.Proofs.Ytbedkfgdhaajaab

/-- the error of a command -/
def per (R : Rm) (m : List UInt8) : Int :=
  if bn m 0 = 1 then can R.bs (bn m 1) (bn m 2) (bn m 3)
  else if bn m 0 = 5 then cer (bn m 1) (bn m 2) (m.drop 3)
  else if bn m 0 = 2 ∨ bn m 0 = 3 ∨ bn m 0 = 4 ∨ bn m 0 = 6 then (if thr R (bn m 1) = true then 0 else 2)
  else if bn m 0 = 7 then der R m
  else 1

section
variable {R : Rm} {m : List UInt8}
theorem per_1 (h : bn m 0 = 1) : per R m = can R.bs (bn m 1) (bn m 2) (bn m 3) := if_pos h
theorem per_5 (h : bn m 0 = 5) : per R m = cer (bn m 1) (bn m 2) (m.drop 3) := by unfold per; rw [if_neg (by omega), if_pos h]
theorem per_h (h : bn m 0 = 2 ∨ bn m 0 = 3 ∨ bn m 0 = 4 ∨ bn m 0 = 6) : per R m = if thr R (bn m 1) = true then 0 else 2 := by unfold per; rw [if_neg (by omega), if_neg (by omega), if_pos h]
theorem per_7 (h : bn m 0 = 7) : per R m = der R m := by unfold per; rw [if_neg (by omega), if_neg (by omega), if_neg (by omega), if_pos h]
theorem per_o (h1 : ¬ bn m 0 = 1) (h2 : ¬ bn m 0 = 2) (h3 : ¬ bn m 0 = 3) (h4 : ¬ bn m 0 = 4) (h5 : ¬ bn m 0 = 5) (h6 : ¬ bn m 0 = 6) (h7 : ¬ bn m 0 = 7) : per R m = 1 := by unfold per; rw [if_neg h1, if_neg h5, if_neg (by omega), if_neg h7]

theorem der_bd (R : Rm) (m : List UInt8) : 0 ≤ der R m ∧ der R m ≤ 8 := by unfold der; split <;> (try split) <;> (try split) <;> (try split) <;> omega
theorem cer_bd (k n : Nat) (s : List UInt8) : 0 ≤ cer k n s ∧ cer k n s ≤ 7 := by unfold cer; split <;> (try split) <;> (try split) <;> omega
theorem per_bd (R : Rm) (m : List UInt8) : 0 ≤ per R m ∧ per R m ≤ 8 := by
  have := der_bd R m
  have := can_bd R.bs (bn m 1) (bn m 2) (bn m 3)
  have := cer_bd (bn m 1) (bn m 2) (m.drop 3)
  unfold per
  split
  · omega
  · split
    · omega
    · split
      · split <;> omega
      · split <;> omega

theorem pd_1 (h : bn m 0 = 1) : pd R m = ([eb (can R.bs (bn m 1) (bn m 2) (bn m 3))], if can R.bs (bn m 1) (bn m 2) (bn m 3) = 0 then 1 + (bn m 2 : Int) * bn m 3 else 1, if can R.bs (bn m 1) (bn m 2) (bn m 3) = 0 then rCreate R (bn m 1) (bn m 2) (bn m 3) else R) := by
  rw [pd_n7 (by omega)]; unfold ddo; rw [if_pos h]
theorem pd_5 (h : bn m 0 = 5) : pd R m = ([eb (cer (bn m 1) (bn m 2) (m.drop 3))], if cer (bn m 1) (bn m 2) (m.drop 3) = 0 then 1 + (bn m 2 : Int) else 1, if cer (bn m 1) (bn m 2) (m.drop 3) = 0 then rCode R (bn m 1) (m.drop 3) else R) := by
  rw [pd_n7 (by omega)]; unfold ddo; rw [if_neg (by omega), if_pos h]
theorem pd_no (h : bn m 0 = 2 ∨ bn m 0 = 3 ∨ bn m 0 = 4 ∨ bn m 0 = 6) (ht : ¬ thr R (bn m 1) = true) : pd R m = ([2], 1, R) := by
  rw [pd_n7 (by omega)]; unfold ddo
  rw [if_neg (by omega), if_neg (by omega), if_neg (by omega), if_neg (by omega), if_pos (by simpa using ht)]
theorem pd_2 (h : bn m 0 = 2) (ht : thr R (bn m 1) = true) : pd R m = ([0], 1, rDrop R (bn m 1)) := by
  rw [pd_n7 (by omega)]; unfold ddo
  rw [if_neg (by omega), if_neg (by omega), if_neg (by omega), if_neg (by omega), if_neg (by rw [ht]; simp), if_pos h]
theorem pd_3 (h : bn m 0 = 3) (ht : thr R (bn m 1) = true) : pd R m = ([0], 1 + (bn m 4 : Int), rBytes R (bn m 1) (wrt (R.bs (bn m 1)) (wrd m 2) (m.drop 5))) := by
  rw [pd_n7 (by omega)]; unfold ddo
  rw [if_neg (by omega), if_neg (by omega), if_neg (by omega), if_neg (by omega), if_neg (by rw [ht]; simp), if_neg (by omega), if_pos h]
theorem pd_4 (h : bn m 0 = 4) (ht : thr R (bn m 1) = true) : pd R m = (0 :: rdb (R.bs (bn m 1)) (wrd m 2) (bn m 4), 1 + (bn m 4 : Int), R) := by
  rw [pd_n7 (by omega)]; unfold ddo
  rw [if_neg (by omega), if_neg (by omega), if_neg (by omega), if_neg (by omega), if_neg (by rw [ht]; simp), if_neg (by omega), if_neg (by omega), if_pos h]
theorem pd_6 (h : bn m 0 = 6) (ht : thr R (bn m 1) = true) : pd R m = ([0], 1 + ((R.bs (bn m 1)).length : Int), rBytes R (bn m 1) (List.replicate (R.bs (bn m 1)).length (m.getD 2 0))) := by
  rw [pd_n7 (by omega)]; unfold ddo
  rw [if_neg (by omega), if_neg (by omega), if_neg (by omega), if_neg (by omega), if_neg (by rw [ht]; simp), if_neg (by omega), if_neg (by omega), if_neg (by omega)]
theorem pd_o (h1 : ¬ bn m 0 = 1) (h2 : ¬ bn m 0 = 2) (h3 : ¬ bn m 0 = 3) (h4 : ¬ bn m 0 = 4) (h5 : ¬ bn m 0 = 5) (h6 : ¬ bn m 0 = 6) (h7 : ¬ bn m 0 = 7) : pd R m = ([1], 1, R) := by
  rw [pd_n7 h7]; unfold ddo
  rw [if_neg h1, if_neg h5, if_neg h7, if_pos (by omega)]

/-- a command with an error -/
theorem pd_bad (h : ¬ per R m = 0) : pd R m = ([eb (per R m)], 1, R) := by
  by_cases h1 : bn m 0 = 1
  · rw [per_1 h1] at h ⊢; rw [pd_1 h1, if_neg h, if_neg h]
  · by_cases h5 : bn m 0 = 5
    · rw [per_5 h5] at h ⊢; rw [pd_5 h5, if_neg h, if_neg h]
    · by_cases hh : bn m 0 = 2 ∨ bn m 0 = 3 ∨ bn m 0 = 4 ∨ bn m 0 = 6
      · rw [per_h hh] at h ⊢
        split at h
        · exact absurd rfl h
        · rename_i ht
          rw [if_neg ht, pd_no hh ht]; rfl
      · by_cases h7 : bn m 0 = 7
        · rw [per_7 h7] at h ⊢
          rw [pd_7 h7, show dwC R m = 1 from if_neg h, show dwR R m = R from if_neg h]
        · rw [per_o h1 (by omega) (by omega) (by omega) h5 (by omega) h7, pd_o h1 (by omega) (by omega) (by omega) h5 (by omega) h7]; rfl

theorem per_thr (h : bn m 0 = 2 ∨ bn m 0 = 3 ∨ bn m 0 = 4 ∨ bn m 0 = 6) (h0 : per R m = 0) : thr R (bn m 1) = true := by
  rw [per_h h] at h0
  split at h0
  · assumption
  · omega

/-- what a command replies begins with its error -/
theorem pd_head (R : Rm) (m : List UInt8) : (pd R m).1 = eb (per R m) :: (pd R m).1.tail := by
  by_cases h : per R m = 0
  · by_cases h1 : bn m 0 = 1
    · rw [pd_1 h1, per_1 h1]; rfl
    · by_cases h5 : bn m 0 = 5
      · rw [pd_5 h5, per_5 h5]; rfl
      · by_cases hh : bn m 0 = 2 ∨ bn m 0 = 3 ∨ bn m 0 = 4 ∨ bn m 0 = 6
        · have ht := per_thr hh h
          rw [h]
          rcases hh with k | k | k | k
          · rw [pd_2 k ht]; rfl
          · rw [pd_3 k ht]; rfl
          · rw [pd_4 k ht]; rfl
          · rw [pd_6 k ht]; rfl
        · by_cases h7 : bn m 0 = 7
          · rw [pd_7 h7, per_7 h7]; rfl
          · rw [per_o h1 (by omega) (by omega) (by omega) h5 (by omega) h7] at h; omega
  · rw [pd_bad h]; rfl
end

end Go.Proofs.Ytbedkfgdhaajaab
