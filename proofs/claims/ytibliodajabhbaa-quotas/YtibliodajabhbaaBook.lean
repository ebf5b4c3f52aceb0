/- Plain facts and small walks for Quotas: one command asked of an idle context; the statement's book. -/
import Derived.Test.YtibliodajabhbaaAsked
namespace Go.Proofs.Ytibliodajabhbaa
open Go.RowKit

theorem tot_congr {f g : Nat → List UInt8} {n : Nat} (h : ∀ k, k < n → f k = g k) : tot f n = tot g n := by
  induction n with
  | zero => rfl
  | succ n ih => simp only [tot]; rw [ih (fun k hk => h k (by omega)), h n (by omega)]

theorem tot_upd {f : Nat → List UInt8} {k : Nat} {l : List UInt8} {n : Nat} (h : k < n) : tot (updA f k l) n = tot f n - pg (f k).length + pg l.length := by
  induction n with
  | zero => omega
  | succ n ih =>
    simp only [tot]
    by_cases e : k = n
    · subst e
      rw [updA_same, tot_congr (f := updA f k l) (g := f) (fun j hj => updA_other _ _ (by omega))]
      omega
    · rw [ih (by omega), updA_other _ _ (fun q => e q.symm)]
      omega

theorem can_congr {f g : Nat → List UInt8} (hfg : ∀ k, k < 8 → f k = g k) (h a b : Nat) : can f h a b = can g h a b := by
  unfold can
  rw [tot_congr hfg]
  by_cases h8 : 8 ≤ h
  · rw [if_pos h8, if_pos h8]
  · rw [if_neg h8, if_neg h8, hfg h (by omega)]

/-- nothing waits -/
def idle (C : Ctx) : Prop := C.by_ 8 = [] ∧ C.by_ 9 = [] ∧ C.due = 0 ∧ smallC C

theorem idle.good {C : Ctx} (h : idle C) : good C := by
  obtain ⟨h1, h2, h3, h4⟩ := h
  exact ⟨h4, by rw [h1]; simp, by rw [h2]; simp, by omega, by omega⟩

/-- the bytes m wait -/
def sent (C : Ctx) (m : List UInt8) : Ctx := { C with by_ := updA C.by_ 8 (C.by_ 8 ++ m) }
/-- .. and have been done, the replies taken -/
def aft (C : Ctx) (m : List UInt8) : Ctx := { (runs 1025 (sent C m) 1048576).1 with by_ := updA (runs 1025 (sent C m) 1048576).1.by_ 9 [] }

theorem sent8 {C : Ctx} (h : idle C) (m : List UInt8) : (sent C m).by_ 8 = m := by show C.by_ 8 ++ m = m; rw [h.1]; rfl
theorem sent9 {C : Ctx} (h : idle C) (m : List UInt8) : (sent C m).by_ 9 = [] := h.2.1
theorem sent_lo (C : Ctx) (m : List UInt8) {k : Nat} (hk : k < 8) : (sent C m).by_ k = C.by_ k := updA_other _ _ (by omega)

theorem sent_can (C : Ctx) (m : List UInt8) (h a b : Nat) : can (sent C m).by_ h a b = can C.by_ h a b := can_congr (fun _ hk => sent_lo C m hk) h a b

theorem sent_cst (C : Ctx) (m n : List UInt8) : cst (sent C m) n = cst C n := by unfold cst; rw [sent_can]

theorem sent_dn (C : Ctx) (m n : List UInt8) : (dn (sent C m) n).1 = (dn C n).1 ∧ ∀ k, k < 8 → (dn (sent C m) n).2.by_ k = (dn C n).2.by_ k := by
  unfold dn
  rw [sent_can]
  by_cases h1 : bn n 0 = 1
  · rw [if_pos h1, if_pos h1]
    by_cases hc : can C.by_ (bn n 1) (bn n 2) (bn n 3) = 0
    · rw [if_pos hc, if_pos hc]
      refine ⟨rfl, fun k hk => ?_⟩
      show updA (sent C m).by_ _ _ k = updA C.by_ _ _ k
      unfold updA
      rw [sent_lo C m hk]
    · rw [if_neg hc, if_neg hc]
      exact ⟨rfl, fun k hk => sent_lo C m hk⟩
  · rw [if_neg h1, if_neg h1]
    by_cases h2 : bn n 0 = 2
    · rw [if_pos h2, if_pos h2]
      by_cases h8 : bn n 1 < 8
      · rw [sent_lo C m h8]
        by_cases hc : bn n 1 < 8 ∧ 0 < (C.by_ (bn n 1)).length
        · rw [if_pos hc, if_pos hc]
          refine ⟨rfl, fun k hk => ?_⟩
          show updA (sent C m).by_ _ _ k = updA C.by_ _ _ k
          unfold updA
          rw [sent_lo C m hk]
        · rw [if_neg hc, if_neg hc]
          exact ⟨rfl, fun k hk => sent_lo C m hk⟩
      · rw [if_neg (fun q => h8 q.1), if_neg (fun q => h8 q.1)]
        exact ⟨rfl, fun k hk => sent_lo C m hk⟩
    · rw [if_neg h2, if_neg h2]
      exact ⟨rfl, fun k hk => sent_lo C m hk⟩

theorem runs_one {C : Ctx} {m : List UInt8} (h : idle C) (hm : m.length = cln (bn m 0)) : runs 1025 (sent C m) 1048576 = (fin (sent C m) m, 1048576 - cst C m) := by
  have hn : nxt (sent C m) = m := by
    unfold nxt
    rw [sent9 h, sent8 h, if_neg (by simp)]
    unfold fst_
    rw [if_neg (by omega), ← hm, List.take_length]
  have hp := cln_bd (bn m 0)
  have ho : owes (sent C m) (nxt (sent C m)) = cst C m := by
    unfold owes
    rw [if_pos (show (sent C m).due = 0 from h.2.2.1), hn, sent_cst]
  have hb := cst_bd C m
  rw [runs_go (n := 1024) (by rw [hn]; omega) (by rw [ho]; omega), ho, hn]
  refine runs_none ?_
  unfold nxt
  rw [fin_wait, sent8 h, List.drop_length]
  split
  · rfl
  · unfold fst_
    rw [if_pos (by have := cln_bd (bn [] 0); simp only [List.length_nil]; omega)]
    rfl

theorem aft_idle {C : Ctx} {m : List UInt8} (h : idle C) (hm : m.length = cln (bn m 0)) : idle (aft C m) ∧ ∀ k, k < 8 → (aft C m).by_ k = (dn C m).2.by_ k := by
  have hr := runs_one h hm
  have lo : ∀ k, k < 8 → (aft C m).by_ k = (dn C m).2.by_ k := by
    intro k hk
    show updA (runs 1025 (sent C m) 1048576).1.by_ 9 [] k = _
    rw [hr, updA_other _ _ (by omega)]
    show (fin (sent C m) m).by_ k = _
    rw [fin_obj _ _ hk, (sent_dn C m m).2 k hk]
  refine ⟨⟨?_, (updA_same _ _ _ : updA (runs 1025 (sent C m) 1048576).1.by_ 9 [] 9 = []), ?_, fun k hk => ?_⟩, lo⟩
  · show updA (runs 1025 (sent C m) 1048576).1.by_ 9 [] 8 = _
    rw [hr, updA_other _ _ (by omega)]
    show (fin (sent C m) m).by_ 8 = _
    rw [fin_wait, sent8 h, List.drop_length]
  · show (runs 1025 (sent C m) 1048576).1.due = 0
    rw [hr]
    rfl
  · rw [lo k hk]; exact dn_small h.2.2.2 k hk

/-- one command, asked of an idle context 0 -/
theorem ask_as (G : Nat → Prop) (g : Nat) (C : Ctx) (m : List UInt8) (e cost : Int) (w : World) (hS : Sv w G g (one C)) (h : idle C) (hm : m.length = cln (bn m 0)) (he : (dn C m).1 = e) (hk : cst C m = cost) :
    Calls Try.prog 26 #[.pointer (some ⟨g, 0, none⟩), .int .i64 0, .string (str m), .string (str (byts [e])), .int .i64 cost] w fun e w' => e = .returned (.bool true) ∧ SGoes G w w' g (one (aft C m)) := by
  subst he hk
  have hr := runs_one h hm
  have hp := cln_bd (bn m 0)
  have := asked_any G g (one C) 0 C (sent C m) (str m) (str (byts [(dn C m).1])) (cst C m) w hS (by omega) rfl h.good (by rw [h.1, str_size]; simp; omega) rfl ?_ ?_
  · refine this.mono ?_
    rintro e w' ⟨h1, h2⟩
    refine ⟨h1, ?_⟩
    have e1 : updA (one C) 0 (some { (runs 1025 (sent C m) 1048576).1 with by_ := updA (runs 1025 (sent C m) 1048576).1.by_ 9 [] }) = one (aft C m) := updA_updA _ _ _ _
    rw [e1] at h2
    exact h2
  · rw [hr]
    show str ((fin (sent C m) m).by_ 9) = _
    rw [fin_out, sent9 h, (sent_dn C m m).1]
    rfl
  · rw [hr]
    show 1048576 - (1048576 - cst C m) = cst C m
    omega

theorem tots_one (C : Ctx) : tots (one C) 8 = tot C.by_ 8 := by
  have : ∀ n, tots (one C) (n + 1) = tot C.by_ 8 := by
    intro n
    induction n with
    | zero => rw [tots_some (C := C) rfl]; simp [tots]
    | succ n ih => rw [tots_none (k := n + 1) (updA_other _ _ (by omega)), ih]
  exact this 7

theorem kfree (G : Nat → Prop) (g : Nat) (C : Ctx) (w : World) (hS : Sv w G g (one C)) (h : idle C) :
    Calls Try.prog 27 #[.pointer (some ⟨g, 0, none⟩)] w fun e w' => e = .returned (.int .i64 (96 - tot C.by_ 8)) ∧ Below w.heap.size w w' := by
  have := free_any G g (one C) w hS (fun j D hj hD => by
    by_cases e : j = 0
    · subst e; cases hD; exact h.good
    · unfold one at hD; rw [updA_other _ _ e] at hD; cases hD)
  rw [tots_one] at this
  exact this

/-- the statement's book of pages lies at block b -/
structure Bk (W : World) (b : Nat) (f : Nat → List UInt8) : Prop where
  ce : ∀ j, j < 8 → W.cell? ⟨b, j, none⟩ = some (.int .i64 (pg (f j).length))
  fz : ∀ j, W.frozen? ⟨b, j, none⟩ = false
  lt : b < W.heap.size

section
variable {W W' : World} {b : Nat} {f g : Nat → List UInt8}
theorem Bk.below (h : Bk W b f) (hb : Below W.heap.size W W') : Bk W' b f :=
  ⟨fun j hj => (hb.cell (p := ⟨b, j, none⟩) h.lt).trans (h.ce j hj), fun j => (hb.frozen (p := ⟨b, j, none⟩) h.lt).trans (h.fz j), Nat.lt_of_lt_of_le h.lt hb.size⟩
theorem Bk.only {G : Nat → Prop} (h : Bk W b f) (ho : Only G W W') (hn : ¬ G b) : Bk W' b f :=
  ⟨fun j hj => (ho.cell h.lt hn j).trans (h.ce j hj), fun j => (ho.frozen h.lt hn j).trans (h.fz j), Nat.lt_of_lt_of_le h.lt ho.size⟩
theorem Bk.set (h : Bk W b f) {k : Nat} (hk : k < 8) {v : Int} {l : List UInt8} (hv : v = pg l.length) : Bk (W.setCell ⟨b, k, none⟩ (.int .i64 v)) b (updA f k l) := by
  subst hv
  refine ⟨fun j hj => ?_, fun j => by rw [World.frozen?_setCell]; exact h.fz j, by rw [sz_setCell]; exact h.lt⟩
  by_cases e : j = k
  · subst e; rw [updA_same]; exact World.cell?_setCell_same _ _ _ (h.ce j hj)
  · rw [updA_other _ _ e, World.cell?_setCell_other _ _ _ _ (addr_ne (fun q => e q.symm))]; exact h.ce j hj
theorem Bk.congr (h : Bk W b f) (hfg : ∀ j, j < 8 → f j = g j) : Bk W b g := ⟨fun j hj => by rw [← hfg j hj]; exact h.ce j hj, h.fz, h.lt⟩
end

theorem text1 (x : Int) (t : TypeId) (w : World) (b : Nat) (hbw : b = w.heap.size) (h : 0 ≤ x ∧ x ≤ 255) :
    Calls Try.prog 24 #[.slice (some ⟨b, 0, none⟩) 1 1] (w.alloc (.cells #[.int .i64 x] t)) fun e w' => e = .returned (.string (str (byts [x]))) ∧ Below w.heap.size w w' := by
  subst hbw
  refine (text_any w.heap.size 1 [x] (w.alloc (.cells #[.int .i64 x] t)) (by simp) (by simp) (fun j hj => ?_) (fun j hj => ?_)).mono ?_
  · have : j = 0 := by simp at hj; omega
    subst this
    rw [World.cell?_alloc_at _ _ _ _ rfl]; rfl
  · have : j = 0 := by simp at hj; omega
    subst this
    exact h
  · rintro e w' ⟨rfl, hb⟩
    exact ⟨rfl, ((Below.refl _ _).alloc (Nat.le_refl _) _).trans (hb.mono (by simp))⟩

theorem text2 (x y : Int) (t : TypeId) (w : World) (b : Nat) (hbw : b = w.heap.size) (h : 0 ≤ x ∧ x ≤ 255) (k : 0 ≤ y ∧ y ≤ 255) :
    Calls Try.prog 24 #[.slice (some ⟨b, 0, none⟩) 2 2] (w.alloc (.cells #[.int .i64 x, .int .i64 y] t)) fun e w' => e = .returned (.string (str (byts [x, y]))) ∧ Below w.heap.size w w' := by
  subst hbw
  refine (text_any w.heap.size 2 [x, y] (w.alloc (.cells #[.int .i64 x, .int .i64 y] t)) (by simp) (by simp) (fun j hj => ?_) (fun j hj => ?_)).mono ?_
  · rcases (by simp at hj; omega : j = 0 ∨ j = 1) with rfl | rfl <;> (rw [World.cell?_alloc_at _ _ _ _ rfl]; rfl)
  · rcases (by simp at hj; omega : j = 0 ∨ j = 1) with rfl | rfl
    · exact h
    · exact k
  · rintro e w' ⟨rfl, hb⟩
    exact ⟨rfl, ((Below.refl _ _).alloc (Nat.le_refl _) _).trans (hb.mono (by simp))⟩

theorem text4 (x y u v : Int) (t : TypeId) (w : World) (b : Nat) (hbw : b = w.heap.size) (h : 0 ≤ x ∧ x ≤ 255) (k : 0 ≤ y ∧ y ≤ 255) (h' : 0 ≤ u ∧ u ≤ 255) (k' : 0 ≤ v ∧ v ≤ 255) :
    Calls Try.prog 24 #[.slice (some ⟨b, 0, none⟩) 4 4] (w.alloc (.cells #[.int .i64 x, .int .i64 y, .int .i64 u, .int .i64 v] t)) fun e w' => e = .returned (.string (str (byts [x, y, u, v]))) ∧ Below w.heap.size w w' := by
  subst hbw
  refine (text_any w.heap.size 4 [x, y, u, v] (w.alloc (.cells #[.int .i64 x, .int .i64 y, .int .i64 u, .int .i64 v] t)) (by simp) (by simp) (fun j hj => ?_) (fun j hj => ?_)).mono ?_
  · rcases (by simp at hj; omega : j = 0 ∨ j = 1 ∨ j = 2 ∨ j = 3) with rfl | rfl | rfl | rfl <;> (rw [World.cell?_alloc_at _ _ _ _ rfl]; rfl)
  · rcases (by simp at hj; omega : j = 0 ∨ j = 1 ∨ j = 2 ∨ j = 3) with rfl | rfl | rfl | rfl
    · exact h
    · exact k
    · exact h'
    · exact k'
  · rintro e w' ⟨rfl, hb⟩
    exact ⟨rfl, ((Below.refl _ _).alloc (Nat.le_refl _) _).trans (hb.mono (by simp))⟩

end Go.Proofs.Ytibliodajabhbaa
