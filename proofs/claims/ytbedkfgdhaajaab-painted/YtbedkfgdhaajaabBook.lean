/- Plain facts and small walks: one command asked of an idle context; the statement's book. -/
import Derived.Test.YtbedkfgdhaajaabAsked
namespace Go.Proofs.Ytbedkfgdhaajaab
open Go.RowKit

/-- a context in which nothing waits -/
def gI (R : Rm) : Gst := ⟨true, R, [], 0, []⟩

theorem pwork_one {R : Rm} {m : List UInt8} (h : okR R) (hm : m.length = pz m) (h0 : 0 < m.length) : pwork 1025 (gsend (gI R) m) 1048576 = (⟨true, (pd R m).2.2, [], 0, (pd R m).1⟩, 1048576 - (pd R m).2.1) := by
  have e : gsend (gI R) m = ⟨true, R, m, 0, []⟩ := by unfold gsend gI; rfl
  have hn : pnx ⟨true, R, m, 0, []⟩ = m.length := by
    unfold pnx
    show (if 1024 ≤ ([] : List UInt8).length then 0 else if m.length < pz m then 0 else pz m) = _
    rw [if_neg (by simp), if_neg (by omega), hm]
  have hc : pcm ⟨true, R, m, 0, []⟩ = m := by
    unfold pcm
    rw [hn]
    exact List.take_length
  have hb := pd_bd h m hm
  have hk : pcost ⟨true, R, m, 0, []⟩ = (pd R m).2.1 := by unfold pcost; rw [hc]
  have hf : pfin ⟨true, R, m, 0, []⟩ = ⟨true, (pd R m).2.2, [], 0, (pd R m).1⟩ := by
    unfold pfin
    rw [hc, hn]
    show (⟨true, (pd R m).2.2, m.drop m.length, 0, [] ++ (pd R m).1⟩ : Gst) = _
    rw [List.drop_length]
    rfl
  rw [e, pwork_go (n := 1024) (by rw [hn]; omega) (by rw [hk]; show ¬ (1048576 : Int) < (pd R m).2.1 - 0; omega), hf, hk]
  have : pnx ⟨true, (pd R m).2.2, [], 0, (pd R m).1⟩ = 0 := by
    unfold pnx
    split
    · rfl
    · split <;> rfl
  rw [pwork_none this]
  congr 1
  show 1048576 - ((pd R m).2.1 - 0) = _
  omega

theorem aft_one {R : Rm} {m : List UInt8} (h : okR R) (hm : m.length = pz m) (h0 : 0 < m.length) : aft (gI R) m = gI (pd R m).2.2 ∧ aftC (gI R) m = (pd R m).2.1 ∧ aftR (gI R) m = (pd R m).1 := by
  have hr := pwork_one h hm h0
  refine ⟨?_, ?_, ?_⟩
  · unfold aft; rw [hr]; rfl
  · unfold aftC; rw [hr]; simp only; omega
  · unfold aftR; rw [hr]

theorem one_one (a b : Gst) : updA (one a) 0 (some b) = one b := updA_updA _ _ _ _

/-- one command, asked of an idle context 0 -/
theorem ask_one (G : Nat → Prop) (g : Nat) (x : Int) (R : Rm) (m : List UInt8) (mv want : ByteArray) (cost : Int) (w : World) (hS : Sv w G g (one (gI R))) (h : okR R) (hx : x = 0) (hmv : str m = mv) (hm : m.length = pz m) (h0 : 0 < m.length) (h1 : m.length ≤ 1024) (he : str (pd R m).1 = want) (hk : (pd R m).2.1 = cost) :
    Calls Try.prog 9 #[.pointer (some ⟨g, 0, none⟩), .int .i64 x, .string mv, .string want, .int .i64 cost] w fun e w' => e = .returned (.bool true) ∧ SGoes G w w' g (one (gI (pd R m).2.2)) := by
  subst hmv
  obtain ⟨a1, a2, a3⟩ := aft_one h hm h0
  have := asked_any G g (one (gI R)) 0 x (gI R) (str m) want cost w hS hx (by omega) rfl (by rw [str_size]; show ([] : List UInt8).length + m.length ≤ 1024; simp; omega) (by rw [str_data, a3]; exact he) (by rw [str_data, a2]; exact hk)
  refine this.mono ?_
  rintro e w' ⟨h1, h2⟩
  rw [str_data, a1, one_one] at h2
  exact ⟨h1, h2⟩

theorem tots_one (C : Gst) : tots (one C) 8 = tot C.rm.bs 8 := by
  have : ∀ n, tots (one C) (n + 1) = tot C.rm.bs 8 := by
    intro n
    induction n with
    | zero => rw [tots_some (C := C) rfl]; simp [tots]
    | succ n ih => rw [tots_none (k := n + 1) (updA_other _ _ (by omega)), ih]
  exact this 7

theorem kfree (G : Nat → Prop) (g : Nat) (C : Gst) (w : World) (hS : Sv w G g (one C)) :
    Calls Try.prog 45 #[.pointer (some ⟨g, 0, none⟩)] w fun e w' => e = .returned (.int .i64 (96 - tot C.rm.bs 8)) ∧ Below w.heap.size w w' := by
  have := free_any G g (one C) w hS
  rw [tots_one] at this
  exact this

/-- Create and Drop -/
def Whole (m : List UInt8) : Prop := m.length = pz m ∧ 0 < m.length ∧ m.length ≤ 1024 ∧ (bn m 0 = 1 ∨ bn m 0 = 2)
def dn (R : Rm) (m : List UInt8) : Int × Rm := (per R m, (pd R m).2.2)
def cst (R : Rm) (m : List UInt8) : Int := (pd R m).2.1
def aftM (R : Rm) (m : List UInt8) : Rm := (pd R m).2.2

theorem pd_single {R : Rm} {m : List UInt8} (h : bn m 0 = 1 ∨ bn m 0 = 2) : (pd R m).1 = [eb (per R m)] := by
  by_cases h0 : per R m = 0
  · rcases h with h | h
    · rw [pd_1 h, per_1 h]
    · rw [pd_2 h (per_thr (by omega) h0), h0]; rfl
  · rw [pd_bad h0]

theorem aft_idle {R : Rm} {m : List UInt8} (h : okR R) (hm : Whole m) : okR (aftM R m) ∧ ∀ k, k < 8 → (aftM R m).bs k = (dn R m).2.bs k := ⟨(pd_bd h m hm.1).2.2.2.2, fun _ _ => rfl⟩

theorem ask_as (G : Nat → Prop) (g : Nat) (R : Rm) (m : List UInt8) (e cost : Int) (w : World) (hS : Sv w G g (one (gI R))) (h : okR R) (hm : Whole m) (he : (dn R m).1 = e) (hk : cst R m = cost) :
    Calls Try.prog 9 #[.pointer (some ⟨g, 0, none⟩), .int .i64 0, .string (str m), .string (str (byts [e])), .int .i64 cost] w fun e w' => e = .returned (.bool true) ∧ SGoes G w w' g (one (gI (aftM R m))) :=
  ask_one G g 0 R m (str m) (str (byts [e])) cost w hS h rfl rfl hm.1 hm.2.1 hm.2.2.1 (by rw [pd_single hm.2.2.2, ← he]; rfl) hk

/-- the statement's book of pages lies at block b -/
structure Bk (W : World) (b : Nat) (f : Nat → List UInt8) : Prop where
  ce : ∀ j, j < 8 → W.cell? ⟨b, j, none⟩ = some (.int .i64 (pg (f j).length))
  fz : ∀ j, W.frozen? ⟨b, j, none⟩ = false
  lt : b < W.heap.size

section
variable {W W' : World} {b : Nat} {f g : Nat → List UInt8}
theorem Bk.below (h : Bk W b f) (hb : Below W.heap.size W W') : Bk W' b f :=
  ⟨fun j hj => (hb.cell (p := ⟨b, j, none⟩) h.lt).trans (h.ce j hj), fun j => (hb.frozen (p := ⟨b, j, none⟩) h.lt).trans (h.fz j), Nat.lt_of_lt_of_le h.lt hb.size⟩
theorem Bk.only {G : Nat → Prop} (h : Bk W b f) (ho : Only G W W') (hn : ¬ G b) : Bk W' b f :=
  ⟨fun j hj => (ho.cell h.lt hn j).trans (h.ce j hj), fun j => (ho.frozen h.lt hn j).trans (h.fz j), Nat.lt_of_lt_of_le h.lt ho.size⟩
theorem Bk.set (h : Bk W b f) {k : Nat} (hk : k < 8) {v : Int} {l : List UInt8} (hv : v = pg l.length) : Bk (W.setCell ⟨b, k, none⟩ (.int .i64 v)) b (updA f k l) := by
  subst hv
  refine ⟨fun j hj => ?_, fun j => by rw [World.frozen?_setCell]; exact h.fz j, by rw [sz_setCell]; exact h.lt⟩
  by_cases e : j = k
  · subst e; rw [updA_same]; exact World.cell?_setCell_same _ _ _ (h.ce j hj)
  · rw [updA_other _ _ e, World.cell?_setCell_other _ _ _ _ (addr_ne (fun q => e q.symm))]; exact h.ce j hj
theorem Bk.congr (h : Bk W b f) (hfg : ∀ j, j < 8 → f j = g j) : Bk W b g := ⟨fun j hj => by rw [← hfg j hj]; exact h.ce j hj, h.fz, h.lt⟩
end

theorem text1 (x : Int) (t : TypeId) (w : World) (b : Nat) (hbw : b = w.heap.size) (h : 0 ≤ x ∧ x ≤ 255) :
    Calls Try.prog 8 #[.slice (some ⟨b, 0, none⟩) 1 1] (w.alloc (.cells #[.int .i64 x] t)) fun e w' => e = .returned (.string (str (byts [x]))) ∧ Below w.heap.size w w' := by
  subst hbw
  refine (text_any w.heap.size 1 [x] (w.alloc (.cells #[.int .i64 x] t)) (by simp) (by simp) (fun j hj => ?_) (fun j hj => ?_)).mono ?_
  · have : j = 0 := by simp at hj; omega
    subst this
    rw [World.cell?_alloc_at _ _ _ _ rfl]; rfl
  · have : j = 0 := by simp at hj; omega
    subst this
    exact h
  · rintro e w' ⟨rfl, hb⟩
    exact ⟨rfl, ((Below.refl _ _).alloc (Nat.le_refl _) _).trans (hb.mono (by simp))⟩

theorem text2 (x y : Int) (t : TypeId) (w : World) (b : Nat) (hbw : b = w.heap.size) (h : 0 ≤ x ∧ x ≤ 255) (k : 0 ≤ y ∧ y ≤ 255) :
    Calls Try.prog 8 #[.slice (some ⟨b, 0, none⟩) 2 2] (w.alloc (.cells #[.int .i64 x, .int .i64 y] t)) fun e w' => e = .returned (.string (str (byts [x, y]))) ∧ Below w.heap.size w w' := by
  subst hbw
  refine (text_any w.heap.size 2 [x, y] (w.alloc (.cells #[.int .i64 x, .int .i64 y] t)) (by simp) (by simp) (fun j hj => ?_) (fun j hj => ?_)).mono ?_
  · rcases (by simp at hj; omega : j = 0 ∨ j = 1) with rfl | rfl <;> (rw [World.cell?_alloc_at _ _ _ _ rfl]; rfl)
  · rcases (by simp at hj; omega : j = 0 ∨ j = 1) with rfl | rfl
    · exact h
    · exact k
  · rintro e w' ⟨rfl, hb⟩
    exact ⟨rfl, ((Below.refl _ _).alloc (Nat.le_refl _) _).trans (hb.mono (by simp))⟩

theorem text4 (x y u v : Int) (t : TypeId) (w : World) (b : Nat) (hbw : b = w.heap.size) (h : 0 ≤ x ∧ x ≤ 255) (k : 0 ≤ y ∧ y ≤ 255) (h' : 0 ≤ u ∧ u ≤ 255) (k' : 0 ≤ v ∧ v ≤ 255) :
    Calls Try.prog 8 #[.slice (some ⟨b, 0, none⟩) 4 4] (w.alloc (.cells #[.int .i64 x, .int .i64 y, .int .i64 u, .int .i64 v] t)) fun e w' => e = .returned (.string (str (byts [x, y, u, v]))) ∧ Below w.heap.size w w' := by
  subst hbw
  refine (text_any w.heap.size 4 [x, y, u, v] (w.alloc (.cells #[.int .i64 x, .int .i64 y, .int .i64 u, .int .i64 v] t)) (by simp) (by simp) (fun j hj => ?_) (fun j hj => ?_)).mono ?_
  · rcases (by simp at hj; omega : j = 0 ∨ j = 1 ∨ j = 2 ∨ j = 3) with rfl | rfl | rfl | rfl <;> (rw [World.cell?_alloc_at _ _ _ _ rfl]; rfl)
  · rcases (by simp at hj; omega : j = 0 ∨ j = 1 ∨ j = 2 ∨ j = 3) with rfl | rfl | rfl | rfl
    · exact h
    · exact k
    · exact h'
    · exact k'
  · rintro e w' ⟨rfl, hb⟩
    exact ⟨rfl, ((Below.refl _ _).alloc (Nat.le_refl _) _).trans (hb.mono (by simp))⟩

end Go.Proofs.Ytbedkfgdhaajaab
