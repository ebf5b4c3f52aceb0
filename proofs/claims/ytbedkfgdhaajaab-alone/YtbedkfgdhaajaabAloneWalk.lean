/- Rows.AloneSaid (P2): the walk of the statement. -/
import Derived.Test.YtbedkfgdhaajaabPiecesWalk
import Derived.Test.YtbedkfgdhaajaabDoes
namespace Go.Proofs.Ytbedkfgdhaajaab
open Go.RowKit

theorem S2.medy {W w : World} {gx gy : Nat} {Sx Sy : Nat → Option Gst} {f : Nat} {args : Array Value} {Q : Ending → Prop} (h : S2 W w gx Sx gy Sy) (k : ∀ G, Sv w G gy Sy → Calls Try.prog f args w fun e w' => Q e ∧ Meds G w w' gy Sy) :
    Calls Try.prog f args w fun e w' => Q e ∧ ∃ S', S2 W w' gx Sx gy S' ∧ S' 1 = Sy 1 := by
  obtain ⟨G, H, h1, h2, h3, h4, h5, h6⟩ := h
  refine (k H h2).mono fun e w' ⟨a, b⟩ => ⟨a, ?_⟩
  obtain ⟨S', ⟨k1, H', k2, k3⟩, e1⟩ := b
  have hz := h4.size
  refine ⟨S', ⟨G, H', h1.only k1 h3, k2, fun b q1 q2 => ?_, h4.trans (k1.below hz h6), h5, fun b q => ?_⟩, e1⟩
  · rcases k3 b q2 with r | r
    · exact h3 b q1 r
    · have := h1.inn q1; omega
  · rcases k3 b q with r | r
    · exact h6 b r
    · omega

/-- the argument: a list of steps -/
def ArgT (W : World) (ao : Option Addr) (n : Nat) : Prop :=
  ∃ b off, (0 < n → ao = some ⟨b, off, none⟩ ∧ b < W.heap.size) ∧ ∀ i, i < n → ∃ (K A N : Int) (s : ByteArray), W.cell? ⟨b, off + i * 4, none⟩ = some (.int .i64 K) ∧ W.cell? ⟨b, off + i * 4 + 1, none⟩ = some (.int .i64 A) ∧ W.cell? ⟨b, off + i * 4 + 2, none⟩ = some (.int .i64 N) ∧ W.cell? ⟨b, off + i * 4 + 3, none⟩ = some (.string s)

def m9 : List UInt8 := [1, 0, 2, 3, 4, 0, 0, 0, 1]
theorem m9_byts : byts [1, 0, 2, 3, 4, 0, 0, 0, 1] = m9 := by kernel_rfl
theorem m9_R : aftR gNew m9 = [0, 0, 0] := by kernel_rfl
theorem m9_C : aftC gNew m9 = 9 := by kernel_rfl

theorem text9 (t : TypeId) (w : World) (b : Nat) (hbw : b = w.heap.size) :
    Calls Try.prog 8 #[.slice (some ⟨b, 0, none⟩) 9 9] (w.alloc (.cells #[.int .i64 1, .int .i64 0, .int .i64 2, .int .i64 3, .int .i64 4, .int .i64 0, .int .i64 0, .int .i64 0, .int .i64 1] t)) fun e w' => e = .returned (.string (str m9)) ∧ Below w.heap.size w w' := by
  subst hbw
  refine (text_any w.heap.size 9 [1, 0, 2, 3, 4, 0, 0, 0, 1] (w.alloc (.cells #[.int .i64 1, .int .i64 0, .int .i64 2, .int .i64 3, .int .i64 4, .int .i64 0, .int .i64 0, .int .i64 0, .int .i64 1] t)) (by simp) (by simp) (fun j hj => ?_) (fun j hj => ?_)).mono ?_
  · rcases (by simp at hj; omega : j = 0 ∨ j = 1 ∨ j = 2 ∨ j = 3 ∨ j = 4 ∨ j = 5 ∨ j = 6 ∨ j = 7 ∨ j = 8) with rfl | rfl | rfl | rfl | rfl | rfl | rfl | rfl | rfl <;> (rw [World.cell?_alloc_at _ _ _ _ rfl]; rfl)
  · rcases (by simp at hj; omega : j = 0 ∨ j = 1 ∨ j = 2 ∨ j = 3 ∨ j = 4 ∨ j = 5 ∨ j = 6 ∨ j = 7 ∨ j = 8) with rfl | rfl | rfl | rfl | rfl | rfl | rfl | rfl | rfl <;> exact ⟨by simp, by simp⟩
  · rintro e w' ⟨rfl, hb⟩
    rw [m9_byts]
    exact ⟨rfl, ((Below.refl _ _).alloc (Nat.le_refl _) _).trans (hb.mono (by simp))⟩

/-- both contexts after their first commands -/
def c9 : Gst := aft gNew m9
def two : Nat → Option Gst := updA (one gNew) 1 (some gNew)

theorem ask9 (G : Nat → Prop) (g : Nat) (S : Nat → Option Gst) (n : Nat) (x k : Int) (want : ByteArray) (w : World) (hS : Sv w G g S) (hx : x = n) (hn : n < 8) (hC : S n = some gNew) (hw : str [0, 0, 0] = want) (hk : k = 9) :
    Calls Try.prog 9 #[.pointer (some ⟨g, 0, none⟩), .int .i64 x, .string (str m9), .string want, .int .i64 k] w fun e w' => e = .returned (.bool true) ∧ SGoes G w w' g (updA S n (some c9)) :=
  asked_any G g S n x gNew (str m9) want k w hS hx hn hC (by rw [str_size]; show ([] : List UInt8).length + 9 ≤ 1024; simp) (by rw [str_data, m9_R]; exact hw) (by rw [str_data, m9_C]; exact hk.symm)

theorem open_y (G : Nat → Prop) (g : Nat) (w : World) (hS : Sv w G g (one gNew)) :
    Calls Try.prog 15 #[.pointer (some ⟨g, 0, none⟩)] w fun e w' => e = .returned (.tuple #[.int .i64 1, .int .i64 0]) ∧ SGoes G w w' g two :=
  open_ok G g (one gNew) 1 w hS (by omega) (fun j hj => by rw [show j = 0 by omega]; exact fun q => by cases q) rfl

theorem does_at (G : Nat → Prop) (g : Nat) (S : Nat → Option Gst) (n : Nat) (x : Int) (C D : Gst) (K A N E M : Int) (s so : ByteArray) (w : World) (hS : Sv w G g S) (hx : x = n) (hn : n < 8) (hC : S n = some C) (hE : ansE C K N s = E) (hM : ansN C K N = M) (hso : str (ansS C K) = so) (hD : ansC C K N s = D) :
    Calls Try.prog 17 #[.pointer (some ⟨g, 0, none⟩), .int .i64 x, .agg #[.int .i64 K, .int .i64 A, .int .i64 N, .string s]] w fun x w' => x = .returned (.agg #[.int .i64 E, .int .i64 M, .string so]) ∧ SGoes G w w' g (updA S n (some D)) := by
  subst hx hE hM hso hD
  exact does_any G g S n C K A N s w hS hn hC

/-- a call of the second server: a block just made stays -/
theorem S2.cally_keep {W w : World} {O : Obj} {gx gy : Nat} {Sx Sy S' : Nat → Option Gst} {f : Nat} {args : Array Value} {Q : Ending → Prop} (h : S2 W w gx Sx gy Sy) (k : ∀ G, Sv (w.alloc O) G gy Sy → Calls Try.prog f args (w.alloc O) fun e w' => Q e ∧ SGoes G (w.alloc O) w' gy S') :
    Calls Try.prog f args (w.alloc O) fun e w' => Q e ∧ S2 W w' gx Sx gy S' ∧ (∀ j, w'.cell? ⟨w.heap.size, j, none⟩ = (w.alloc O).cell? ⟨w.heap.size, j, none⟩) ∧ w.heap.size < w'.heap.size := by
  obtain ⟨G, H, h1, h2, h3, h4, h5, h6⟩ := h
  have hb : Below w.heap.size w (w.alloc O) := (Below.refl _ _).alloc (Nat.le_refl _) _
  refine (k H (h2.below hb)).mono fun e w' ⟨a, b⟩ => ⟨a, ?_⟩
  obtain ⟨k1, H', k2, k3⟩ := b
  have hz := h4.size
  have hz1 := k1.size
  simp only [World.size_alloc] at hz1
  have hn : ¬ H w.heap.size := fun q => by have := h2.inn q; omega
  have h4' : Below W.heap.size W (w.alloc O) := h4.alloc hz _
  refine ⟨⟨G, H', (h1.below hb).only k1 h3, k2, fun b q1 q2 => ?_, h4'.trans (k1.below (by simp; omega) h6), h5, fun b q => ?_⟩, fun j => k1.cell (by simp) hn j, by omega⟩
  · rcases k3 b q2 with r | r
    · exact h3 b q1 r
    · have := h1.inn q1; simp only [World.size_alloc] at r; omega
  · rcases k3 b q with r | r
    · exact h6 b r
    · simp only [World.size_alloc] at r; omega

theorem ans_kept {w6 w8 : World} {E M : Int} {so : ByteArray} {t : TypeId} (h : ∀ j, w8.cell? ⟨w6.heap.size, j, none⟩ = (w6.alloc (.cells #[.int .i64 E, .int .i64 M, .string so] t)).cell? ⟨w6.heap.size, j, none⟩) :
    w8.cell? ⟨w6.heap.size, 0, none⟩ = some (.int .i64 E) ∧ w8.cell? ⟨w6.heap.size, 1, none⟩ = some (.int .i64 M) ∧ w8.cell? ⟨w6.heap.size, 2, none⟩ = some (.string so) := by
  refine ⟨?_, ?_, ?_⟩
  · rw [h, World.cell?_alloc_at _ _ _ _ rfl]; rfl
  · rw [h, World.cell?_alloc_at _ _ _ _ rfl]; rfl
  · rw [h, World.cell?_alloc_at _ _ _ _ rfl]; rfl

/-- what the rounds start from -/
def AR (W : World) (gx gy M : Nat) (k i : Value) (wr : World) (N : Nat) : Prop :=
  ∃ (a b : Nat) (C : Gst) (S : Nat → Option Gst), a ≤ M ∧ b ≤ N ∧ k = .int .i64 a ∧ i = .int .i64 b ∧ S2 W wr gx (one C) gy S ∧ S 1 = some C
def AI (W : World) (gx gy M : Nat) (C : Gst) (k j : Value) (wr : World) : Prop :=
  ∃ (a c : Nat) (S : Nat → Option Gst), a ≤ M ∧ c ≤ 3 ∧ k = .int .i64 a ∧ j = .int .i64 c ∧ S2 W wr gx (one C) gy S ∧ S 1 = some C

set_option maxRecDepth 8000 in
set_option maxHeartbeats 8000000 in
theorem alone_walk (ao bo : Option Addr) (N M cap cbp : Nat) (W : World) (hN : N ≤ maxLen) (hM : M ≤ maxLen) (hA : ArgT W ao N) (hB : ArgT W bo M) :
    Calls Try.prog 4 #[.slice ao N cap, .slice bo M cbp] W fun e w' => e = .returned (.bool true) ∧ Below W.heap.size W w' := by
  obtain ⟨ab, aoff, ha, hac⟩ := hA
  obtain ⟨bb, boff, hb, hbc⟩ := hB
  have HA : Hid (0 < N → ao = some ⟨ab, aoff, none⟩ ∧ ab < W.heap.size) := ha
  have HAC : Hid (∀ i, i < N → ∃ (K A N : Int) (s : ByteArray), W.cell? ⟨ab, aoff + i * 4, none⟩ = some (.int .i64 K) ∧ W.cell? ⟨ab, aoff + i * 4 + 1, none⟩ = some (.int .i64 A) ∧ W.cell? ⟨ab, aoff + i * 4 + 2, none⟩ = some (.int .i64 N) ∧ W.cell? ⟨ab, aoff + i * 4 + 3, none⟩ = some (.string s)) := hac
  have HB : Hid (0 < M → bo = some ⟨bb, boff, none⟩ ∧ bb < W.heap.size) := hb
  have HBC : Hid (∀ i, i < M → ∃ (K A N : Int) (s : ByteArray), W.cell? ⟨bb, boff + i * 4, none⟩ = some (.int .i64 K) ∧ W.cell? ⟨bb, boff + i * 4 + 1, none⟩ = some (.int .i64 A) ∧ W.cell? ⟨bb, boff + i * 4 + 2, none⟩ = some (.int .i64 N) ∧ W.cell? ⟨bb, boff + i * 4 + 3, none⟩ = some (.string s)) := hbc
  unfold maxLen at hN hM
  clear ha hac hb hbc
  go_enter Try.func4, Try.ntmps4
  go_wp2_with (first | (go_at_call 7; refine (begun_2 S0.out).mono ?_; rintro e w1 ⟨gy, rfl, hs1⟩; have S1 : Hid (S2 W w1 gx (one gNew) gy (one gNew)) := hs1; clear hs1 S0) | (go_at_call 7; refine (begun_st W).mono ?_; rintro e w0 ⟨gx, rfl, hs0⟩; have S0 : Hid (St W w0 gx (one gNew)) := hs0; clear hs0) | (go_at_call 15; refine (S1.out.cally (fun G q => open_y G gy _ q)).mono ?_; rintro e w2 ⟨rfl, hs2⟩; have T1 : Hid (S2 W w2 gx (one gNew) gy two) := hs2; clear hs2 S1) | (go_at_call 8; refine (text9 _ _ _ rfl).mono ?_; rintro e w3 ⟨rfl, hb3⟩; have T2 : Hid (S2 W w3 gx (one gNew) gy two) := T1.out.below hb3; clear hb3 T1) | (go_at_call 9; refine (T2.out.callx (fun G q => ask9 G gx (one gNew) 0 _ _ _ _ q (by omega) (by omega) rfl rfl (by omega))).mono ?_; rintro e w4 ⟨rfl, hs4⟩; rw [one_one] at hs4; have T3 : Hid (S2 W w4 gx (one c9) gy two) := hs4; clear hs4 T2) | (go_at_call 9; refine (T3.out.cally (fun G q => ask9 G gy two 1 _ _ _ _ q (by omega) (by omega) rfl rfl (by omega))).mono ?_; rintro e w5 ⟨rfl, hs5⟩; have T4 : Hid (S2 W w5 gx (one c9) gy (updA two 1 (some c9))) := hs5; clear hs5 T3))
  go_loopw [11, 13, 14, 15, 16] (fun k i _ _ _ wr => AR W gx gy M k i wr N) (fun _ i _ _ _ _ => N - (intOf i).toNat)
  case atStart => exact ⟨0, 0, c9, _, by omega, by omega, rfl, rfl, T4.out, updA_same _ _ _⟩
  case round =>
    obtain ⟨a, b, C, S, ha, hb, rfl, rfl, hS, h1⟩ := hrel
    have KS : Hid (S2 W wr gx (one C) gy S) := hS
    have K1 : Hid (S 1 = some C) := h1
    clear hS h1
    by_cases hlt : b < N
    · have b0 : (b : Int) < N := by omega
      go_wp2
      go_loopw [11, 14] (fun k j wr => AI W gx gy M C k j wr) (fun _ j _ => 3 - (intOf j).toNat)
      case atStart => exact ⟨a, 0, S, ha, by omega, rfl, rfl, KS.out, K1.out⟩
      case round =>
        clear KS K1 ha
        obtain ⟨a, c, S, ha, hc, rfl, rfl, hS, h1⟩ := hrel
        have KS : Hid (S2 W wr gx (one C) gy S) := hS
        have K1 : Hid (S 1 = some C) := h1
        have hd := hS.done
        clear h1
        by_cases hgo : c < 3 ∧ a < M
        · obtain ⟨hc3, haM⟩ := hgo
          have c0 : (c : Int) < 3 := by omega
          have a0 : (a : Int) < M := by omega
          have a00 : (0 : Int) ≤ a := by omega
          obtain ⟨ebo, hbb⟩ := HB.out (by omega)
          obtain ⟨K, A, Q, t, x0, x1, x2, x3⟩ := HBC.out a haM
          have q0 := (hd.cell (p := ⟨bb, boff + a * 4, none⟩) hbb).trans x0
          have q1 := (hd.cell (p := ⟨bb, boff + a * 4 + 1, none⟩) hbb).trans x1
          have q2 := (hd.cell (p := ⟨bb, boff + a * 4 + 2, none⟩) hbb).trans x2
          have q3 := (hd.cell (p := ⟨bb, boff + a * 4 + 3, none⟩) hbb).trans x3
          have qb : bb < wr.heap.size := by have := hd.size; omega
          subst ebo
          clear hS hd x0 x1 x2 x3
          go_wp2_with (go_at_call 16; refine (KS.out.medy (fun G q => meddles_any G gy S K A Q t _ q (by rw [K1.out]; exact fun z => by cases z))).mono ?_; rintro e w6 ⟨rfl, S', hs6, h6⟩; have R6 : Hid (S2 W w6 gx (one C) gy S') := hs6; have E6 : Hid (S' 1 = S 1) := h6; clear hs6 h6)
          go_roundw
          case rel => exact ⟨a + 1, c + 1, S', by omega, by omega, by go_num, by go_num, R6.out, E6.out.trans K1.out⟩
          case measure => simp [intOf]; omega
        · obtain ⟨eao, hab⟩ := HA.out (by omega)
          obtain ⟨K, A, Q, t, x0, x1, x2, x3⟩ := HAC.out b hlt
          have q0 := (hd.cell (p := ⟨ab, aoff + b * 4, none⟩) hab).trans x0
          have q1 := (hd.cell (p := ⟨ab, aoff + b * 4 + 1, none⟩) hab).trans x1
          have q2 := (hd.cell (p := ⟨ab, aoff + b * 4 + 2, none⟩) hab).trans x2
          have q3 := (hd.cell (p := ⟨ab, aoff + b * 4 + 3, none⟩) hab).trans x3
          have qb : ab < wr.heap.size := by have := hd.size; omega
          have b00 : (0 : Int) ≤ b := by omega
          have X0 : Hid (W.cell? ⟨ab, aoff + b * 4, none⟩ = some (.int .i64 K)) := x0
          have X1 : Hid (W.cell? ⟨ab, aoff + b * 4 + 1, none⟩ = some (.int .i64 A)) := x1
          have X2 : Hid (W.cell? ⟨ab, aoff + b * 4 + 2, none⟩ = some (.int .i64 Q)) := x2
          have X3 : Hid (W.cell? ⟨ab, aoff + b * 4 + 3, none⟩ = some (.string t)) := x3
          have XB : Hid (ab < W.heap.size) := hab
          obtain ⟨E, hE⟩ : ∃ E, ansE C K Q t = E := ⟨_, rfl⟩
          obtain ⟨R, hR⟩ : ∃ R, ansN C K Q = R := ⟨_, rfl⟩
          obtain ⟨so, hso⟩ : ∃ so, str (ansS C K) = so := ⟨_, rfl⟩
          obtain ⟨D, hD⟩ : ∃ D, ansC C K Q t = D := ⟨_, rfl⟩
          have HE : Hid (ansE C K Q t = E) := hE
          have HR : Hid (ansN C K Q = R) := hR
          have HSO : Hid (str (ansS C K) = so) := hso
          have HD : Hid (ansC C K Q t = D) := hD
          subst eao
          clear hS hd x0 x1 x2 x3 hE hR hso hD
          by_cases hc3 : c < 3
          · have c0 : (c : Int) < 3 := by omega
            have a0 : ¬ (a : Int) < M := by omega
            clear hgo
            go_wp2_with (first | (go_at_call 17; refine (KS.out.callx (fun G q => does_at G gx (one C) 0 _ C D K A Q E R t so _ q (by omega) (by omega) rfl HE.out HR.out HSO.out HD.out)).mono ?_; rintro e w6 ⟨rfl, hs6⟩; rw [one_one] at hs6; have p0 := (hs6.done.cell (p := ⟨ab, aoff + b * 4, none⟩) XB.out).trans X0.out; have p1 := (hs6.done.cell (p := ⟨ab, aoff + b * 4 + 1, none⟩) XB.out).trans X1.out; have p2 := (hs6.done.cell (p := ⟨ab, aoff + b * 4 + 2, none⟩) XB.out).trans X2.out; have p3 := (hs6.done.cell (p := ⟨ab, aoff + b * 4 + 3, none⟩) XB.out).trans X3.out; have pb : ab < w6.heap.size := (by have := hs6.done.size; have := XB.out; omega); have R6 : Hid (S2 W w6 gx (one D) gy S) := hs6; clear hs6 KS) | (go_at_call 17; refine (R6.out.cally_keep (fun G q => does_at G gy S 1 _ C D K A Q E R t so _ q (by omega) (by omega) K1.out HE.out HR.out HSO.out HD.out)).mono ?_; rintro e w8 ⟨rfl, hs8, hk8, hl8⟩; obtain ⟨g0, g1, g2⟩ := ans_kept hk8; have R8 : Hid (S2 W w8 gx (one D) gy (updA S 1 (some D))) := hs8; clear hs8 hk8 R6))
            go_roundw
            case rel => exact ⟨a, b + 1, D, _, ha, by omega, rfl, by go_num, R8.out.below ((Below.refl _ _).alloc (Nat.le_refl _) _), updA_same _ _ _⟩
            case measure => simp [intOf]; omega
          · have c0 : ¬ (c : Int) < 3 := by omega
            clear hgo
            go_wp2_with (first | (go_at_call 17; refine (KS.out.callx (fun G q => does_at G gx (one C) 0 _ C D K A Q E R t so _ q (by omega) (by omega) rfl HE.out HR.out HSO.out HD.out)).mono ?_; rintro e w6 ⟨rfl, hs6⟩; rw [one_one] at hs6; have p0 := (hs6.done.cell (p := ⟨ab, aoff + b * 4, none⟩) XB.out).trans X0.out; have p1 := (hs6.done.cell (p := ⟨ab, aoff + b * 4 + 1, none⟩) XB.out).trans X1.out; have p2 := (hs6.done.cell (p := ⟨ab, aoff + b * 4 + 2, none⟩) XB.out).trans X2.out; have p3 := (hs6.done.cell (p := ⟨ab, aoff + b * 4 + 3, none⟩) XB.out).trans X3.out; have pb : ab < w6.heap.size := (by have := hs6.done.size; have := XB.out; omega); have R6 : Hid (S2 W w6 gx (one D) gy S) := hs6; clear hs6 KS) | (go_at_call 17; refine (R6.out.cally_keep (fun G q => does_at G gy S 1 _ C D K A Q E R t so _ q (by omega) (by omega) K1.out HE.out HR.out HSO.out HD.out)).mono ?_; rintro e w8 ⟨rfl, hs8, hk8, hl8⟩; obtain ⟨g0, g1, g2⟩ := ans_kept hk8; have R8 : Hid (S2 W w8 gx (one D) gy (updA S 1 (some D))) := hs8; clear hs8 hk8 R6))
            go_roundw
            case rel => exact ⟨a, b + 1, D, _, ha, by omega, rfl, by go_num, R8.out.below ((Below.refl _ _).alloc (Nat.le_refl _) _), updA_same _ _ _⟩
            case measure => simp [intOf]; omega
    · have b0 : ¬ (b : Int) < N := by omega
      go_wp2
      go_ret
      exact ⟨rfl, KS.out.done⟩

end Go.Proofs.Ytbedkfgdhaajaab
