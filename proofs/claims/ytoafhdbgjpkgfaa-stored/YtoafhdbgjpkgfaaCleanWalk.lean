/- Rows.CleanSaid (P6, P10): the walk of the statement. -/
import Derived.Test.YtoafhdbgjpkgfaaNought
namespace Go.Proofs.Ytoafhdbgjpkgfaa
open Go.RowKit

theorem okR_new : okR gNew.rm := ⟨fun k _ => by simp [gNew], fun k _ => by simp [gNew], fun k _ => by simp [gNew], fun k _ => by simp [gNew], fun k _ q => (by cases q), fun k _ => by simp [gNew]⟩

theorem tot_new : tot gNew.rm.bs 8 = 0 := by decide

theorem pck24 (c : Int) : 0 ≤ pck c 24 ∧ pck c 24 ≤ 23 := by have := pck_bd (c := c) (n := 24) (by omega); omega

/-- what holds once the first object has been made -/
theorem can_first {A B : Nat} (hA : 1 ≤ A ∧ A ≤ 24) (hB : 1 ≤ B ∧ B ≤ 24) (h : Nat) (h8 : h < 8) : can gNew.rm.bs h A B = 0 := by
  have hm := mul24 (a := (A : Int)) (b := (B : Int)) (by omega) (by omega)
  unfold can
  rw [if_neg (by omega), if_neg (by simp [gNew]), if_pos ⟨decide_eq_true (by omega), decide_eq_true (by omega)⟩, if_neg]
  rw [tot_new]
  unfold pg
  omega

theorem free_none (G : Nat → Prop) (g : Nat) (w : World) (hS : Sv w G g (fun _ => none)) :
    Calls Try.prog 29 #[.pointer (some ⟨g, 0, none⟩)] w fun e w' => e = .returned (.int .i64 96) ∧ Below w.heap.size w w' := by
  have := free_any G g (fun _ => none) w hS
  rw [show tots (fun _ => none) 8 = 0 from rfl] at this
  exact this

theorem kfree_as (G : Nat → Prop) (g : Nat) (R : Rm) (T : Int) (w : World) (hS : Sv w G g (one (gI R))) (hT : 96 - tot R.bs 8 = T) :
    Calls Try.prog 29 #[.pointer (some ⟨g, 0, none⟩)] w fun e w' => e = .returned (.int .i64 T) ∧ Below w.heap.size w w' := by
  subst hT; exact kfree G g (gI R) w hS

theorem one_none (a : Gst) : updA (one a) 0 none = fun _ => none := by
  unfold one; rw [updA_updA]; exact updA_self _ _ _ rfl

theorem send_pos (G : Nat → Prop) (g : Nat) (x : Int) (s : ByteArray) (w : World) (hS : Sv w G g (one gNew)) (hx : x = 0) (h : s.size ≤ 1024) :
    Calls Try.prog 26 #[.pointer (some ⟨g, 0, none⟩), .int .i64 x, .string s] w fun e w' => e = .returned (.int .i64 0) ∧ ∃ C, SGoes G w w' g (one C) := by
  subst hx
  refine (send_ok G g (one gNew) 0 gNew s w hS (by omega) rfl (by show ([] : List UInt8).length + s.size ≤ 1024; simp; omega)).mono ?_
  rintro e w' ⟨h1, h2⟩
  rw [one_one] at h2
  exact ⟨h1, _, h2⟩
theorem send_neg (G : Nat → Prop) (g : Nat) (x : Int) (s : ByteArray) (w : World) (hS : Sv w G g (one gNew)) (hx : x = 0) (h : 1024 < s.size) :
    Calls Try.prog 26 #[.pointer (some ⟨g, 0, none⟩), .int .i64 x, .string s] w fun e w' => e = .returned (.int .i64 12) ∧ ∃ C, SGoes G w w' g (one C) := by
  subst hx
  refine (send_long G g (one gNew) 0 gNew s w hS (by omega) rfl (by show 1024 < ([] : List UInt8).length + s.size; simp; omega)).mono ?_
  rintro e w' ⟨h1, h2⟩
  subst h2
  exact ⟨h1, _, SGoes.stay hS (Below.refl _ _)⟩
theorem emptied_pos (G : Nat → Prop) (g : Nat) (x : Int) (C : Gst) (w : World) (hS : Sv w G g (one C)) (hx : x = 0) :
    Calls Try.prog 27 #[.pointer (some ⟨g, 0, none⟩), .int .i64 x] w fun e w' => ∃ s n, e = .returned (.tuple #[.string s, .int .i64 n, .bool true]) ∧ ∃ C', SGoes G w w' g (one C') := by
  refine (emptied_any G g (one C) 0 x C w hS (by omega) (by omega) rfl).mono ?_
  rintro e w' ⟨h1, h2⟩
  rw [one_one] at h2
  exact ⟨_, _, h1, _, h2⟩
theorem close_pos (G : Nat → Prop) (g : Nat) (x : Int) (C : Gst) (w : World) (hS : Sv w G g (one C)) (hx : x = 0) :
    Calls Try.prog 28 #[.pointer (some ⟨g, 0, none⟩), .int .i64 x] w fun e w' => e = .returned (.int .i64 0) ∧ SGoes G w w' g (fun _ => none) := by
  subst hx
  refine (close_ok G g (one C) 0 C w hS (by omega) rfl).mono ?_
  rintro e w' ⟨h1, h2⟩
  rw [one_none] at h2
  exact ⟨h1, h2⟩
theorem open_pos (G : Nat → Prop) (g : Nat) (w : World) (hS : Sv w G g (fun _ => none)) :
    Calls Try.prog 30 #[.pointer (some ⟨g, 0, none⟩)] w fun e w' => e = .returned (.tuple #[.int .i64 0, .int .i64 0]) ∧ SGoes G w w' g (one gNew) := by
  exact open_ok G g (fun _ => none) 0 w hS (by omega) (fun j hj => by omega) rfl
/-- a Create in an empty context 0 -/
theorem create_pos (G : Nat → Prop) (g : Nat) (x h a b k : Int) (H A B : Nat) (mv want : ByteArray) (w : World) (hS : Sv w G g (one gNew)) (hx : x = 0) (hmv : str (byts [1, h, a, b]) = mv) (hw : str [0] = want) (hh : h = H) (ha : a = A) (hb : b = B) (hH : H < 8) (hA : 1 ≤ A ∧ A ≤ 24) (hB : 1 ≤ B ∧ B ≤ 24) (hk : k = 1 + a * b) :
    Calls Try.prog 31 #[.pointer (some ⟨g, 0, none⟩), .int .i64 x, .string mv, .string want, .int .i64 k] w fun e w' => e = .returned (.bool true) ∧ SGoes G w w' g (one (gI (rCreate gNew.rm H A B))) := by
  obtain ⟨r1, r2, r3, r4⟩ := create_as (R := gNew.rm) hh ha hb hH hA hB (can_first hA hB H hH)
  have := ask_one G g x gNew.rm _ mv want k w hS okR_new hx hmv r1 r2 r3 (by rw [r4]; exact hw) (by rw [r4, hk, ha, hb])
  rw [r4] at this
  exact this

/-- a server lies at g, all of it made since W, and W's own blocks are as they were -/
def St (W w : World) (g : Nat) (S : Nat → Option Gst) : Prop := ∃ G, Sv w G g S ∧ Below W.heap.size W w ∧ ∀ b, G b → W.heap.size ≤ b

theorem St.below {W w w' : World} {g : Nat} {S : Nat → Option Gst} (h : St W w g S) (hb : Below w.heap.size w w') : St W w' g S := by
  obtain ⟨G, h1, h2, h3⟩ := h
  exact ⟨G, h1.below hb, h2.trans (hb.mono h2.size), h3⟩
theorem St.goes {W w w' : World} {g : Nat} {S' : Nat → Option Gst} {G : Nat → Prop} (h2 : Below W.heap.size W w) (h3 : ∀ b, G b → W.heap.size ≤ b) (k : SGoes G w w' g S') : St W w' g S' := by
  obtain ⟨k1, G', k2, k3⟩ := k
  refine ⟨G', k2, h2.trans (k1.below h2.size h3), fun b hb => ?_⟩
  rcases k3 b hb with q | q
  · exact h3 b q
  · have := h2.size; omega
theorem St.call {W w : World} {g : Nat} {S S' : Nat → Option Gst} {f : Nat} {args : Array Value} {Q : Ending → Prop} (h : St W w g S) (k : ∀ G, Sv w G g S → Calls Try.prog f args w fun e w' => Q e ∧ SGoes G w w' g S') :
    Calls Try.prog f args w fun e w' => Q e ∧ St W w' g S' := by
  obtain ⟨G, h1, h2, h3⟩ := h
  exact (k G h1).mono fun e w' ⟨a, b⟩ => ⟨a, St.goes h2 h3 b⟩
theorem St.calle {W w : World} {g : Nat} {S : Nat → Option Gst} {f : Nat} {args : Array Value} {Q : Ending → Prop} (h : St W w g S) (k : ∀ G, Sv w G g S → Calls Try.prog f args w fun e w' => Q e ∧ ∃ C, SGoes G w w' g (one C)) :
    Calls Try.prog f args w fun e w' => Q e ∧ ∃ C, St W w' g (one C) := by
  obtain ⟨G, h1, h2, h3⟩ := h
  exact (k G h1).mono fun e w' ⟨a, C, b⟩ => ⟨a, C, St.goes h2 h3 b⟩
theorem St.callb {W w : World} {g : Nat} {S : Nat → Option Gst} {f : Nat} {args : Array Value} {Q : Ending → Prop} (h : St W w g S) (k : ∀ G, Sv w G g S → Calls Try.prog f args w fun e w' => Q e ∧ Below w.heap.size w w') :
    Calls Try.prog f args w fun e w' => Q e ∧ St W w' g S := by
  obtain ⟨G, h1, h2, h3⟩ := h
  exact (k G h1).mono fun e w' ⟨a, b⟩ => ⟨a, St.below ⟨G, h1, h2, h3⟩ b⟩
theorem begun_st (W : World) : Calls Try.prog 25 #[] W fun e w' => ∃ g, e = .returned (.tuple #[.pointer (some ⟨g, 0, none⟩), .bool true]) ∧ St W w' g (one gNew) := by
  refine (begun_any W).mono ?_
  rintro e w' ⟨g, G, h1, h2, h3, h4⟩
  exact ⟨g, h1, G, h3, h2, h4⟩
theorem St.done {W w : World} {g : Nat} {S : Nat → Option Gst} (h : St W w g S) : Below W.heap.size W w := by obtain ⟨_, _, h, _⟩ := h; exact h

theorem emptied_st {W w : World} {g : Nat} {C : Gst} {x : Int} (h : St W w g (one C)) (hx : x = 0) :
    Calls Try.prog 27 #[.pointer (some ⟨g, 0, none⟩), .int .i64 x] w fun e w' => ∃ s n, e = .returned (.tuple #[.string s, .int .i64 n, .bool true]) ∧ ∃ C', St W w' g (one C') := by
  obtain ⟨G, h1, h2, h3⟩ := h
  exact (emptied_pos G g x C w h1 hx).mono fun e w' ⟨a, b, c, C', d⟩ => ⟨a, b, c, C', St.goes h2 h3 d⟩

theorem kpick_as (c n v : Int) (w : World) (h : -9223372036854775808 ≤ c ∧ c ≤ 9223372036854775807) (h3 : 0 < n) (h4 : n ≤ 1099511627776) (hv : pck c n = v) :
    Calls Try.prog 18 #[.int .i64 c, .int .i64 n] w fun e w' => e = .returned (.int .i64 v) ∧ w' = w := by
  subst hv; exact kpick_any c n w h.1 h.2 h3 h4
theorem kpages_as (a b v : Int) (A B : Nat) (w : World) (ha : a = A) (hb : b = B) (h1 : A ≤ 255) (h2 : B ≤ 255) (hv : pg (a * b) = v) :
    Calls Try.prog 33 #[.int .i64 a, .int .i64 b] w fun e w' => e = .returned (.int .i64 v) ∧ w' = w := by
  subst hv ha hb; exact kpages_any A B w h1 h2

set_option maxHeartbeats 4000000 in
theorem clean_walk (s : ByteArray) (x y : Int) (W : World) (hs : s.size ≤ maxLen) (x1 : -9223372036854775808 ≤ x) (x2 : x ≤ 9223372036854775807) (y1 : -9223372036854775808 ≤ y) (y2 : y ≤ 9223372036854775807) :
    Calls Try.prog 8 #[.string s, .int .i64 x, .int .i64 y] W fun e w' => e = .returned (.bool true) ∧ Below W.heap.size W w' := by
  have HX : Hid (-9223372036854775808 ≤ x ∧ x ≤ 9223372036854775807) := ⟨x1, x2⟩
  have HY : Hid (-9223372036854775808 ≤ y ∧ y ≤ 9223372036854775807) := ⟨y1, y2⟩
  obtain ⟨p0, p1⟩ := pck24 x
  obtain ⟨q0, q1⟩ := pck24 y
  obtain ⟨A, hA⟩ : ∃ A : Nat, pck x 24 = (A : Int) := ⟨(pck x 24).toNat, by omega⟩
  obtain ⟨B, hB⟩ : ∃ B : Nat, pck y 24 = (B : Int) := ⟨(pck y 24).toNat, by omega⟩
  have HA : Hid (pck x 24 = (A : Int)) := hA
  have HB : Hid (pck y 24 = (B : Int)) := hB
  have a1 : A ≤ 23 := by omega
  have b1 : B ≤ 23 := by omega
  obtain ⟨m1, m2⟩ := mul24 (a := 1 + (A : Int)) (b := 1 + (B : Int)) (by omega) (by omega)
  obtain ⟨N, hN⟩ : ∃ N : Nat, (1 + (A : Int)) * (1 + (B : Int)) = N := ⟨((1 + (A : Int)) * (1 + (B : Int))).toNat, by omega⟩
  have HN : Hid ((1 + (A : Int)) * (1 + (B : Int)) = N) := hN
  have hp : 0 ≤ pg ((1 + (A : Int)) * (1 + (B : Int))) ∧ pg ((1 + (A : Int)) * (1 + (B : Int))) ≤ 9 := by unfold pg; omega
  obtain ⟨pg0, pg1⟩ := hp
  unfold maxLen at hs
  have hNN : (1 + (A : Int)) * (1 + (B : Int)) = (((1 + A) * (1 + B) : Nat) : Int) := by push_cast; rfl
  have HNN : Hid ((1 + (A : Int)) * (1 + (B : Int)) = (((1 + A) * (1 + B) : Nat) : Int)) := hNN
  have HN0 : Hid (0 < (1 + A) * (1 + B)) := (by omega : 0 < (1 + A) * (1 + B))
  have HN1 : Hid ((1 + A) * (1 + B) ≤ 576) := (by omega : (1 + A) * (1 + B) ≤ 576)
  have HOK : Hid (okR (rCreate gNew.rm 0 (1 + A) (1 + B))) := okR_new.create (can_first (by omega) (by omega) 0 (by omega))
  obtain ⟨PG, hPG⟩ : ∃ PG, pg ((1 + (A : Int)) * (1 + (B : Int))) = PG := ⟨_, rfl⟩
  have HPG : Hid (pg ((1 + (A : Int)) * (1 + (B : Int))) = PG) := hPG
  have HT : Hid (96 - tot (rCreate gNew.rm 0 (1 + A) (1 + B)).bs 8 = 96 - PG) := by
    have e : tot (rCreate gNew.rm 0 (1 + A) (1 + B)).bs 8 = PG := by
      show tot (updA gNew.rm.bs 0 (zeros ((1 + A) * (1 + B)))) 8 = PG
      rw [tot_upd (by omega), tot_new, ← hPG, hNN]
      simp [zeros, gNew, pg]
    rw [e]; exact (rfl : 96 - PG = 96 - PG)
  rw [hPG] at pg0 pg1
  clear hA hB hN hNN hPG p0 p1 q0 q1 x1 x2 y1 y2 HN
  by_cases hsz : s.size ≤ 1024
  · have hsz' : (s.size : Int) ≤ 1024 := by omega
    go_enter Try.func8, Try.ntmps8
    go_wp2_with (first | (go_at_call 25; refine (begun_st W).mono ?_; rintro e w0 ⟨g, rfl, hs0⟩; have S0 : Hid (St W w0 g (one gNew)) := hs0; clear hs0) | (go_at_call 26; refine (S0.out.calle (fun G q => send_pos G g _ s _ q (by omega) hsz)).mono ?_; rintro e w1 ⟨rfl, C1, hs1⟩; have S1 : Hid (St W w1 g (one C1)) := hs1; clear hs1 S0) | (go_at_call 27; refine (emptied_st S1.out (by omega)).mono ?_; rintro e w2 ⟨s2, n2, rfl, C2, hs2⟩; have S2 : Hid (St W w2 g (one C2)) := hs2; clear hs2 S1) | (go_at_call 28; refine (S2.out.call (fun G q => close_pos G g _ C2 _ q (by omega))).mono ?_; rintro e w3 ⟨rfl, hs3⟩; have S3 : Hid (St W w3 g (fun _ => none)) := hs3; clear hs3 S2) | (go_at_call 29; refine (S3.out.callb (fun G q => free_none G g _ q)).mono ?_; rintro e w4 ⟨rfl, hs4⟩; have S4 : Hid (St W w4 g (fun _ => none)) := hs4; clear hs4 S3) | (go_at_call 30; refine (S4.out.call (fun G q => open_pos G g _ q)).mono ?_; rintro e w5 ⟨rfl, hs5⟩; have S5 : Hid (St W w5 g (one gNew)) := hs5; clear hs5 S4) | (go_at_call 18; refine (kpick_as _ _ _ _ HX.out (by omega) (by omega) HA.out).mono ?_; rintro e w6 ⟨rfl, w6e⟩; subst w6; clear HX) | (go_at_call 18; refine (kpick_as _ _ _ _ HY.out (by omega) (by omega) HB.out).mono ?_; rintro e w6 ⟨rfl, w6e⟩; subst w6; clear HY) | (go_at_call 32; refine (text4 _ _ _ _ _ _ _ rfl ⟨by omega, by omega⟩ ⟨by omega, by omega⟩ ⟨by omega, by omega⟩ ⟨by omega, by omega⟩).mono ?_; rintro e w7 ⟨rfl, hb7⟩; have S7 : Hid (St W w7 g (one gNew)) := S5.out.below hb7; clear hb7 S5) | (go_at_call 31; refine (S7.out.call (fun G q => create_pos G g _ _ _ _ _ 0 (1 + A) (1 + B) _ _ _ q (by omega) rfl rfl (by omega) (by omega) (by omega) (by omega) ⟨by omega, by omega⟩ ⟨by omega, by omega⟩ rfl)).mono ?_; rintro e w8 ⟨rfl, hs8⟩; have S8 : Hid (St W w8 g (one (gI (rCreate gNew.rm 0 (1 + A) (1 + B))))) := hs8; clear hs8 S7) | (go_at_call 29; refine (S8.out.callb (fun G q => kfree_as G g _ _ _ q HT.out)).mono ?_; rintro e w9 ⟨rfl, hs9⟩; have S9 : Hid (St W w9 g (one (gI (rCreate gNew.rm 0 (1 + A) (1 + B))))) := hs9; clear hs9 S8) | (go_at_call 33; refine (kpages_as _ _ _ (1 + A) (1 + B) _ (by omega) (by omega) (by omega) (by omega) HPG.out).mono ?_; rintro e w10 ⟨rfl, w10e⟩; subst w10) | (go_at_call 34; refine (S9.out.call (fun G q => nought_any G g _ _ _ ((1 + A) * (1 + B)) _ q HOK.out (by omega) HNN.out HN0.out HN1.out rfl)).mono ?_; rintro e w11 ⟨rfl, hs11⟩; have S11 : Hid (St W w11 g (one (gI (rCreate gNew.rm 0 (1 + A) (1 + B))))) := hs11; clear hs11 S9))
    go_ret
    exact ⟨rfl, S11.out.done⟩
  · have hsz' : ¬ (s.size : Int) ≤ 1024 := by omega
    replace hsz : 1024 < s.size := by omega
    go_enter Try.func8, Try.ntmps8
    go_wp2_with (first | (go_at_call 25; refine (begun_st W).mono ?_; rintro e w0 ⟨g, rfl, hs0⟩; have S0 : Hid (St W w0 g (one gNew)) := hs0; clear hs0) | (go_at_call 26; refine (S0.out.calle (fun G q => send_neg G g _ s _ q (by omega) hsz)).mono ?_; rintro e w1 ⟨rfl, C1, hs1⟩; have S1 : Hid (St W w1 g (one C1)) := hs1; clear hs1 S0) | (go_at_call 27; refine (emptied_st S1.out (by omega)).mono ?_; rintro e w2 ⟨s2, n2, rfl, C2, hs2⟩; have S2 : Hid (St W w2 g (one C2)) := hs2; clear hs2 S1) | (go_at_call 28; refine (S2.out.call (fun G q => close_pos G g _ C2 _ q (by omega))).mono ?_; rintro e w3 ⟨rfl, hs3⟩; have S3 : Hid (St W w3 g (fun _ => none)) := hs3; clear hs3 S2) | (go_at_call 29; refine (S3.out.callb (fun G q => free_none G g _ q)).mono ?_; rintro e w4 ⟨rfl, hs4⟩; have S4 : Hid (St W w4 g (fun _ => none)) := hs4; clear hs4 S3) | (go_at_call 30; refine (S4.out.call (fun G q => open_pos G g _ q)).mono ?_; rintro e w5 ⟨rfl, hs5⟩; have S5 : Hid (St W w5 g (one gNew)) := hs5; clear hs5 S4) | (go_at_call 18; refine (kpick_as _ _ _ _ HX.out (by omega) (by omega) HA.out).mono ?_; rintro e w6 ⟨rfl, w6e⟩; subst w6; clear HX) | (go_at_call 18; refine (kpick_as _ _ _ _ HY.out (by omega) (by omega) HB.out).mono ?_; rintro e w6 ⟨rfl, w6e⟩; subst w6; clear HY) | (go_at_call 32; refine (text4 _ _ _ _ _ _ _ rfl ⟨by omega, by omega⟩ ⟨by omega, by omega⟩ ⟨by omega, by omega⟩ ⟨by omega, by omega⟩).mono ?_; rintro e w7 ⟨rfl, hb7⟩; have S7 : Hid (St W w7 g (one gNew)) := S5.out.below hb7; clear hb7 S5) | (go_at_call 31; refine (S7.out.call (fun G q => create_pos G g _ _ _ _ _ 0 (1 + A) (1 + B) _ _ _ q (by omega) rfl rfl (by omega) (by omega) (by omega) (by omega) ⟨by omega, by omega⟩ ⟨by omega, by omega⟩ rfl)).mono ?_; rintro e w8 ⟨rfl, hs8⟩; have S8 : Hid (St W w8 g (one (gI (rCreate gNew.rm 0 (1 + A) (1 + B))))) := hs8; clear hs8 S7) | (go_at_call 29; refine (S8.out.callb (fun G q => kfree_as G g _ _ _ q HT.out)).mono ?_; rintro e w9 ⟨rfl, hs9⟩; have S9 : Hid (St W w9 g (one (gI (rCreate gNew.rm 0 (1 + A) (1 + B))))) := hs9; clear hs9 S8) | (go_at_call 33; refine (kpages_as _ _ _ (1 + A) (1 + B) _ (by omega) (by omega) (by omega) (by omega) HPG.out).mono ?_; rintro e w10 ⟨rfl, w10e⟩; subst w10) | (go_at_call 34; refine (S9.out.call (fun G q => nought_any G g _ _ _ ((1 + A) * (1 + B)) _ q HOK.out (by omega) HNN.out HN0.out HN1.out rfl)).mono ?_; rintro e w11 ⟨rfl, hs11⟩; have S11 : Hid (St W w11 g (one (gI (rCreate gNew.rm 0 (1 + A) (1 + B))))) := hs11; clear hs11 S9))
    go_ret
    exact ⟨rfl, S11.out.done⟩

end Go.Proofs.Ytoafhdbgjpkgfaa
