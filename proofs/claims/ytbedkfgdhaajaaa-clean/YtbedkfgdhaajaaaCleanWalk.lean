/- Rows.CleanSaid (P6, P10): the walk of the statement. -/
import Derived.Test.YtbedkfgdhaajaaaNought
import Derived.Test.YtbedkfgdhaajaaaStKit
import Derived.Test.YtbedkfgdhaajaaaKeepPg
namespace Go.Proofs.Ytbedkfgdhaajaaa
open Go.RowKit

theorem free_none (G : Nat → Prop) (g : Nat) (w : World) (hS : Sv w G g (fun _ => none)) :
    Calls Try.prog 29 #[.pointer (some ⟨g, 0, none⟩)] w fun e w' => e = .returned (.int .i64 96) ∧ Below w.heap.size w w' := by
  have := free_any G g (fun _ => none) w hS
  rw [show tots (fun _ => none) 8 = 0 from rfl] at this
  exact this

theorem kfree_as (G : Nat → Prop) (g : Nat) (R : Rm) (T : Int) (w : World) (hS : Sv w G g (one (gI R))) (hT : 96 - tot R.bs 8 = T) :
    Calls Try.prog 29 #[.pointer (some ⟨g, 0, none⟩)] w fun e w' => e = .returned (.int .i64 T) ∧ Below w.heap.size w w' := by
  subst hT; exact kfree G g (gI R) w hS

theorem kpages_as (a b v : Int) (A B : Nat) (w : World) (ha : a = A) (hb : b = B) (h1 : A ≤ 255) (h2 : B ≤ 255) (hv : pg (a * b) = v) :
    Calls Try.prog 33 #[.int .i64 a, .int .i64 b] w fun e w' => e = .returned (.int .i64 v) ∧ w' = w := by
  subst hv ha hb; exact kpages_any A B w h1 h2


set_option maxHeartbeats 4000000 in
theorem clean_walk (s : ByteArray) (x y : Int) (W : World) (hs : s.size ≤ maxLen) (x1 : -9223372036854775808 ≤ x) (x2 : x ≤ 9223372036854775807) (y1 : -9223372036854775808 ≤ y) (y2 : y ≤ 9223372036854775807) :
    Calls Try.prog 8 #[.string s, .int .i64 x, .int .i64 y] W fun e w' => e = .returned (.bool true) ∧ Below W.heap.size W w' := by
  have HX : Hid (-9223372036854775808 ≤ x ∧ x ≤ 9223372036854775807) := ⟨x1, x2⟩
  have HY : Hid (-9223372036854775808 ≤ y ∧ y ≤ 9223372036854775807) := ⟨y1, y2⟩
  obtain ⟨p0, p1⟩ := pck24 x
  obtain ⟨q0, q1⟩ := pck24 y
  obtain ⟨A, hA⟩ : ∃ A : Nat, pck x 24 = (A : Int) := ⟨(pck x 24).toNat, by omega⟩
  obtain ⟨B, hB⟩ : ∃ B : Nat, pck y 24 = (B : Int) := ⟨(pck y 24).toNat, by omega⟩
  have HA : Hid (pck x 24 = (A : Int)) := hA
  have HB : Hid (pck y 24 = (B : Int)) := hB
  have a1 : A ≤ 23 := by omega
  have b1 : B ≤ 23 := by omega
  obtain ⟨m1, m2⟩ := mul24 (a := 1 + (A : Int)) (b := 1 + (B : Int)) (by omega) (by omega)
  obtain ⟨N, hN⟩ : ∃ N : Nat, (1 + (A : Int)) * (1 + (B : Int)) = N := ⟨((1 + (A : Int)) * (1 + (B : Int))).toNat, by omega⟩
  have HN : Hid ((1 + (A : Int)) * (1 + (B : Int)) = N) := hN
  have hp : 0 ≤ pg ((1 + (A : Int)) * (1 + (B : Int))) ∧ pg ((1 + (A : Int)) * (1 + (B : Int))) ≤ 9 := by unfold pg; omega
  obtain ⟨pg0, pg1⟩ := hp
  unfold maxLen at hs
  have hNN : (1 + (A : Int)) * (1 + (B : Int)) = (((1 + A) * (1 + B) : Nat) : Int) := by push_cast; rfl
  have HNN : Hid ((1 + (A : Int)) * (1 + (B : Int)) = (((1 + A) * (1 + B) : Nat) : Int)) := hNN
  have HN0 : Hid (0 < (1 + A) * (1 + B)) := (by omega : 0 < (1 + A) * (1 + B))
  have HN1 : Hid ((1 + A) * (1 + B) ≤ 576) := (by omega : (1 + A) * (1 + B) ≤ 576)
  have HOK : Hid (okR (rCreate gNew.rm 0 (1 + A) (1 + B))) := okR_new.create (can_first (by omega) (by omega) 0 (by omega))
  obtain ⟨PG, hPG⟩ : ∃ PG, pg ((1 + (A : Int)) * (1 + (B : Int))) = PG := ⟨_, rfl⟩
  have HPG : Hid (pg ((1 + (A : Int)) * (1 + (B : Int))) = PG) := hPG
  have HT : Hid (96 - tot (rCreate gNew.rm 0 (1 + A) (1 + B)).bs 8 = 96 - PG) := by
    have e : tot (rCreate gNew.rm 0 (1 + A) (1 + B)).bs 8 = PG := by
      show tot (updA gNew.rm.bs 0 (zeros ((1 + A) * (1 + B)))) 8 = PG
      rw [tot_upd (by omega), tot_new, ← hPG, hNN]
      simp [zeros, gNew, pg]
    rw [e]; exact (rfl : 96 - PG = 96 - PG)
  rw [hPG] at pg0 pg1
  clear hA hB hN hNN hPG p0 p1 q0 q1 x1 x2 y1 y2 HN
  by_cases hsz : s.size ≤ 1024
  · have hsz' : (s.size : Int) ≤ 1024 := by omega
    go_enter Try.func8, Try.ntmps8
    go_wp2_with (first | (go_at_call 25; refine (begun_st W).mono ?_; rintro e w0 ⟨g, rfl, hs0⟩; have S0 : Hid (St W w0 g (one gNew)) := hs0; clear hs0) | (go_at_call 26; refine (S0.out.calle (fun G q => send_pos G g _ s _ q (by omega) hsz)).mono ?_; rintro e w1 ⟨rfl, C1, hs1⟩; have S1 : Hid (St W w1 g (one C1)) := hs1; clear hs1 S0) | (go_at_call 27; refine (emptied_st S1.out (by omega)).mono ?_; rintro e w2 ⟨s2, n2, rfl, C2, hs2⟩; have S2 : Hid (St W w2 g (one C2)) := hs2; clear hs2 S1) | (go_at_call 28; refine (S2.out.call (fun G q => close_pos G g _ C2 _ q (by omega))).mono ?_; rintro e w3 ⟨rfl, hs3⟩; have S3 : Hid (St W w3 g (fun _ => none)) := hs3; clear hs3 S2) | (go_at_call 29; refine (S3.out.callb (fun G q => free_none G g _ q)).mono ?_; rintro e w4 ⟨rfl, hs4⟩; have S4 : Hid (St W w4 g (fun _ => none)) := hs4; clear hs4 S3) | (go_at_call 30; refine (S4.out.call (fun G q => open_pos G g _ q)).mono ?_; rintro e w5 ⟨rfl, hs5⟩; have S5 : Hid (St W w5 g (one gNew)) := hs5; clear hs5 S4) | (go_at_call 18; refine (kpick_as _ _ _ _ HX.out (by omega) (by omega) HA.out).mono ?_; rintro e w6 ⟨rfl, w6e⟩; subst w6; clear HX) | (go_at_call 18; refine (kpick_as _ _ _ _ HY.out (by omega) (by omega) HB.out).mono ?_; rintro e w6 ⟨rfl, w6e⟩; subst w6; clear HY) | (go_at_call 32; refine (text4 _ _ _ _ _ _ _ rfl ⟨by omega, by omega⟩ ⟨by omega, by omega⟩ ⟨by omega, by omega⟩ ⟨by omega, by omega⟩).mono ?_; rintro e w7 ⟨rfl, hb7⟩; have S7 : Hid (St W w7 g (one gNew)) := S5.out.below hb7; clear hb7 S5) | (go_at_call 31; refine (S7.out.call (fun G q => create_pos G g _ _ _ _ _ 0 (1 + A) (1 + B) _ _ _ q (by omega) rfl rfl (by omega) (by omega) (by omega) (by omega) ⟨by omega, by omega⟩ ⟨by omega, by omega⟩ rfl)).mono ?_; rintro e w8 ⟨rfl, hs8⟩; have S8 : Hid (St W w8 g (one (gI (rCreate gNew.rm 0 (1 + A) (1 + B))))) := hs8; clear hs8 S7) | (go_at_call 29; refine (S8.out.callb (fun G q => kfree_as G g _ _ _ q HT.out)).mono ?_; rintro e w9 ⟨rfl, hs9⟩; have S9 : Hid (St W w9 g (one (gI (rCreate gNew.rm 0 (1 + A) (1 + B))))) := hs9; clear hs9 S8) | (go_at_call 33; refine (kpages_as _ _ _ (1 + A) (1 + B) _ (by omega) (by omega) (by omega) (by omega) HPG.out).mono ?_; rintro e w10 ⟨rfl, w10e⟩; subst w10) | (go_at_call 34; refine (S9.out.call (fun G q => nought_any G g _ _ _ ((1 + A) * (1 + B)) _ q HOK.out (by omega) HNN.out HN0.out HN1.out rfl)).mono ?_; rintro e w11 ⟨rfl, hs11⟩; have S11 : Hid (St W w11 g (one (gI (rCreate gNew.rm 0 (1 + A) (1 + B))))) := hs11; clear hs11 S9))
    go_ret
    exact ⟨rfl, S11.out.done⟩
  · have hsz' : ¬ (s.size : Int) ≤ 1024 := by omega
    replace hsz : 1024 < s.size := by omega
    go_enter Try.func8, Try.ntmps8
    go_wp2_with (first | (go_at_call 25; refine (begun_st W).mono ?_; rintro e w0 ⟨g, rfl, hs0⟩; have S0 : Hid (St W w0 g (one gNew)) := hs0; clear hs0) | (go_at_call 26; refine (S0.out.calle (fun G q => send_neg G g _ s _ q (by omega) hsz)).mono ?_; rintro e w1 ⟨rfl, C1, hs1⟩; have S1 : Hid (St W w1 g (one C1)) := hs1; clear hs1 S0) | (go_at_call 27; refine (emptied_st S1.out (by omega)).mono ?_; rintro e w2 ⟨s2, n2, rfl, C2, hs2⟩; have S2 : Hid (St W w2 g (one C2)) := hs2; clear hs2 S1) | (go_at_call 28; refine (S2.out.call (fun G q => close_pos G g _ C2 _ q (by omega))).mono ?_; rintro e w3 ⟨rfl, hs3⟩; have S3 : Hid (St W w3 g (fun _ => none)) := hs3; clear hs3 S2) | (go_at_call 29; refine (S3.out.callb (fun G q => free_none G g _ q)).mono ?_; rintro e w4 ⟨rfl, hs4⟩; have S4 : Hid (St W w4 g (fun _ => none)) := hs4; clear hs4 S3) | (go_at_call 30; refine (S4.out.call (fun G q => open_pos G g _ q)).mono ?_; rintro e w5 ⟨rfl, hs5⟩; have S5 : Hid (St W w5 g (one gNew)) := hs5; clear hs5 S4) | (go_at_call 18; refine (kpick_as _ _ _ _ HX.out (by omega) (by omega) HA.out).mono ?_; rintro e w6 ⟨rfl, w6e⟩; subst w6; clear HX) | (go_at_call 18; refine (kpick_as _ _ _ _ HY.out (by omega) (by omega) HB.out).mono ?_; rintro e w6 ⟨rfl, w6e⟩; subst w6; clear HY) | (go_at_call 32; refine (text4 _ _ _ _ _ _ _ rfl ⟨by omega, by omega⟩ ⟨by omega, by omega⟩ ⟨by omega, by omega⟩ ⟨by omega, by omega⟩).mono ?_; rintro e w7 ⟨rfl, hb7⟩; have S7 : Hid (St W w7 g (one gNew)) := S5.out.below hb7; clear hb7 S5) | (go_at_call 31; refine (S7.out.call (fun G q => create_pos G g _ _ _ _ _ 0 (1 + A) (1 + B) _ _ _ q (by omega) rfl rfl (by omega) (by omega) (by omega) (by omega) ⟨by omega, by omega⟩ ⟨by omega, by omega⟩ rfl)).mono ?_; rintro e w8 ⟨rfl, hs8⟩; have S8 : Hid (St W w8 g (one (gI (rCreate gNew.rm 0 (1 + A) (1 + B))))) := hs8; clear hs8 S7) | (go_at_call 29; refine (S8.out.callb (fun G q => kfree_as G g _ _ _ q HT.out)).mono ?_; rintro e w9 ⟨rfl, hs9⟩; have S9 : Hid (St W w9 g (one (gI (rCreate gNew.rm 0 (1 + A) (1 + B))))) := hs9; clear hs9 S8) | (go_at_call 33; refine (kpages_as _ _ _ (1 + A) (1 + B) _ (by omega) (by omega) (by omega) (by omega) HPG.out).mono ?_; rintro e w10 ⟨rfl, w10e⟩; subst w10) | (go_at_call 34; refine (S9.out.call (fun G q => nought_any G g _ _ _ ((1 + A) * (1 + B)) _ q HOK.out (by omega) HNN.out HN0.out HN1.out rfl)).mono ?_; rintro e w11 ⟨rfl, hs11⟩; have S11 : Hid (St W w11 g (one (gI (rCreate gNew.rm 0 (1 + A) (1 + B))))) := hs11; clear hs11 S9))
    go_ret
    exact ⟨rfl, S11.out.done⟩

end Go.Proofs.Ytbedkfgdhaajaaa
