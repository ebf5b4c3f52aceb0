/- Walks: the document's answer: Create, Code, and the plain commands (P10 to P12). -/
import Derived.Test.YtbedkfgdhaajaabRefRoom
import Derived.Test.YtbedkfgdhaajaabVerify
namespace Go.Proofs.Ytbedkfgdhaajaab
open Go.RowKit

/-- what Create costs, and the room behind it -/
def crC (R : Rm) (h a b : Nat) : Int := if can R.bs h a b = 0 then 1 + (a : Int) * b else 1
def crR (R : Rm) (h a b : Nat) : Rm := if can R.bs h a b = 0 then rCreate R h a b else R

theorem tupI {a b c d : Int} (h : a = c) (k : b = d) : Ending.returned (.tuple #[.int .i64 a, .int .i64 b]) = .returned (.tuple #[.int .i64 c, .int .i64 d]) := by rw [h, k]

theorem rcreate_bad (b0 h a b : Nat) (R : Rm) (w : World) (hR : RoomAt w b0 0 R) (e : Int) (he : can R.bs h a b = e) (h0 : ¬ e = 0)
    (hw : Calls Try.prog 103 #[.pointer (some ⟨b0, 0, none⟩), .int .i64 h, .int .i64 a, .int .i64 b] w fun x w' => x = .returned (.tuple #[.int .i64 e, .int .i64 1]) ∧ w' = w) :
    Calls Try.prog 103 #[.pointer (some ⟨b0, 0, none⟩), .int .i64 h, .int .i64 a, .int .i64 b] w fun x w' => x = .returned (.tuple #[.int .i64 (can R.bs h a b), .int .i64 (crC R h a b)]) ∧ RGoes b0 0 w w' (crR R h a b) := by
  have e1 : crC R h a b = 1 := by unfold crC; rw [if_neg (by omega)]
  have e2 : crR R h a b = R := by unfold crR; rw [if_neg (by omega)]
  rw [e1, e2, he]
  refine hw.mono ?_
  rintro x w' ⟨h1, rfl⟩
  exact ⟨h1, RGoes.stay hR (Below.refl _ _)⟩

set_option maxHeartbeats 1000000 in
theorem rcreate_any (b0 h a b : Nat) (R : Rm) (w : World) (hR : RoomAt w b0 0 R) (hk : okR R) :
    Calls Try.prog 103 #[.pointer (some ⟨b0, 0, none⟩), .int .i64 h, .int .i64 a, .int .i64 b] w fun x w' => x = .returned (.tuple #[.int .i64 (can R.bs h a b), .int .i64 (crC R h a b)]) ∧ RGoes b0 0 w w' (crR R h a b) := by
  by_cases h8 : 8 ≤ h
  · refine rcreate_bad b0 h a b R w hR 2 (if_pos h8) (by omega) ?_
    have h8' : (8 : Int) ≤ h := by omega
    clear hR hk
    go_enter Try.func103, Try.ntmps103
    go_wp2
    go_ret2
    exact ⟨rfl, rfl⟩
  · have h8' : ¬ (8 : Int) ≤ h := by omega
    have n0 : (0 : Int) ≤ h := by omega
    have n8 : (h : Int) < 8 := by omega
    have q := hR.wd h (by omega)
    rw [Nat.zero_add] at q
    have ql := hR.lt
    have hz := hk.zer h (by omega)
    by_cases ht : 0 < (R.bs h).length
    · refine rcreate_bad b0 h a b R w hR 3 (by unfold can; rw [if_neg h8, if_pos ht]) (by omega) ?_
      have hw : 0 < R.wd h := hz.2 ht
      clear hR hk hz
      go_enter Try.func103, Try.ntmps103
      go_wp2
      go_ret2
      exact ⟨rfl, rfl⟩
    · have hw : ¬ 0 < R.wd h := fun p => ht (hz.1 p)
      clear hz
      by_cases u1 : a < 1
      · refine rcreate_bad b0 h a b R w hR 4 (by unfold can; rw [if_neg h8, if_neg ht, if_neg (fun p => by have := side_bd p.1; omega)]) (by omega) ?_
        have u1' : (a : Int) < 1 := by omega
        clear hR hk
        go_enter Try.func103, Try.ntmps103
        go_wp2
        go_ret2
        exact ⟨rfl, rfl⟩
      · have u1' : ¬ (a : Int) < 1 := by omega
        by_cases v1 : b < 1
        · refine rcreate_bad b0 h a b R w hR 4 (by unfold can; rw [if_neg h8, if_neg ht, if_neg (fun p => by have := side_bd p.2; omega)]) (by omega) ?_
          have v1' : (b : Int) < 1 := by omega
          clear hR hk
          go_enter Try.func103, Try.ntmps103
          go_wp2
          go_ret2
          exact ⟨rfl, rfl⟩
        · have v1' : ¬ (b : Int) < 1 := by omega
          by_cases u2 : 24 < a
          · refine rcreate_bad b0 h a b R w hR 4 (by unfold can; rw [if_neg h8, if_neg ht, if_neg (fun p => by have := side_bd p.1; omega)]) (by omega) ?_
            have u2' : (24 : Int) < a := by omega
            clear hR hk
            go_enter Try.func103, Try.ntmps103
            go_wp2
            go_ret2
            exact ⟨rfl, rfl⟩
          · have u2' : ¬ (24 : Int) < a := by omega
            by_cases v2 : 24 < b
            · refine rcreate_bad b0 h a b R w hR 4 (by unfold can; rw [if_neg h8, if_neg ht, if_neg (fun p => by have := side_bd p.2; omega)]) (by omega) ?_
              have v2' : (24 : Int) < b := by omega
              clear hR hk
              go_enter Try.func103, Try.ntmps103
              go_wp2
              go_ret2
              exact ⟨rfl, rfl⟩
            · have v2' : ¬ (24 : Int) < b := by omega
              have su : side a = true := decide_eq_true ⟨by omega, by omega⟩
              have sv : side b = true := decide_eq_true ⟨by omega, by omega⟩
              obtain ⟨m0, m1⟩ := mul24 (side_bd su) (side_bd sv)
              have hpg : 0 ≤ pg ((a : Int) * b) ∧ pg ((a : Int) * b) ≤ 9 := by unfold pg; omega
              obtain ⟨p0, p1⟩ := hpg
              obtain ⟨t0, t1⟩ := tot_bd (f := R.bs) (n := 8) hk.len
              by_cases hq : 12 < tot R.bs 8 + pg ((a : Int) * b)
              · refine rcreate_bad b0 h a b R w hR 5 (by unfold can; rw [if_neg h8, if_neg ht, if_pos ⟨su, sv⟩, if_pos hq]) (by omega) ?_
                have HR : Hid (RoomAt w b0 0 R) := hR
                have HL : Hid (okR R) := hk
                clear hR hk
                go_enter Try.func103, Try.ntmps103
                go_wp2_with (first | (go_at_call 62; refine (taken_any b0 0 R _ HR.out HL.out.len).mono ?_; rintro e w2 ⟨rfl, hw2⟩; subst w2) | (go_at_call 85; refine (rpages_any _ _ (by omega) (by omega)).mono ?_; rintro e w2 ⟨rfl, hw2⟩; subst w2))
                go_ret2
                exact ⟨rfl, rfl⟩
              · have hc : can R.bs h a b = 0 := by unfold can; rw [if_neg h8, if_neg ht, if_pos ⟨su, sv⟩, if_neg hq]
                have e1 : crC R h a b = 1 + (a : Int) * b := by unfold crC; rw [if_pos hc]
                have e2 : crR R h a b = rCreate R h a b := by unfold crR; rw [if_pos hc]
                rw [e1, e2, hc]
                have HR : Hid (RoomAt w b0 0 R) := hR
                have HL : Hid (okR R) := hk
                have em : ((a : Int) * b) = ((a * b : Nat) : Int) := by rw [Int.natCast_mul]
                have HM : Hid (((a : Int) * b) = ((a * b : Nat) : Int)) := em
                have hn : a * b ≤ 576 := by omega
                clear hR hk hc e1 e2 em
                go_enter Try.func103, Try.ntmps103
                go_wp2_with (first | (go_at_call 62; refine (taken_any b0 0 R _ HR.out HL.out.len).mono ?_; rintro e w2 ⟨rfl, hw2⟩; subst w2) | (go_at_call 85; refine (rpages_any _ _ (by omega) (by omega)).mono ?_; rintro e w2 ⟨rfl, hw2⟩; subst w2) | (go_at_call 109; rw [HM.out]; refine (many_any (a * b) 0 _ _ (by omega) (by rfl)).mono ?_; rintro e w3 ⟨rfl, hb3⟩; have B3 : Hid (Below w.heap.size w w3) := hb3; have h3 := HR.out.below hb3; have HR3 : Hid (RoomAt w3 b0 0 R) := h3; have q3 := h3.wd h (by omega); have q4 := h3.bs h (by omega); rw [Nat.zero_add] at q3 q4; have q5 := h3.fz; have q6 := h3.lt; clear h3 hb3))
                go_ret2
                have g1 := (HR3.out.setWd (k := h) (by omega) (a : Int)).setBs (k := h) (by omega) (zeros (a * b))
                rw [Nat.zero_add] at g1
                refine ⟨tupI rfl (by first | rfl | rw [HM.out]), RGoes.of_below B3.out ⟨((Only.refl (fun x => x = b0) w3).setCell (p := ⟨b0, h * 2, none⟩) (.inl rfl) _).setCell (p := ⟨b0, h * 2 + 1, none⟩) (.inl rfl) _, ?_⟩⟩
                exact g1

set_option maxHeartbeats 1000000 in
theorem rcode_any (b0 k n : Nat) (s : List UInt8) (R : Rm) (w : World) (hR : RoomAt w b0 0 R) (hs : s.length ≤ 2000) :
    Calls Try.prog 104 #[.pointer (some ⟨b0, 0, none⟩), .int .i64 k, .int .i64 n, .string (str s)] w fun x w' => x = .returned (.tuple #[.int .i64 (cer k n s), .int .i64 (if cer k n s = 0 then 1 + (n : Int) else 1)]) ∧ RGoes b0 0 w w' (if cer k n s = 0 then rCode R k s else R) := by
  have HR : Hid (RoomAt w b0 0 R) := hR
  have HS : Hid ((str s).size ≤ maxLen) := by have : (str s).size ≤ maxLen := by rw [str_size]; unfold maxLen; omega
                                              exact this
  have ql := hR.lt
  clear hR
  by_cases h1 : 4 ≤ k
  · have e : cer k n s = 6 := if_pos h1
    rw [e, if_neg (by omega), if_neg (by omega)]
    have h1' : (4 : Int) ≤ k := by omega
    clear e
    go_enter Try.func104, Try.ntmps104
    go_wp2
    go_ret2
    exact ⟨rfl, RGoes.stay HR.out (Below.refl _ _)⟩
  · have h1' : ¬ (4 : Int) ≤ k := by omega
    by_cases h2 : 32 < n
    · have e : cer k n s = 7 := by unfold cer; rw [if_neg h1, if_pos h2]
      rw [e, if_neg (by omega), if_neg (by omega)]
      have h2' : (32 : Int) < n := by omega
      clear e
      go_enter Try.func104, Try.ntmps104
      go_wp2
      go_ret2
      exact ⟨rfl, RGoes.stay HR.out (Below.refl _ _)⟩
    · have h2' : ¬ (32 : Int) < n := by omega
      by_cases h3 : (ver (str s)).1 = 0
      · have e : cer k n s = 0 := by unfold cer; rw [if_neg h1, if_neg h2, if_pos h3]
        rw [e, if_pos rfl, if_pos rfl]
        have h3' : ((ver (str s)).1 != 0) = false := by simpa using h3
        have q1 := HR.out.has k (by omega)
        have q2 := HR.out.cd k (by omega)
        have q3 := HR.out.fz
        rw [Nat.zero_add] at q1 q2
        have n0 : (0 : Int) ≤ k := by omega
        have n4 : (k : Int) < 4 := by omega
        clear e h3
        go_enter Try.func104, Try.ntmps104
        go_wp2_with (go_at_call 110; refine (refVerify_any _ _ HS.out).mono ?_; rintro e w2 ⟨rfl, hw2⟩; subst w2)
        go_ret2
        have g1 := (HR.out.setHas (k := k) (by omega) true).setCd (k := k) (by omega) s
        rw [Nat.zero_add, Nat.zero_add] at g1
        exact ⟨rfl, ((Only.refl (fun x => x = b0) w).setCell (p := ⟨b0, 16 + k, none⟩) (.inl rfl) _).setCell (p := ⟨b0, 20 + k, none⟩) (.inl rfl) _, g1⟩
      · have e : cer k n s = 7 := by unfold cer; rw [if_neg h1, if_neg h2, if_neg h3]
        rw [e, if_neg (by omega), if_neg (by omega)]
        have h3' : ((ver (str s)).1 != 0) = true := by simpa using h3
        clear e h3
        go_enter Try.func104, Try.ntmps104
        go_wp2_with (go_at_call 110; refine (refVerify_any _ _ HS.out).mono ?_; rintro e w2 ⟨rfl, hw2⟩; subst w2)
        go_ret2
        exact ⟨rfl, RGoes.stay HR.out (Below.refl _ _)⟩

end Go.Proofs.Ytbedkfgdhaajaab
