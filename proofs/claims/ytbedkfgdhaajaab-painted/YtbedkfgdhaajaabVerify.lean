/- Walks: Verify of the program and of the document's answer (P4). -/
import Derived.Test.YtbedkfgdhaajaabProg
import Derived.Test.YtbedkfgdhaajaabPlain
import Derived.WalkKit
import Derived.WalkSpells
import Derived.WalkLawsBesides
import Derived.BigRegion
namespace Go.Proofs.Ytbedkfgdhaajaab
open Go.RowKit

theorem wrap64_bt {s : ByteArray} {i : Nat} (h : i < s.size) : wrap64 (s[i].toNat : Int) = bt s i := by
  rw [bt_of h]
  have := UInt8.toNat_lt s[i]
  unfold wrap64
  omega

theorem tup2 {a b c d : Int} (h : a = c) (k : b = d) : Ending.returned (.tuple #[.int .i64 a, .int .i64 b]) = .returned (.tuple #[.int .i64 c, .int .i64 d]) := by rw [h, k]

set_option maxHeartbeats 400000 in
theorem fetch_any (s : ByteArray) (k : Nat) (w : World) (hs : s.size ≤ maxLen) (hk : 4 * k + 4 ≤ s.size) :
    Calls Try.prog 39 #[.string s, .int .i64 k] w fun e w' => e = .returned (.agg #[.int .i64 (bt s (4 * k)), .int .i64 (bt s (4 * k + 1)), .int .i64 (bt s (4 * k + 2)), .int .i64 (bt s (4 * k + 3))]) ∧ Below w.heap.size w w' := by
  unfold maxLen at hs
  have h0 : (0 : Int) ≤ 4 * (k : Int) := by omega
  have h1 : (4 * (k : Int)) < (s.size : Int) := by omega
  have h2 : (4 * (k : Int)) + 1 < (s.size : Int) := by omega
  have h3 : (4 * (k : Int)) + 2 < (s.size : Int) := by omega
  have h4 : (4 * (k : Int)) + 3 < (s.size : Int) := by omega
  have g1 : (0 : Int) ≤ 4 * (k : Int) + 1 := by omega
  have g2 : (0 : Int) ≤ 4 * (k : Int) + 2 := by omega
  have g3 : (0 : Int) ≤ 4 * (k : Int) + 3 := by omega
  go_enter Try.func39, Try.ntmps39
  go_wp2
  go_region
  go_wp2
  refine bodyPost_ret (v := .agg #[.int .i64 (bt s (4 * k)), .int .i64 (bt s (4 * k + 1)), .int .i64 (bt s (4 * k + 2)), .int .i64 (bt s (4 * k + 3))]) (by simp [results, Try.results39, go_sem, wrap64_bt]) rfl ⟨rfl, ?_⟩
  exact ((Below.refl _ _).alloc (Nat.le_refl _) _).drew

set_option maxHeartbeats 400000 in
theorem valid_any (o a b c n : Int) (w : World) :
    Calls Try.prog 40 #[.agg #[.int .i64 o, .int .i64 a, .int .i64 b, .int .i64 c], .int .i64 n] w fun e w' => e = .returned (.bool (vld o b n)) ∧ Below w.heap.size w w' := by
  by_cases h : o = 7
  · subst h
    have e : vld 7 b n = decide (b ≤ n) := by simp [vld]
    rw [e]
    go_enter Try.func40, Try.ntmps40
    go_wp2
    go_ret
    exact ⟨rfl, (Below.refl _ _).alloc (Nat.le_refl _) _⟩
  · have e : vld o b n = decide (o ≤ 8) := by simp [vld, h]
    rw [e]
    have h' : (o == 7) = false := by simpa using h
    clear h e
    go_enter Try.func40, Try.ntmps40
    go_wp2
    go_ret
    exact ⟨rfl, (Below.refl _ _).alloc (Nat.le_refl _) _⟩

set_option maxHeartbeats 400000 in
theorem refVerify_any (s : ByteArray) (w : World) (hs : s.size ≤ maxLen) :
    Calls Try.prog 110 #[.string s] w fun e w' => e = .returned (.tuple #[.int .i64 (ver s).1, .int .i64 (ver s).2]) ∧ w' = w := by
  unfold maxLen at hs
  by_cases hl : 128 < s.size
  · rw [ver_long hl]
    go_enter Try.func110, Try.ntmps110
    go_wp2
    go_ret2
    exact ⟨rfl, rfl⟩
  · go_enter Try.func110, Try.ntmps110
    go_wp2
    go_loop [5, 6] (fun i _ => ∃ k : Nat, k ≤ s.size / 4 ∧ i = .int .i64 k ∧ ∀ j, j < k → okI s (s.size / 4) j = true) (fun i _ => s.size / 4 - (intOf i).toNat)
    case atStart => exact ⟨0, Nat.zero_le _, rfl, fun j hj => absurd hj (Nat.not_lt_zero _)⟩
    case round =>
      obtain ⟨k, hk, rfl, ho⟩ := hrel
      have HO : Hid (∀ j, j < k → okI s (s.size / 4) j = true) := ho
      clear ho
      by_cases hlt : k < s.size / 4
      · have i0 : (0 : Int) ≤ 4 * (k : Int) := by omega
        have i1 : (4 * (k : Int)) < (s.size : Int) := by omega
        have i2 : (0 : Int) ≤ 4 * (k : Int) + 2 := by omega
        have i3 : (4 * (k : Int)) + 2 < (s.size : Int) := by omega
        go_wp2
        · have hv : okI s (s.size / 4) k = false := by
            rw [okI_jump (by omega) ‹_›]
            rw [wrap64_bt (by omega)] at *
            exact decide_eq_false (by omega)
          go_ret2
          exact ⟨tup2 (by rw [ver_bad hl rfl hlt HO.out hv]) (by rw [ver_bad hl rfl hlt HO.out hv]), rfl⟩
        · have hv : okI s (s.size / 4) k = true := by
            rw [okI_jump (by omega) ‹_›]
            rw [wrap64_bt (by omega)] at *
            exact decide_eq_true (by omega)
          go_round
          case rel => exact ⟨k + 1, by omega, by go_num, all_succ HO.out hv⟩
          case measure => simp [intOf]; omega
        · have hv : okI s (s.size / 4) k = true := okI_low (by omega) ‹_› ‹_›
          go_round
          case rel => exact ⟨k + 1, by omega, by go_num, all_succ HO.out hv⟩
          case measure => simp [intOf]; omega
        · have hv : okI s (s.size / 4) k = false := okI_high (by omega) ‹_›
          go_ret2
          exact ⟨tup2 (by rw [ver_bad hl rfl hlt HO.out hv]) (by rw [ver_bad hl rfl hlt HO.out hv]), rfl⟩
      · have ek : k = s.size / 4 := by omega
        have HO' : Hid (∀ j, j < s.size / 4 → okI s (s.size / 4) j = true) := ek ▸ HO.out
        clear HO ek
        go_wp2
        · go_ret2
          have hr : s.size % 4 ≠ 0 := by
            have : ((s.size : Int) % 4 != 0) = true := by assumption
            simp at this
            omega
          exact ⟨tup2 (by rw [ver_odd hl rfl HO'.out hr]) (by rw [ver_odd hl rfl HO'.out hr]; simp), rfl⟩
        · go_ret2
          have hr : s.size % 4 = 0 := by
            have : ((s.size : Int) % 4 != 0) = false := by assumption
            simp at this
            omega
          exact ⟨tup2 (by rw [ver_ok hl rfl HO'.out hr]) (by rw [ver_ok hl rfl HO'.out hr]), rfl⟩

set_option maxHeartbeats 400000 in
theorem verify_in (s : ByteArray) (w : World) (hs : s.size ≤ maxLen) :
    Calls Try.prog 29 #[.string s] w fun e w' => e = .returned (.tuple #[.int .i64 (ver s).1, .int .i64 (ver s).2]) ∧ Below w.heap.size w w' := by
  by_cases hl : 128 < s.size
  · unfold maxLen at hs
    rw [ver_long hl]
    go_enter Try.func29, Try.ntmps29
    go_wp2
    go_ret2
    exact ⟨rfl, Below.refl _ _⟩
  · have HS : Hid (s.size ≤ maxLen) := hs
    unfold maxLen at hs
    go_enter Try.func29, Try.ntmps29
    go_wp2
    go_loopw [5, 6] (fun i _ wr => Below w.heap.size w wr ∧ ∃ k : Nat, k ≤ s.size / 4 ∧ i = .int .i64 k ∧ ∀ j, j < k → okI s (s.size / 4) j = true) (fun i _ _ => s.size / 4 - (intOf i).toNat)
    case atStart => exact ⟨Below.refl _ _, 0, Nat.zero_le _, rfl, fun j hj => absurd hj (Nat.not_lt_zero _)⟩
    case round =>
      obtain ⟨hb, k, hk, rfl, ho⟩ := hrel
      have HO : Hid (∀ j, j < k → okI s (s.size / 4) j = true) := ho
      clear ho
      have hz := hb.size
      by_cases hlt : k < s.size / 4
      · cases hv : okI s (s.size / 4) k
        · have HV : Hid (okI s (s.size / 4) k = false) := hv
          rw [okI_eq] at hv
          go_wp2_with (first | (go_at_call 39; refine (fetch_any _ _ _ HS.out (by omega)).mono ?_; rintro e w1 ⟨rfl, hb1⟩) | (go_at_call 40; refine (valid_any _ _ _ _ _ _).mono ?_; rintro e w2 ⟨rfl, hb2⟩))
          go_ret2
          have hz1 := hb1.size
          refine ⟨tup2 (by rw [ver_bad hl rfl hlt HO.out HV.out]) (by rw [ver_bad hl rfl hlt HO.out HV.out]), ?_⟩
          exact ((hb.trans (hb1.mono hz)).alloc (by omega) _).trans (hb2.mono (by simp; omega))
        · have HV : Hid (okI s (s.size / 4) k = true) := hv
          rw [okI_eq] at hv
          go_wp2_with (first | (go_at_call 39; refine (fetch_any _ _ _ HS.out (by omega)).mono ?_; rintro e w1 ⟨rfl, hb1⟩) | (go_at_call 40; refine (valid_any _ _ _ _ _ _).mono ?_; rintro e w2 ⟨rfl, hb2⟩))
          have hz1 := hb1.size
          go_roundw
          case rel => exact ⟨((hb.trans (hb1.mono hz)).alloc (by omega) _).trans (hb2.mono (by simp; omega)), k + 1, by omega, by go_num, all_succ HO.out HV.out⟩
          case measure => simp [intOf]; omega
      · have ek : k = s.size / 4 := by omega
        have HO' : Hid (∀ j, j < s.size / 4 → okI s (s.size / 4) j = true) := ek ▸ HO.out
        clear HO ek
        go_wp2
        · go_ret2
          have hr : s.size % 4 ≠ 0 := by
            have : ((s.size : Int) % 4 != 0) = true := by assumption
            simp at this
            omega
          exact ⟨tup2 (by rw [ver_odd hl rfl HO'.out hr]) (by rw [ver_odd hl rfl HO'.out hr]; simp), hb⟩
        · go_ret2
          have hr : s.size % 4 = 0 := by
            have : ((s.size : Int) % 4 != 0) = false := by assumption
            simp at this
            omega
          exact ⟨tup2 (by rw [ver_ok hl rfl HO'.out hr]) (by rw [ver_ok hl rfl HO'.out hr]), hb⟩

end Go.Proofs.Ytbedkfgdhaajaab
