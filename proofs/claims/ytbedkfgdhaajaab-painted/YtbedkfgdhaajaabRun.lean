/- Walks: the program's Shade (P5). -/
import Derived.Test.YtbedkfgdhaajaabDo
namespace Go.Proofs.Ytbedkfgdhaajaab
open Go.RowKit

theorem mach_new (W : World) (t : TypeId) (x y old col : Int) :
    Mach (W.alloc (.cells #[.int .i64 x, .int .i64 y, .int .i64 old, .int .i64 col, .int .i64 0, .int .i64 0, .int .i64 0, .int .i64 0, .int .i64 0, .bool false] t)) W.heap.size (reg0 x y old col) 0 false := by
  refine ⟨fun j hj => ?_, by simp [go_sem], by simp [go_sem], fun j => by simp [go_sem], by simp⟩
  have k : j = 0 ∨ j = 1 ∨ j = 2 ∨ j = 3 ∨ j = 4 ∨ j = 5 ∨ j = 6 ∨ j = 7 := by omega
  rcases k with rfl | rfl | rfl | rfl | rfl | rfl | rfl | rfl <;> simp [go_sem, reg0]

/-- the answer that is still to come, k instructions being done -/
def ans (s tx : ByteArray) (k : Nat) (r : Nat → Int) (n : Nat) (en : Bool) : Int × Int := if en = true then (r 0 % 256, (k : Int)) else sh s tx (64 - k) r n

theorem ans_end {s tx : ByteArray} {k : Nat} {r : Nat → Int} {n : Nat} : ans s tx k r n true = (r 0 % 256, (k : Int)) := rfl
theorem ans_out {s tx : ByteArray} {k : Nat} {r : Nat → Int} {n : Nat} (hk : k ≤ 64) (h : s.size / 4 ≤ n) : ans s tx k r n false = (r 0 % 256, (k : Int)) := by
  unfold ans
  rw [if_neg (by simp), sh_out h]
  congr 1
  omega
theorem ans_stuck {s tx : ByteArray} {r : Nat → Int} {n : Nat} (h : ¬ s.size / 4 ≤ n) : ans s tx 64 r n false = (170, 64) := by
  unfold ans
  rw [if_neg (by simp)]
  exact sh_stuck h
theorem ans_step {s tx : ByteArray} {k : Nat} {r : Nat → Int} {n : Nat} (hk : k < 64) (h : ¬ s.size / 4 ≤ n) :
    ans s tx k r n false = ans s tx (k + 1) (stR (bt s (4 * n)) (bt s (4 * n + 1)) (bt s (4 * n + 2)) (bt s (4 * n + 3)) tx r) (stN (bt s (4 * n)) (bt s (4 * n + 1)) (bt s (4 * n + 2)) r n) (decide (bt s (4 * n) = 8)) := by
  obtain ⟨f, hf⟩ : ∃ f, 64 - k = f + 1 := ⟨63 - k, by omega⟩
  have hf' : 64 - (k + 1) = f := by omega
  unfold ans
  rw [if_neg (by simp), hf, hf']
  by_cases h8 : bt s (4 * n) = 8
  · rw [sh_end h h8, if_pos (decide_eq_true h8), h8]
    have e : stR 8 (bt s (4 * n + 1)) (bt s (4 * n + 2)) (bt s (4 * n + 3)) tx r = r := by unfold stR; rw [if_neg (by omega)]
    rw [e]
    congr 1
    omega
  · rw [sh_step h h8, if_neg (by simp [h8])]

theorem stN_bd {o a b : Int} {r : Nat → Int} {n : Nat} (hb : bytey b) (hn : n ≤ 100) : stN o a b r n ≤ 1000 := by
  unfold stN bytey at *
  split <;> omega

set_option maxHeartbeats 1000000 in
theorem run_any (s : ByteArray) (x y old col : Int) (ao : Option Addr) (cp : Nat) (tx : ByteArray) (w : World) (hs : s.size ≤ 128) (ho : ∀ k, k < s.size / 4 → bt s (4 * k) ≤ 8) (ht : BS w ao cp tx.data.toList) (h1 : bytey x) (h2 : bytey y) (h3 : bytey old) (h4 : bytey col) :
    Calls Try.prog 59 #[.string s, .agg #[.int .i64 x, .int .i64 y, .int .i64 old, .int .i64 col], .slice ao tx.size cp] w fun e w' => e = .returned (.tuple #[.int .i64 (sh s tx 64 (reg0 x y old col) 0).1, .int .i64 (sh s tx 64 (reg0 x y old col) 0).2]) ∧ Below w.heap.size w w' := by
  have HO : Hid (∀ k, k < s.size / 4 → bt s (4 * k) ≤ 8) := ho
  have HT : Hid (BS w ao cp tx.data.toList) := ht
  have HM : Hid (s.size ≤ maxLen) := by have : s.size ≤ maxLen := by unfold maxLen; omega
                                        exact this
  have H0 : Hid (∀ j, wordy (reg0 x y old col j)) := reg0_bd h1 h2 h3 h4
  have eA : ans s tx 0 (reg0 x y old col) 0 false = sh s tx 64 (reg0 x y old col) 0 := rfl
  have EA : Hid _ := eA
  clear ho ht h1 h2 h3 h4 eA
  go_enter Try.func59, Try.ntmps59
  go_wp2
  go_loopw [10, 11] (fun i _ wr => ∃ (k : Nat) (r : Nat → Int) (n : Nat) (en : Bool), k ≤ 64 ∧ i = .int .i64 k ∧ Below w.heap.size w wr ∧ Mach wr (w.heap.size + 1) r n en ∧ (∀ j, wordy (r j)) ∧ n ≤ 1000 ∧ ans s tx k r n en = sh s tx 64 (reg0 x y old col) 0) (fun i _ _ => 64 - (intOf i).toNat)
  case atStart => 
    refine ⟨0, _, 0, false, by omega, rfl, ((Below.refl _ _).alloc (Nat.le_refl _) _).alloc (by simp) _, ?_, H0.out, by omega, EA.out⟩
    have := mach_new (w.alloc (.cells #[.int .i64 x, .int .i64 y, .int .i64 old, .int .i64 col] 88)) 146 x y old col
    simp only [World.size_alloc] at this
    exact this
  case round =>
    obtain ⟨k, r, n, en, hk, rfl, hB, hMa, hR, hn, hA⟩ := hrel
    have BB : Hid (Below w.heap.size w wr) := hB
    have MM : Hid (Mach wr (w.heap.size + 1) r n en) := hMa
    have RR : Hid (∀ j, wordy (r j)) := hR
    have AA : Hid (ans s tx k r n en = sh s tx 64 (reg0 x y old col) 0) := hA
    obtain ⟨hr, hn8, he9, hf, hg⟩ := hMa
    have hr0 := hr 0 (by omega)
    obtain ⟨w0, w1⟩ := hR 0
    clear hB hR hA hr hf EA H0
    cases en
    · by_cases ho : s.size / 4 ≤ n
      · have hd : decide ((n : Int) < (s.size : Int) / 4) = false := decide_eq_false (by omega)
        go_wp2
        go_ret2
        refine ⟨tup2 ?_ ?_, BB.out⟩
        · rw [← AA.out, ans_out hk ho]
        · rw [← AA.out, ans_out hk ho]
      · have hlt : (n : Int) < (s.size : Int) / 4 := by omega
        by_cases h64 : k = 64
        · subst h64
          go_wp2
          go_ret2
          refine ⟨tup2 ?_ ?_, BB.out⟩
          · rw [← AA.out, ans_stuck ho]
          · rw [← AA.out, ans_stuck ho]
        · have h64' : ((k : Int) == 64) = false := by simp; omega
          have S1 := bt_bd s (4 * n)
          have S2 : bytey (bt s (4 * n + 1)) := bt_bd _ _
          have S3 : bytey (bt s (4 * n + 2)) := bt_bd _ _
          have S4 : bytey (bt s (4 * n + 3)) := bt_bd _ _
          have S5 := HO.out n (by omega)
          have SS : Hid ((0 ≤ bt s (4 * n)) ∧ bytey (bt s (4 * n + 1)) ∧ bytey (bt s (4 * n + 2)) ∧ bytey (bt s (4 * n + 3)) ∧ bt s (4 * n) ≤ 8) := ⟨S1.1, S2, S3, S4, S5⟩
          clear S1 S2 S3 S4 S5
          go_wp2_with (first | (go_at_call 39; refine (fetch_any _ _ _ HM.out (by omega)).mono ?_; rintro e w2 ⟨rfl, hb2⟩) | (go_at_call 83; refine (do_any (w.heap.size + 1) r n _ _ _ _ ao cp tx _ SS.out.1 SS.out.2.2.2.2 ((MM.out.below hb2).alloc _) SS.out.2.1 SS.out.2.2.1 SS.out.2.2.2.1 (by omega) RR.out (((HT.out.below BB.out).below hb2).alloc _) (fun q => by have := HT.out.lt q; omega)).mono ?_; rintro e w3 ⟨rfl, hb3, hm3⟩))
          have zz := BB.out.size
          have z2 := hb2.size
          go_roundw
          case rel => exact ⟨k + 1, _, _, _, by omega, by go_num, ((BB.out.trans (hb2.mono zz)).alloc (by omega) _).trans (hb3.mono (by omega)), hm3, stR_bd RR.out SS.out.2.2.1 SS.out.2.2.2.1, stN_bd SS.out.2.2.1 (by omega), (ans_step (by omega) ho).symm.trans AA.out⟩
          case measure => simp [intOf]; omega
    · go_wp2
      go_ret2
      refine ⟨tup2 ?_ ?_, BB.out⟩
      · rw [← AA.out, ans_end]
      · rw [← AA.out, ans_end]

end Go.Proofs.Ytbedkfgdhaajaab
