/- Walks: Shade of the document's answer (P5). -/
import Derived.Test.YtbedkfgdhaajaabShading
namespace Go.Proofs.Ytbedkfgdhaajaab
open Go.RowKit

theorem word_mod {v : Int} (h : wordy v) : v % 65536 = v := by unfold wordy at h; omega

set_option maxHeartbeats 1000000 in
theorem value_any (o b c x y : Int) (tx : ByteArray) (w : World) (ho0 : 0 ≤ o) (ho6 : o ≤ 6) (hb : bytey b) (hc : bytey c) (hx : wordy x) (hy : wordy y) (_ht : tx.size ≤ maxLen) :
    Calls Try.prog 119 #[.int .i64 o, .int .i64 b, .int .i64 c, .int .i64 x, .int .i64 y, .string tx] w fun e w' => e = .returned (.int .i64 (vl o b c x y tx)) ∧ w' = w := by
  have HV : Hid (wordy (vl o b c x y tx)) := vl_bd hb hc hx hy
  have HQ : Hid (wordy (x / y)) := quot_bd hx hy
  have p1 := (mul_word hx hy).1
  have p2 := (mul_word hx hy).2
  unfold maxLen at _ht
  obtain ⟨b0, b1⟩ := hb
  obtain ⟨c0, c1⟩ := hc
  obtain ⟨x0, x1⟩ := hx
  obtain ⟨y0, y1⟩ := hy
  have k : o = 0 ∨ o = 1 ∨ o = 2 ∨ o = 3 ∨ o = 4 ∨ o = 5 ∨ o = 6 := by omega
  rcases k with rfl | rfl | rfl | rfl | rfl | rfl | rfl
  · go_enter Try.func119, Try.ntmps119
    go_wp2
    go_ret
    exact ⟨ret1 (by simp [vl]; omega), rfl⟩
  · go_enter Try.func119, Try.ntmps119
    go_wp2
    go_ret
    exact ⟨ret1 (by simp [vl]), rfl⟩
  · go_enter Try.func119, Try.ntmps119
    go_wp2
    go_ret
    exact ⟨ret1 (by simp [vl]), rfl⟩
  · go_enter Try.func119, Try.ntmps119
    go_wp2
    go_ret
    exact ⟨ret1 (by simp [vl]), rfl⟩
  · by_cases h : 0 < y
    · go_enter Try.func119, Try.ntmps119
      go_wp2
      go_ret
      refine ⟨ret1 ?_, rfl⟩
      have e : vl 4 b c x y tx = x / y := by simp [vl]
      rw [e]
      first | exact word_mod HQ.out | (rw [Int.tmod_eq_emod_of_nonneg HQ.out.1]; exact word_mod HQ.out)
    · have e : y = 0 := by omega
      subst e
      go_enter Try.func119, Try.ntmps119
      go_wp2
      go_ret
      exact ⟨ret1 (by simp [vl]), rfl⟩
  · by_cases h : x < y
    · go_enter Try.func119, Try.ntmps119
      go_wp2
      go_ret
      exact ⟨ret1 (by simp [vl, h]), rfl⟩
    · go_enter Try.func119, Try.ntmps119
      go_wp2
      go_ret
      exact ⟨ret1 (by simp [vl]; omega), rfl⟩
  · by_cases h : x < (tx.size : Int)
    · go_enter Try.func119, Try.ntmps119
      go_wp2
      go_ret
      refine ⟨ret1 ?_, rfl⟩
      have e : vl 6 b c x y tx = bt tx x.toNat := by simp [vl]
      have k := bt_bd tx x.toNat
      rw [e, wrap64_bt (by omega), Int.tmod_eq_emod_of_nonneg k.1]
      omega
    · go_enter Try.func119, Try.ntmps119
      go_wp2
      go_ret
      refine ⟨ret1 ?_, rfl⟩
      have e : vl 6 b c x y tx = 0 := by simp [vl]; unfold bt; rw [dif_neg (by omega)]
      rw [e]

/-- the registers lie in block g -/
def Regs (W : World) (g : Nat) (r : Nat → Int) : Prop :=
  (∀ j, j < 8 → W.cell? ⟨g, j, none⟩ = some (.int .i64 (r j))) ∧ (∀ j, W.frozen? ⟨g, j, none⟩ = false) ∧ g < W.heap.size

theorem regs_new (W : World) (t : TypeId) (x y old col : Int) :
    Regs (W.alloc (.cells #[.int .i64 x, .int .i64 y, .int .i64 old, .int .i64 col, .int .i64 0, .int .i64 0, .int .i64 0, .int .i64 0] t)) W.heap.size (reg0 x y old col) := by
  refine ⟨fun j hj => ?_, fun j => by simp [go_sem], by simp⟩
  have k : j = 0 ∨ j = 1 ∨ j = 2 ∨ j = 3 ∨ j = 4 ∨ j = 5 ∨ j = 6 ∨ j = 7 := by omega
  rcases k with rfl | rfl | rfl | rfl | rfl | rfl | rfl | rfl <;> simp [go_sem, reg0]

theorem Regs.drew {W : World} {g : Nat} {r : Nat → Int} (h : Regs W g r) : Regs W.drew g r := h

theorem Regs.setReg {W : World} {g : Nat} {r : Nat → Int} {k : Nat} {v : Int} (h : Regs W g r) (hk : k < 8) : Regs (W.setCell ⟨g, k, none⟩ (.int .i64 v)) g (upd r k v) := by
  obtain ⟨hr, hf, hg⟩ := h
  refine ⟨fun j hj => ?_, fun j => ?_, by rw [size_setCell]; exact hg⟩
  · by_cases e : j = k
    · subst e; rw [upd_same]; exact World.cell?_setCell_same _ _ _ (hr j hj)
    · rw [upd_other _ _ e, World.cell?_setCell_other _ _ _ _ (by intro e1; injection e1 with _ e2; omega)]; exact hr j hj
  · rw [World.frozen?_setCell]; exact hf j

theorem Regs.setAt {W : World} {g : Nat} {r : Nat → Int} {k j : Nat} {v : Int} (h : Regs W g r) (hk : k < 8) (e : j = k) : Regs (W.setCell ⟨g, j, none⟩ (.int .i64 v)) g (upd r k v) := by
  subst e
  exact h.setReg hk

theorem jump_no {s tx : ByteArray} {k n B1 B2 B3 : Nat} {r : Nat → Int} {A : Int × Int} (h : A = ans s tx (k + 1) (stR ((7 : Nat) : Int) (B1 : Int) (B2 : Int) (B3 : Int) tx r) (stN ((7 : Nat) : Int) (B1 : Int) (B2 : Int) r n) (decide (((7 : Nat) : Int) = 8))) (hj : (r (B1 % 8) != 0) = false) :
    A = ans s tx (k + 1) r (n + 1) false := by
  have e1 : stR ((7 : Nat) : Int) (B1 : Int) (B2 : Int) (B3 : Int) tx r = r := by unfold stR; rw [if_neg (by omega)]
  have e3 : ((B1 : Int) % 8).toNat = B1 % 8 := by omega
  have e2 : stN ((7 : Nat) : Int) (B1 : Int) (B2 : Int) r n = n + 1 := by
    unfold stN
    rw [e3, if_neg (by simp at hj; simp [hj])]
  rw [h, e1, e2]
  rfl

theorem jump_yes {s tx : ByteArray} {k n B1 B2 B3 : Nat} {r : Nat → Int} {A : Int × Int} (h : A = ans s tx (k + 1) (stR ((7 : Nat) : Int) (B1 : Int) (B2 : Int) (B3 : Int) tx r) (stN ((7 : Nat) : Int) (B1 : Int) (B2 : Int) r n) (decide (((7 : Nat) : Int) = 8))) (hj : (r (B1 % 8) != 0) = true) :
    A = ans s tx (k + 1) r B2 false := by
  have e1 : stR ((7 : Nat) : Int) (B1 : Int) (B2 : Int) (B3 : Int) tx r = r := by unfold stR; rw [if_neg (by omega)]
  have e3 : ((B1 : Int) % 8).toNat = B1 % 8 := by omega
  have e2 : stN ((7 : Nat) : Int) (B1 : Int) (B2 : Int) r n = B2 := by
    unfold stN
    rw [e3, if_pos (by simp at hj; exact ⟨rfl, hj⟩)]
    omega
  rw [h, e1, e2]
  rfl

theorem step_value {s tx : ByteArray} {k n B0 B1 B2 B3 : Nat} {r : Nat → Int} {A : Int × Int} (h : A = ans s tx (k + 1) (stR (B0 : Int) (B1 : Int) (B2 : Int) (B3 : Int) tx r) (stN (B0 : Int) (B1 : Int) (B2 : Int) r n) (decide ((B0 : Int) = 8))) (h6 : (B0 : Int) ≤ 6) :
    A = ans s tx (k + 1) (upd r (B1 % 8) (vl (B0 : Int) (B2 : Int) (B3 : Int) (r (B2 % 8)) (r (B3 % 8)) tx)) (n + 1) false := by
  have e1 : stR (B0 : Int) (B1 : Int) (B2 : Int) (B3 : Int) tx r = upd r (B1 % 8) (vl (B0 : Int) (B2 : Int) (B3 : Int) (r (B2 % 8)) (r (B3 % 8)) tx) := by
    unfold stR
    rw [if_pos h6, show ((B1 : Int) % 8).toNat = B1 % 8 by omega, show ((B2 : Int) % 8).toNat = B2 % 8 by omega, show ((B3 : Int) % 8).toNat = B3 % 8 by omega]
  have e2 : stN (B0 : Int) (B1 : Int) (B2 : Int) r n = n + 1 := by unfold stN; rw [if_neg (by omega)]
  have e3 : decide ((B0 : Int) = 8) = false := decide_eq_false (by omega)
  rw [h, e1, e2, e3]

set_option maxRecDepth 4000 in
set_option maxHeartbeats 1000000 in
theorem refRun_any (s : ByteArray) (x y old col : Int) (tx : ByteArray) (w : World) (hs : s.size ≤ 128) (ho : ∀ k, k < s.size / 4 → bt s (4 * k) ≤ 8) (ht : tx.size ≤ maxLen) (h1 : bytey x) (h2 : bytey y) (h3 : bytey old) (h4 : bytey col) :
    Calls Try.prog 114 #[.string s, .agg #[.int .i64 x, .int .i64 y, .int .i64 old, .int .i64 col], .string tx] w fun e w' => e = .returned (.tuple #[.int .i64 (sh s tx 64 (reg0 x y old col) 0).1, .int .i64 (sh s tx 64 (reg0 x y old col) 0).2]) ∧ Below w.heap.size w w' := by
  have HO : Hid (∀ k, k < s.size / 4 → bt s (4 * k) ≤ 8) := ho
  have HT : Hid (tx.size ≤ maxLen) := ht
  have H0 : Hid (∀ j, wordy (reg0 x y old col j)) := reg0_bd h1 h2 h3 h4
  have eA : ans s tx 0 (reg0 x y old col) 0 false = sh s tx 64 (reg0 x y old col) 0 := rfl
  have EA : Hid _ := eA
  clear ho ht h1 h2 h3 h4 eA
  go_enter Try.func114, Try.ntmps114
  go_wp2
  go_loopw [9, 10] (fun at' i wr => ∃ (k : Nat) (r : Nat → Int) (n : Nat), k ≤ 64 ∧ i = .int .i64 k ∧ at' = .int .i64 n ∧ Below w.heap.size w wr ∧ Regs wr (w.heap.size + 1) r ∧ (∀ j, wordy (r j)) ∧ n ≤ 1000 ∧ ans s tx k r n false = sh s tx 64 (reg0 x y old col) 0) (fun _ i _ => 64 - (intOf i).toNat)
  case atStart =>
    refine ⟨0, _, 0, by omega, rfl, rfl, ((Below.refl _ _).alloc (Nat.le_refl _) _).alloc (by simp) _, ?_, H0.out, by omega, EA.out⟩
    have := regs_new (w.alloc (.cells #[.int .i64 x, .int .i64 y, .int .i64 old, .int .i64 col] 88)) 3 x y old col
    simp only [World.size_alloc] at this
    exact this
  case round =>
    obtain ⟨k, r, n, hk, rfl, rfl, hB, hMa, hR, hn, hA⟩ := hrel
    have BB : Hid (Below w.heap.size w wr) := hB
    have MM : Hid (Regs wr (w.heap.size + 1) r) := hMa
    have RR : Hid (∀ j, wordy (r j)) := hR
    have AA : Hid (ans s tx k r n false = sh s tx 64 (reg0 x y old col) 0) := hA
    obtain ⟨hr, hf, hg⟩ := hMa
    have hr0 := hr 0 (by omega)
    obtain ⟨w0, w1⟩ := hR 0
    clear hB hR hA EA H0
    by_cases ho : s.size / 4 ≤ n
    · clear hr hf
      go_wp2
      go_ret2
      refine ⟨tup2 ?_ ?_, BB.out⟩
      · rw [← AA.out, ans_out hk ho]
      · rw [← AA.out, ans_out hk ho]
    · by_cases h64 : k = 64
      · clear hr hf
        subst h64
        go_wp2
        go_ret2
        refine ⟨tup2 ?_ ?_, BB.out⟩
        · rw [← AA.out, ans_stuck ho]
        · rw [← AA.out, ans_stuck ho]
      · have h64' : ((k : Int) == 64) = false := by simp; omega
        have hs4 : 4 * n + 3 < s.size := by omega
        obtain ⟨B0, hB0⟩ : ∃ B : Nat, (s[4 * n]'(by omega)).toNat = B := ⟨_, rfl⟩
        obtain ⟨B1, hB1⟩ : ∃ B : Nat, (s[4 * n + 1]'(by omega)).toNat = B := ⟨_, rfl⟩
        obtain ⟨B2, hB2⟩ : ∃ B : Nat, (s[4 * n + 2]'(by omega)).toNat = B := ⟨_, rfl⟩
        obtain ⟨B3, hB3⟩ : ∃ B : Nat, (s[4 * n + 3]'(by omega)).toNat = B := ⟨_, rfl⟩
        have E0 : Hid (bt s (4 * n) = (B0 : Int)) := by have := bt_of (s := s) (i := 4 * n) (by omega); rw [hB0] at this; exact this
        have E1 : Hid (bt s (4 * n + 1) = (B1 : Int)) := by have := bt_of (s := s) (i := 4 * n + 1) (by omega); rw [hB1] at this; exact this
        have E2 : Hid (bt s (4 * n + 2) = (B2 : Int)) := by have := bt_of (s := s) (i := 4 * n + 2) (by omega); rw [hB2] at this; exact this
        have E3 : Hid (bt s (4 * n + 3) = (B3 : Int)) := by have := bt_of (s := s) (i := 4 * n + 3) (by omega); rw [hB3] at this; exact this
        have c0 : (B0 : Int) ≤ 8 := by have := HO.out n (by omega); rw [E0.out] at this; exact this
        have c1 : (B1 : Int) ≤ 255 := by have := (bt_bd s (4 * n + 1)).2; rw [E1.out] at this; exact this
        have c2 : (B2 : Int) ≤ 255 := by have := (bt_bd s (4 * n + 2)).2; rw [E2.out] at this; exact this
        have c3 : (B3 : Int) ≤ 255 := by have := (bt_bd s (4 * n + 3)).2; rw [E3.out] at this; exact this
        have i1 : (4 * (n : Int)) < (s.size : Int) := by omega
        have i2 : (4 * (n : Int)) + 1 < (s.size : Int) := by omega
        have i3 : (4 * (n : Int)) + 2 < (s.size : Int) := by omega
        have i4 : (4 * (n : Int)) + 3 < (s.size : Int) := by omega
        have AS := ans_step (s := s) (tx := tx) (r := r) (k := k) (n := n) (by omega) ho
        rw [E0.out, E1.out, E2.out, E3.out, AA.out] at AS
        have ASt : Hid _ := AS
        clear AS E0 E1 E2 E3 HO AA
        have q1 : (B1 : Int) % 8 < 8 := by omega
        have q2 : (B2 : Int) % 8 < 8 := by omega
        have q3 : (B3 : Int) % 8 < 8 := by omega
        have ka := hr (B1 % 8) (by omega)
        have kb := hr (B2 % 8) (by omega)
        have kc := hr (B3 % 8) (by omega)
        have fa := hf (B1 % 8)
        clear hr hf
        have q4 : (0 : Int) ≤ (B1 : Int) % 8 := by omega
        have q5 : (0 : Int) ≤ (B2 : Int) % 8 := by omega
        have q6 : (0 : Int) ≤ (B3 : Int) % 8 := by omega
        by_cases h8 : B0 = 8
        · subst h8
          clear c0
          go_wp2
          go_ret2
          refine ⟨tup2 ?_ ?_, BB.out⟩
          · rw [ASt.out]; rfl
          · rw [ASt.out]; rfl
        · by_cases h7 : B0 = 7
          · subst h7
            clear h8 c0
            cases hj : (r (B1 % 8) != 0)
            · go_wp2
              go_roundw
              case rel => exact ⟨k + 1, r, n + 1, by omega, by go_num, by go_num, BB.out, MM.out, RR.out, by omega, (jump_no ASt.out hj).symm⟩
              case measure => simp [intOf]; omega
            · go_wp2
              go_roundw
              case rel => exact ⟨k + 1, r, B2, by omega, by go_num, by go_num, BB.out, MM.out, RR.out, by omega, (jump_yes ASt.out hj).symm⟩
              case measure => simp [intOf]; omega
          · have h8' : ((B0 : Int) == 8) = false := by simp; omega
            have h7' : ((B0 : Int) == 7) = false := by simp; omega
            have v1 : (0 : Int) ≤ (B0 : Int) := by omega
            have v2 : (B0 : Int) ≤ 6 := by omega
            have v3 : bytey (B2 : Int) := ⟨by omega, by omega⟩
            have v4 : bytey (B3 : Int) := ⟨by omega, by omega⟩
            go_wp2
            have t1 : (B1 : Int).tmod 8 = (B1 : Int) % 8 := Int.tmod_eq_emod_of_nonneg (by omega)
            have t2 : (B2 : Int).tmod 8 = (B2 : Int) % 8 := Int.tmod_eq_emod_of_nonneg (by omega)
            have t3 : (B3 : Int).tmod 8 = (B3 : Int) % 8 := Int.tmod_eq_emod_of_nonneg (by omega)
            have ka' : wr.cell? ⟨w.heap.size + 1, ((B1 : Int) % 8).toNat, none⟩ = some (.int .i64 (r (B1 % 8))) := by rw [show ((B1 : Int) % 8).toNat = B1 % 8 by omega]; exact ka
            have kb' : wr.cell? ⟨w.heap.size + 1, ((B2 : Int) % 8).toNat, none⟩ = some (.int .i64 (r (B2 % 8))) := by rw [show ((B2 : Int) % 8).toNat = B2 % 8 by omega]; exact kb
            have kc' : wr.cell? ⟨w.heap.size + 1, ((B3 : Int) % 8).toNat, none⟩ = some (.int .i64 (r (B3 % 8))) := by rw [show ((B3 : Int) % 8).toNat = B3 % 8 by omega]; exact kc
            have fa' : wr.frozen? ⟨w.heap.size + 1, ((B1 : Int) % 8).toNat, none⟩ = false := by rw [show ((B1 : Int) % 8).toNat = B1 % 8 by omega]; exact fa
            go_region_with (go_at_call 119; refine (value_any _ _ _ _ _ _ _ v1 v2 v3 v4 (RR.out _) (RR.out _) HT.out).mono ?_; rintro e w1 ⟨rfl, rfl⟩)
            all_goals
              go_wp2
              go_roundw
              case rel => exact ⟨k + 1, _, n + 1, by omega, by go_num, by go_num, (BB.out.setCell (by simp) _).drew, (MM.out.setAt (k := B1 % 8) (by omega) (by omega)).drew, upd_bd RR.out (vl_bd v3 v4 (RR.out _) (RR.out _)), by omega, (step_value ASt.out v2).symm⟩
              case measure => simp [intOf]; omega

end Go.Proofs.Ytbedkfgdhaajaab
