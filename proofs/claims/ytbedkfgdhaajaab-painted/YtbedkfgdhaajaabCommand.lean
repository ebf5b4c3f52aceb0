/- Walks: the commands of a context: their lengths, errors and costs (P7, P8, P10 to P12). -/
import Derived.Test.YtbedkfgdhaajaabCg
import Derived.Test.YtbedkfgdhaajaabVerify
namespace Go.Proofs.Ytbedkfgdhaajaab
open Go.RowKit

set_option maxHeartbeats 400000 in
theorem field_any (ao : Option Addr) (cap : Nat) (l : List UInt8) (k : Nat) (w : World) (hB : BS w ao cap l) :
    Calls Try.prog 52 #[.slice ao l.length cap, .int .i64 k] w fun e w' => e = .returned (.int .i64 (bn l k)) ∧ w' = w := by
  by_cases h : k < l.length
  · obtain ⟨b, off, rfl, hb⟩ := hB.there (by have := hB.hle; omega)
    have hc := hB.hce _ rfl k h
    simp only at hc
    rw [bn_of h]
    have h1 : ¬ (l.length : Int) ≤ k := by omega
    have h2 : (k : Int) < l.length := by omega
    have h3 : (0 : Int) ≤ k := by omega
    have hm := hB.hmax
    have hl := hB.hle
    unfold maxLen at hm
    obtain ⟨B, hBy⟩ : ∃ B, l[k].toNat = B := ⟨_, rfl⟩
    have hB1 : (B : Int) ≤ 255 := by have := UInt8.toNat_lt l[k]; omega
    have hB0 : (0 : Int) ≤ B := by omega
    rw [hBy] at hc ⊢
    clear hB hBy
    go_enter Try.func52, Try.ntmps52
    go_wp2
    go_ret
    exact ⟨retI (by go_num), rfl⟩
  · rw [bn_out (by omega)]
    have h1 : (l.length : Int) ≤ k := by omega
    clear hB
    go_enter Try.func52, Try.ntmps52
    go_wp2
    go_ret
    exact ⟨rfl, rfl⟩

theorem field_at (ao : Option Addr) (cap : Nat) (l : List UInt8) (i : Int) (w : World) (hB : BS w ao cap l) (k : Nat) (hk : i = k) :
    Calls Try.prog 52 #[.slice ao l.length cap, .int .i64 i] w fun e w' => e = .returned (.int .i64 (bn l k)) ∧ w' = w := by
  subst hk; exact field_any ao cap l k w hB

theorem field_0 (ao : Option Addr) (cap : Nat) (l : List UInt8) (i v : Int) (w : World) (hB : BS w ao cap l) (hk : i = 0) (hv : (bn l 0 : Int) = v) :
    Calls Try.prog 52 #[.slice ao l.length cap, .int .i64 i] w fun e w' => e = .returned (.int .i64 v) ∧ w' = w := by
  subst hk hv; exact field_any ao cap l 0 w hB

theorem ret_sl {ao : Option Addr} {n m cap : Nat} (h : n = m) : Ending.returned (.slice ao n cap) = .returned (.slice ao m cap) := by rw [h]

set_option maxHeartbeats 400000 in
theorem wide_any (ao : Option Addr) (cap : Nat) (l : List UInt8) (i : Int) (w : World) (hB : BS w ao cap l) (k : Nat) (hk : i = k) (h : k ≤ 1000) :
    Calls Try.prog 93 #[.slice ao l.length cap, .int .i64 i] w fun e w' => e = .returned (.int .i64 (wrd l k)) ∧ w' = w := by
  subst hk
  have HB : Hid (BS w ao cap l) := hB
  obtain ⟨A, hA⟩ : ∃ A, bn l k = A := ⟨_, rfl⟩
  obtain ⟨B, hB'⟩ : ∃ B, bn l (k + 1) = B := ⟨_, rfl⟩
  have b1 : (A : Int) ≤ 255 := by have := bn_le l k; omega
  have b2 : (B : Int) ≤ 255 := by have := bn_le l (k + 1); omega
  have HA : Hid (bn l k = A) := hA
  have HB' : Hid (bn l (k + 1) = B) := hB'
  clear hB hA hB'
  go_enter Try.func93, Try.ntmps93
  go_wp2_with (first | (go_at_call 52; refine (field_at _ _ _ _ _ HB.out k (by omega)).mono ?_; rw [HA.out]; rintro e w2 ⟨rfl, rfl⟩) | (go_at_call 52; refine (field_at _ _ _ _ _ HB.out (k + 1) (by omega)).mono ?_; rw [HB'.out]; rintro e w2 ⟨rfl, rfl⟩))
  go_ret
  exact ⟨retI (by unfold wrd; rw [HA.out, HB'.out]; omega), rfl⟩

set_option maxHeartbeats 400000 in
theorem signed_any (ao : Option Addr) (cap : Nat) (l : List UInt8) (i : Int) (w : World) (hB : BS w ao cap l) (k : Nat) (hk : i = k) (h : k ≤ 1000) :
    Calls Try.prog 108 #[.slice ao l.length cap, .int .i64 i] w fun e w' => e = .returned (.int .i64 (crn l k)) ∧ w' = w := by
  subst hk
  have HB : Hid (BS w ao cap l) := hB
  obtain ⟨A, hA⟩ : ∃ A, wrd l k = A := ⟨_, rfl⟩
  have b1 : (A : Int) ≤ 65535 := by have := wrd_le l k; omega
  have HA : Hid (wrd l k = A) := hA
  clear hB
  by_cases hq : 32768 ≤ A
  · have e : crn l k = (A : Int) - 65536 := by unfold crn; rw [hA, if_pos hq]
    rw [e]
    have hd : decide ((32768 : Int) ≤ (A : Int)) = true := decide_eq_true (by omega)
    clear e hA hq
    go_enter Try.func108, Try.ntmps108
    go_wp2_with (go_at_call 93; refine (wide_any _ _ _ _ _ HB.out k rfl h).mono ?_; rw [HA.out]; rintro e w2 ⟨rfl, rfl⟩)
    go_ret
    exact ⟨retI (by first | rfl | omega | (unfold wrap64; omega)), rfl⟩
  · have e : crn l k = (A : Int) := by unfold crn; rw [hA, if_neg hq]
    rw [e]
    have hd : decide ((32768 : Int) ≤ (A : Int)) = false := decide_eq_false (by omega)
    clear e hA hq
    go_enter Try.func108, Try.ntmps108
    go_wp2_with (go_at_call 93; refine (wide_any _ _ _ _ _ HB.out k rfl h).mono ?_; rw [HA.out]; rintro e w2 ⟨rfl, rfl⟩)
    go_ret
    exact ⟨retI (by first | rfl | omega | (unfold wrap64; omega)), rfl⟩

theorem crn_bd (l : List UInt8) (k : Nat) : -32768 ≤ crn l k ∧ crn l k ≤ 32767 := by
  have := wrd_le l k
  unfold crn
  split <;> omega

set_option maxHeartbeats 400000 in
theorem corner_any (ao : Option Addr) (cap : Nat) (l : List UInt8) (i : Int) (w : World) (hB : BS w ao cap l) (k : Nat) (hk : i = k) (h : k ≤ 900) :
    Calls Try.prog 90 #[.slice ao l.length cap, .int .i64 i] w fun e w' => e = .returned (.agg #[.int .i64 (crn l k), .int .i64 (crn l (k + 2))]) ∧ Below w.heap.size w w' := by
  subst hk
  have HB : Hid (BS w ao cap l) := hB
  clear hB
  go_enter Try.func90, Try.ntmps90
  go_wp2_with (first | (go_at_call 108; refine (signed_any _ _ _ _ _ (HB.out.alloc _) k (by omega) (by omega)).mono ?_; rintro e w2 ⟨rfl, rfl⟩) | (go_at_call 108; refine (signed_any _ _ _ _ _ (HB.out.alloc _) (k + 2) (by omega) (by omega)).mono ?_; rintro e w2 ⟨rfl, rfl⟩))
  exact bodyPost_ret (v := .agg #[.int .i64 (crn l k), .int .i64 (crn l (k + 2))]) (by simp [results, Try.results90, go_sem]) rfl ⟨rfl, (Below.refl _ _).alloc (Nat.le_refl _) _⟩

/-- how many bytes the first command has, as far as that can be seen -/
def pln (l : List UInt8) : Nat :=
  if bn l 0 = 1 then 4 else if bn l 0 = 2 then 2 else if bn l 0 = 3 then 5 + bn l 4 else if bn l 0 = 4 then 5 else if bn l 0 = 5 then 3 + 4 * bn l 2 else if bn l 0 = 6 then 3 else if bn l 0 = 7 then 17 else 1

theorem pln_pz (l : List UInt8) : (l.length < pln l → (if l.length < pz l then 0 else pz l) = 0) ∧ (¬ l.length < pln l → pz l = pln l) := by
  by_cases h7 : bn l 0 = 7
  · have e : pln l = 17 := by unfold pln; simp [h7]
    rw [pz_7 h7, e]
    exact ⟨fun h => if_pos h, fun _ => rfl⟩
  · rw [pz_n7 h7]
    unfold pln dsz
    by_cases h0 : l.length = 0
    · rw [if_pos h0]
      have hb : bn l 0 = 0 := bn_out (by omega)
      rw [hb]
      exact ⟨fun _ => by split <;> rfl, fun h => (h (by simp [h0])).elim⟩
    · rw [if_neg h0]
      have b4 := bn_le l 4
      by_cases k1 : bn l 0 = 1
      · rw [if_pos k1, if_pos k1]; exact ⟨fun h => if_pos h, fun _ => rfl⟩
      · rw [if_neg k1, if_neg k1]
        by_cases k2 : bn l 0 = 2
        · rw [if_pos k2, if_pos k2]; exact ⟨fun h => if_pos h, fun _ => rfl⟩
        · rw [if_neg k2, if_neg k2]
          by_cases k3 : bn l 0 = 3
          · rw [if_pos k3, if_pos k3]
            by_cases hl : l.length < 5
            · rw [if_pos hl, if_neg (by omega)]; exact ⟨fun _ => rfl, fun h => absurd h (by omega)⟩
            · rw [if_neg hl]; exact ⟨fun h => if_pos h, fun _ => rfl⟩
          · rw [if_neg k3, if_neg k3]
            by_cases k4 : bn l 0 = 4
            · rw [if_pos k4, if_pos k4]; exact ⟨fun h => if_pos h, fun _ => rfl⟩
            · rw [if_neg k4, if_neg k4]
              by_cases k5 : bn l 0 = 5
              · rw [if_pos k5, if_pos k5]
                by_cases hl : l.length < 3
                · rw [if_pos hl, if_neg (by omega)]; exact ⟨fun _ => rfl, fun h => absurd h (by omega)⟩
                · rw [if_neg hl]; exact ⟨fun h => if_pos h, fun _ => rfl⟩
              · rw [if_neg k5, if_neg k5]
                by_cases k6 : bn l 0 = 6
                · rw [if_pos k6]; exact ⟨fun h => if_pos h, fun _ => rfl⟩
                · rw [if_neg k6, if_neg h7]; exact ⟨fun h => if_pos h, fun _ => rfl⟩

set_option maxHeartbeats 400000 in
theorem lengthOf_any (ao : Option Addr) (cap : Nat) (l : List UInt8) (w : World) (hB : BS w ao cap l) :
    Calls Try.prog 64 #[.slice ao l.length cap] w fun e w' => e = .returned (.int .i64 (pln l)) ∧ w' = w := by
  have HB : Hid (BS w ao cap l) := hB
  have b2 := bn_le l 2
  have b4 := bn_le l 4
  clear hB
  by_cases h1 : bn l 0 = 1
  · have HV : Hid ((bn l 0 : Int) = 1) := (by omega : (bn l 0 : Int) = 1)
    have e : pln l = 4 := by unfold pln; simp [h1]
    rw [e]
    clear e h1
    go_enter Try.func64, Try.ntmps64
    go_wp2_with (first | (go_at_call 52; refine (field_0 _ _ _ _ _ _ HB.out (by omega) HV.out).mono ?_; rintro e w2 ⟨rfl, rfl⟩) | (go_at_call 52; refine (field_at _ _ _ _ _ HB.out 4 (by omega)).mono ?_; rintro e w2 ⟨rfl, rfl⟩) | (go_at_call 52; refine (field_at _ _ _ _ _ HB.out 2 (by omega)).mono ?_; rintro e w2 ⟨rfl, rfl⟩))
    go_ret
    exact ⟨retI (by go_num), rfl⟩
  · skip
    by_cases h2 : bn l 0 = 2
    · have HV : Hid ((bn l 0 : Int) = 2) := (by omega : (bn l 0 : Int) = 2)
      have e : pln l = 2 := by unfold pln; simp [h2]
      rw [e]
      clear e h1 h2
      go_enter Try.func64, Try.ntmps64
      go_wp2_with (first | (go_at_call 52; refine (field_0 _ _ _ _ _ _ HB.out (by omega) HV.out).mono ?_; rintro e w2 ⟨rfl, rfl⟩) | (go_at_call 52; refine (field_at _ _ _ _ _ HB.out 4 (by omega)).mono ?_; rintro e w2 ⟨rfl, rfl⟩) | (go_at_call 52; refine (field_at _ _ _ _ _ HB.out 2 (by omega)).mono ?_; rintro e w2 ⟨rfl, rfl⟩))
      go_ret
      exact ⟨retI (by go_num), rfl⟩
    · skip
      by_cases h3 : bn l 0 = 3
      · have HV : Hid ((bn l 0 : Int) = 3) := (by omega : (bn l 0 : Int) = 3)
        have e : pln l = 5 + bn l 4 := by unfold pln; simp [h3]
        rw [e]
        clear e h1 h2 h3
        go_enter Try.func64, Try.ntmps64
        go_wp2_with (first | (go_at_call 52; refine (field_0 _ _ _ _ _ _ HB.out (by omega) HV.out).mono ?_; rintro e w2 ⟨rfl, rfl⟩) | (go_at_call 52; refine (field_at _ _ _ _ _ HB.out 4 (by omega)).mono ?_; rintro e w2 ⟨rfl, rfl⟩) | (go_at_call 52; refine (field_at _ _ _ _ _ HB.out 2 (by omega)).mono ?_; rintro e w2 ⟨rfl, rfl⟩))
        go_ret
        exact ⟨retI (by go_num), rfl⟩
      · skip
        by_cases h4 : bn l 0 = 4
        · have HV : Hid ((bn l 0 : Int) = 4) := (by omega : (bn l 0 : Int) = 4)
          have e : pln l = 5 := by unfold pln; simp [h4]
          rw [e]
          clear e h1 h2 h3 h4
          go_enter Try.func64, Try.ntmps64
          go_wp2_with (first | (go_at_call 52; refine (field_0 _ _ _ _ _ _ HB.out (by omega) HV.out).mono ?_; rintro e w2 ⟨rfl, rfl⟩) | (go_at_call 52; refine (field_at _ _ _ _ _ HB.out 4 (by omega)).mono ?_; rintro e w2 ⟨rfl, rfl⟩) | (go_at_call 52; refine (field_at _ _ _ _ _ HB.out 2 (by omega)).mono ?_; rintro e w2 ⟨rfl, rfl⟩))
          go_ret
          exact ⟨retI (by go_num), rfl⟩
        · skip
          by_cases h5 : bn l 0 = 5
          · have HV : Hid ((bn l 0 : Int) = 5) := (by omega : (bn l 0 : Int) = 5)
            have e : pln l = 3 + 4 * bn l 2 := by unfold pln; simp [h5]
            rw [e]
            clear e h1 h2 h3 h4 h5
            go_enter Try.func64, Try.ntmps64
            go_wp2_with (first | (go_at_call 52; refine (field_0 _ _ _ _ _ _ HB.out (by omega) HV.out).mono ?_; rintro e w2 ⟨rfl, rfl⟩) | (go_at_call 52; refine (field_at _ _ _ _ _ HB.out 4 (by omega)).mono ?_; rintro e w2 ⟨rfl, rfl⟩) | (go_at_call 52; refine (field_at _ _ _ _ _ HB.out 2 (by omega)).mono ?_; rintro e w2 ⟨rfl, rfl⟩))
            go_ret
            exact ⟨retI (by go_num), rfl⟩
          · skip
            by_cases h6 : bn l 0 = 6
            · have HV : Hid ((bn l 0 : Int) = 6) := (by omega : (bn l 0 : Int) = 6)
              have e : pln l = 3 := by unfold pln; simp [h6]
              rw [e]
              clear e h1 h2 h3 h4 h5 h6
              go_enter Try.func64, Try.ntmps64
              go_wp2_with (first | (go_at_call 52; refine (field_0 _ _ _ _ _ _ HB.out (by omega) HV.out).mono ?_; rintro e w2 ⟨rfl, rfl⟩) | (go_at_call 52; refine (field_at _ _ _ _ _ HB.out 4 (by omega)).mono ?_; rintro e w2 ⟨rfl, rfl⟩) | (go_at_call 52; refine (field_at _ _ _ _ _ HB.out 2 (by omega)).mono ?_; rintro e w2 ⟨rfl, rfl⟩))
              go_ret
              exact ⟨retI (by go_num), rfl⟩
            · skip
              by_cases h7 : bn l 0 = 7
              · have HV : Hid ((bn l 0 : Int) = 7) := (by omega : (bn l 0 : Int) = 7)
                have e : pln l = 17 := by unfold pln; simp [h7]
                rw [e]
                clear e h1 h2 h3 h4 h5 h6 h7
                go_enter Try.func64, Try.ntmps64
                go_wp2_with (first | (go_at_call 52; refine (field_0 _ _ _ _ _ _ HB.out (by omega) HV.out).mono ?_; rintro e w2 ⟨rfl, rfl⟩) | (go_at_call 52; refine (field_at _ _ _ _ _ HB.out 4 (by omega)).mono ?_; rintro e w2 ⟨rfl, rfl⟩) | (go_at_call 52; refine (field_at _ _ _ _ _ HB.out 2 (by omega)).mono ?_; rintro e w2 ⟨rfl, rfl⟩))
                go_ret
                exact ⟨retI (by go_num), rfl⟩
              · skip
                have e : pln l = 1 := by unfold pln; simp [h1, h2, h3, h4, h5, h6, h7]
                rw [e]
                have d1 : ((bn l 0 : Int) == 1) = false := beq_false_of_ne (by omega)
                have d2 : ((bn l 0 : Int) == 2) = false := beq_false_of_ne (by omega)
                have d3 : ((bn l 0 : Int) == 3) = false := beq_false_of_ne (by omega)
                have d4 : ((bn l 0 : Int) == 4) = false := beq_false_of_ne (by omega)
                have d5 : ((bn l 0 : Int) == 5) = false := beq_false_of_ne (by omega)
                have d6 : ((bn l 0 : Int) == 6) = false := beq_false_of_ne (by omega)
                have d7 : ((bn l 0 : Int) == 7) = false := beq_false_of_ne (by omega)
                clear e h1 h2 h3 h4 h5 h6 h7
                go_enter Try.func64, Try.ntmps64
                go_wp2_with (go_at_call 52; refine (field_at _ _ _ _ _ HB.out 0 (by omega)).mono ?_; rintro e w2 ⟨rfl, rfl⟩)
                go_ret
                exact ⟨rfl, rfl⟩

/-- the length of the first command; 0, if its bytes are not all there -/
def pnn (l : List UInt8) : Nat := if l.length < pz l then 0 else pz l

set_option maxHeartbeats 400000 in
theorem first_any (ao : Option Addr) (cap : Nat) (l : List UInt8) (w : World) (hB : BS w ao cap l) :
    Calls Try.prog 50 #[.slice ao l.length cap] w fun e w' => (∃ ao' cap', e = .returned (.slice ao' (l.take (pnn l)).length cap') ∧ BS w ao' cap' (l.take (pnn l)) ∧ ∀ b, blk ao' b → blk ao b) ∧ w' = w := by
  have HB : Hid (BS w ao cap l) := hB
  have hm := hB.hmax
  have hl := hB.hle
  unfold maxLen at hm
  obtain ⟨p1, p2⟩ := pln_pz l
  clear hB
  by_cases hq : l.length < pln l
  · have e : l.take (pnn l) = [] := by rw [show pnn l = 0 from p1 hq]; rfl
    rw [e]
    have hq' : (l.length : Int) < pln l := by omega
    clear e p1 p2
    go_enter Try.func50, Try.ntmps50
    go_wp2_with (go_at_call 64; refine (lengthOf_any _ _ _ _ HB.out).mono ?_; rintro e w2 ⟨rfl, rfl⟩)
    go_ret
    exact ⟨⟨none, 0, rfl, BS.bare _, fun _ g => (blk_none g).elim⟩, rfl⟩
  · have e : pnn l = pln l := by unfold pnn; rw [p2 hq, if_neg hq]
    rw [e]
    have hq' : ¬ (l.length : Int) < pln l := by omega
    have z1 : (0 : Int) ≤ (pln l : Int) := by omega
    have z2 : (pln l : Int) ≤ (cap : Int) := by omega
    have z3 : (pln l : Int) < 9223372036854775808 := by omega
    clear e p1 p2
    go_enter Try.func50, Try.ntmps50
    go_wp2_with (go_at_call 64; refine (lengthOf_any _ _ _ _ HB.out).mono ?_; rintro e w2 ⟨rfl, rfl⟩)
    go_ret
    exact ⟨⟨_, cap, ret_sl (by rw [List.length_take_of_le (by omega)]), HB.out.take _ (by omega), fun _ g => g⟩, rfl⟩

theorem pcm_nn (g : Gst) : pcm g = if 1024 ≤ g.out.length then [] else g.wait.take (pnn g.wait) := by
  unfold pcm pnx pnn
  split <;> rfl

set_option maxHeartbeats 400000 in
theorem next_any (F M : Nat → Prop) (p : Nat) (g : Gst) (ht : Nat → Int) (d : Int) (w : World) (hC : Cx w F M p (mk g ht d)) :
    Calls Try.prog 36 #[.pointer (some ⟨p, 0, none⟩)] w fun e w' => (∃ ao' cap', e = .returned (.slice ao' (pcm g).length cap') ∧ BS w ao' cap' (pcm g) ∧ Cx w F (blk ao') p (mk g ht d)) ∧ w' = w := by
  obtain ⟨ad, cp, hA, hM⟩ := hC
  have q8 := hA.sl 8 (by omega)
  have q9 := hA.sl 9 (by omega)
  have q3 := hA.lt
  simp only [show slot 8 = 24 from rfl, show slot 9 = 26 from rfl, show (mk g ht d).by_ 8 = g.wait from rfl, show (mk g ht d).by_ 9 = g.out from rfl] at q8 q9
  have HA : Hid (CtxAt w F p ad cp (mk g ht d)) := hA
  clear hA hM
  rw [pcm_nn]
  by_cases h : 1024 ≤ g.out.length
  · rw [if_pos h]
    have h' : (1024 : Int) ≤ g.out.length := by omega
    go_enter Try.func36, Try.ntmps36
    go_wp2
    go_ret
    exact ⟨⟨none, 0, rfl, BS.bare _, HA.out.cx (fun _ g => (blk_none g).elim)⟩, rfl⟩
  · rw [if_neg h]
    have h' : ¬ (1024 : Int) ≤ g.out.length := by omega
    have HB : Hid (BS w (ad 8) (cp 8) g.wait) := HA.out.bs 8 (by omega)
    go_enter Try.func36, Try.ntmps36
    go_wp2_with (go_at_call 50; refine (first_any _ _ _ _ HB.out).mono ?_; rintro e w2 ⟨⟨ao, cap, rfl, hb, hk⟩, rfl⟩; have HB2 : Hid (BS w2 ao cap (g.wait.take (pnn g.wait))) := hb; have HK : Hid (∀ b, blk ao b → blk (ad 8) b) := hk; clear hb hk)
    go_ret
    exact ⟨⟨ao, cap, ret_sl (by rw [List.length_take]), HB2.out, HA.out.cx HK.out⟩, rfl⟩

end Go.Proofs.Ytbedkfgdhaajaab
