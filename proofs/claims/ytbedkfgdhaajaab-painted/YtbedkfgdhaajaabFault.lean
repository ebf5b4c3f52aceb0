/- Walks: the errors of a context's commands (P10 to P12). -/
import Derived.Test.YtbedkfgdhaajaabCommand
import Derived.Test.YtbedkfgdhaajaabDrawn
import Derived.Test.YtbedkfgdhaajaabPrg
namespace Go.Proofs.Ytbedkfgdhaajaab
open Go.RowKit

set_option maxHeartbeats 1000000 in
theorem fcreate_any (F M : Nat → Prop) (p : Nat) (g : Gst) (ht : Nat → Int) (d : Int) (ao : Option Addr) (cap : Nat) (m : List UInt8) (w : World) (hC : Cx w F M p (mk g ht d)) (hR : okR g.rm) (hB : BS w ao cap m) :
    Calls Try.prog 65 #[.pointer (some ⟨p, 0, none⟩), .slice ao m.length cap] w fun e w' => e = .returned (.int .i64 (can g.rm.bs (bn m 1) (bn m 2) (bn m 3))) ∧ Below w.heap.size w w' := by
  have HC : Hid (Cx w F M p (mk g ht d)) := hC
  have HR : Hid (okR g.rm) := hR
  have HB : Hid (BS w ao cap m) := hB
  have hlt := hC.lt
  clear hC hR hB
  go_enter Try.func65, Try.ntmps65
  go_wp2_with (first | (go_at_call 52; refine (field_at _ _ _ _ _ HB.out 1 (by omega)).mono ?_; rintro e w2 ⟨rfl, rfl⟩) | (go_at_call 52; refine (field_at _ _ _ _ _ HB.out 2 (by omega)).mono ?_; rintro e w2 ⟨rfl, rfl⟩) | (go_at_call 52; refine (field_at _ _ _ _ _ HB.out 3 (by omega)).mono ?_; rintro e w2 ⟨rfl, rfl⟩) | (go_at_call 88; refine (can_g F M p g ht d _ HC.out _ _ _ HR.out).mono ?_; rintro e w3 ⟨rfl, hb3⟩))
  go_ret
  exact ⟨rfl, hb3⟩

set_option maxHeartbeats 1000000 in
theorem fhandle_any (F M : Nat → Prop) (p : Nat) (g : Gst) (ht : Nat → Int) (d : Int) (ao : Option Addr) (cap : Nat) (m : List UInt8) (w : World) (hC : Cx w F M p (mk g ht d)) (hB : BS w ao cap m) :
    Calls Try.prog 66 #[.pointer (some ⟨p, 0, none⟩), .slice ao m.length cap] w fun e w' => e = .returned (.int .i64 (if thr g.rm (bn m 1) = true then 0 else 2)) ∧ w' = w := by
  have HC : Hid (Cx w F M p (mk g ht d)) := hC
  have HB : Hid (BS w ao cap m) := hB
  have hlt := hC.lt
  clear hC hB
  cases h : thr g.rm (bn m 1)
  · rw [if_neg (by simp)]
    go_enter Try.func66, Try.ntmps66
    go_wp2_with (first | (go_at_call 52; refine (field_at _ _ _ _ _ HB.out 1 (by omega)).mono ?_; rintro e w2 ⟨rfl, rfl⟩) | (go_at_call 69; refine (has_g F M p g ht d _ HC.out _).mono ?_; rintro e w3 ⟨rfl, rfl⟩))
    go_ret
    exact ⟨rfl, rfl⟩
  · rw [if_pos rfl]
    go_enter Try.func66, Try.ntmps66
    go_wp2_with (first | (go_at_call 52; refine (field_at _ _ _ _ _ HB.out 1 (by omega)).mono ?_; rintro e w2 ⟨rfl, rfl⟩) | (go_at_call 69; refine (has_g F M p g ht d _ HC.out _).mono ?_; rintro e w3 ⟨rfl, rfl⟩))
    go_ret
    exact ⟨rfl, rfl⟩

set_option maxHeartbeats 1000000 in
theorem codeOf_any (ao : Option Addr) (cap : Nat) (m : List UInt8) (w : World) (hB : BS w ao cap m) (h3 : 3 ≤ m.length) :
    Calls Try.prog 89 #[.slice ao m.length cap] w fun e w' => e = .returned (.string (str (m.drop 3))) ∧ w' = w := by
  have hl := hB.hle
  have hm := hB.hmax
  unfold maxLen at hm
  have hn : ¬ (m.length : Int) < 3 := by omega
  by_cases hc : cap = 3
  · have hcv := run_string_bs (P := Try.prog) (hB.drop 3 h3 (ao' := ao) (by rw [if_pos hc])) 51 9 5 Try.underlying51 Try.underlying5 Try.underlying9
    have e3 : m.length = 3 := by omega
    rw [List.length_drop, e3, hc] at hcv
    rw [e3, hc]
    clear hB hl hm hn h3 e3 hc
    go_enter Try.func89, Try.ntmps89
    go_wp2
    go_ret
    exact ⟨rfl, rfl⟩
  · obtain ⟨b, off, rfl, hb⟩ := hB.there (by omega)
    have hcv := run_string_bs (P := Try.prog) (hB.drop 3 h3 (ao' := some ⟨b, off + 3, none⟩) (by rw [if_neg hc]; rfl)) 51 9 5 Try.underlying51 Try.underlying5 Try.underlying9
    rw [List.length_drop] at hcv
    clear hB
    go_enter Try.func89, Try.ntmps89
    go_wp2
    go_ret
    exact ⟨rfl, rfl⟩

/-- a Code that is whole: its bytes behind the third -/
theorem pz_code {m : List UInt8} (h : bn m 0 = 5) (hw : m.length = pz m) : m.length = 3 + 4 * bn m 2 := by
  rw [pz_n7 (by omega)] at hw
  by_cases h3 : m.length < 3
  · by_cases h0 : m.length = 0
    · rw [bn_out (by omega)] at h; omega
    · have e : dsz m = 0 := by unfold dsz; simp [h0, h, h3]
      omega
  · have e : dsz m = 3 + 4 * bn m 2 := by
      unfold dsz
      rw [if_neg (by omega)]
      simp [h]
      intro q
      omega
    omega

set_option maxHeartbeats 1000000 in
theorem fcode_any (ao : Option Addr) (cap : Nat) (m : List UInt8) (w : World) (hB : BS w ao cap m) (h5 : bn m 0 = 5) (hw : m.length = pz m) (hl : m.length ≤ 2000) :
    Calls Try.prog 67 #[.slice ao m.length cap] w fun e w' => e = .returned (.int .i64 (cer (bn m 1) (bn m 2) (m.drop 3))) ∧ Below w.heap.size w w' := by
  have HB : Hid (BS w ao cap m) := hB
  have hlen := pz_code h5 hw
  clear hB hw h5
  by_cases h4 : 4 ≤ bn m 1
  · have e : cer (bn m 1) (bn m 2) (m.drop 3) = 6 := if_pos h4
    rw [e]
    have h4' : (4 : Int) ≤ bn m 1 := by omega
    clear e hlen
    go_enter Try.func67, Try.ntmps67
    go_wp2_with (go_at_call 52; refine (field_at _ _ _ _ _ HB.out 1 (by omega)).mono ?_; rintro e w2 ⟨rfl, rfl⟩)
    go_ret
    exact ⟨rfl, Below.refl _ _⟩
  · have h4' : ¬ (4 : Int) ≤ bn m 1 := by omega
    have hsz : (str (m.drop 3)).size = 4 * bn m 2 := by rw [str_size, List.length_drop]; omega
    have hz0 : (str (m.drop 3)).size ≤ maxLen := by rw [hsz]; unfold maxLen; have := bn_le m 2; omega
    have HZ : Hid ((str (m.drop 3)).size ≤ maxLen) := hz0
    clear hz0
    have H3 : Hid (3 ≤ m.length) := (by omega : 3 ≤ m.length)
    by_cases hv : (ver (str (m.drop 3))).1 = 0
    · have e : cer (bn m 1) (bn m 2) (m.drop 3) = 0 := by
        unfold cer
        rw [if_neg h4, if_pos hv]
        split
        · rename_i h32
          rw [ver_long (by rw [hsz]; omega)] at hv
          simp at hv
        · rfl
      rw [e]
      have hv' : ((ver (str (m.drop 3))).1 != 0) = false := by simpa using hv
      clear e hlen hv hsz
      go_enter Try.func67, Try.ntmps67
      go_wp2_with (first | (go_at_call 52; refine (field_at _ _ _ _ _ HB.out 1 (by omega)).mono ?_; rintro e w2 ⟨rfl, rfl⟩) | (go_at_call 89; refine (codeOf_any _ _ _ _ HB.out H3.out).mono ?_; rintro e w3 ⟨rfl, rfl⟩) | (go_at_call 29; refine (verify_in _ _ HZ.out).mono ?_; rintro e w4 ⟨rfl, hb4⟩))
      go_ret
      exact ⟨rfl, hb4⟩
    · have e : cer (bn m 1) (bn m 2) (m.drop 3) = 7 := by
        unfold cer
        rw [if_neg h4, if_neg hv]
        split <;> rfl
      rw [e]
      have hv' : ((ver (str (m.drop 3))).1 != 0) = true := by simpa using hv
      clear e hlen hv hsz
      go_enter Try.func67, Try.ntmps67
      go_wp2_with (first | (go_at_call 52; refine (field_at _ _ _ _ _ HB.out 1 (by omega)).mono ?_; rintro e w2 ⟨rfl, rfl⟩) | (go_at_call 89; refine (codeOf_any _ _ _ _ HB.out H3.out).mono ?_; rintro e w3 ⟨rfl, rfl⟩) | (go_at_call 29; refine (verify_in _ _ HZ.out).mono ?_; rintro e w4 ⟨rfl, hb4⟩))
      go_ret
      exact ⟨rfl, hb4⟩

set_option maxHeartbeats 1000000 in
theorem fault_any (F M : Nat → Prop) (p : Nat) (g : Gst) (ht : Nat → Int) (d : Int) (ao : Option Addr) (cap : Nat) (m : List UInt8) (w : World) (hC : Cx w F M p (mk g ht d)) (hR : okR g.rm) (hB : BS w ao cap m) (hw : m.length = pz m) (hl : m.length ≤ 2000) :
    Calls Try.prog 51 #[.pointer (some ⟨p, 0, none⟩), .slice ao m.length cap] w fun e w' => e = .returned (.int .i64 (per g.rm m)) ∧ Below w.heap.size w w' := by
  have HC : Hid (Cx w F M p (mk g ht d)) := hC
  have HR : Hid (okR g.rm) := hR
  have HB : Hid (BS w ao cap m) := hB
  have HW : Hid (m.length = pz m) := hw
  clear hC hR hB hw
  by_cases h1 : bn m 0 = 1
  · have HV : Hid ((bn m 0 : Int) = 1) := (by omega : (bn m 0 : Int) = 1)
    rw [per_1 h1]
    clear h1
    go_enter Try.func51, Try.ntmps51
    go_wp2_with (first | (go_at_call 52; refine (field_0 _ _ _ _ _ _ HB.out (by omega) HV.out).mono ?_; rintro e w2 ⟨rfl, rfl⟩) | (go_at_call 65; refine (fcreate_any F M p g ht d _ _ _ _ HC.out HR.out HB.out).mono ?_; rintro e w3 ⟨rfl, hb3⟩))
    go_ret
    exact ⟨rfl, hb3⟩
  · by_cases h5 : bn m 0 = 5
    · have HV : Hid ((bn m 0 : Int) = 5) := (by omega : (bn m 0 : Int) = 5)
      have H5 : Hid (bn m 0 = 5) := h5
      rw [per_5 h5]
      clear h1 h5
      go_enter Try.func51, Try.ntmps51
      go_wp2_with (first | (go_at_call 52; refine (field_0 _ _ _ _ _ _ HB.out (by omega) HV.out).mono ?_; rintro e w2 ⟨rfl, rfl⟩) | (go_at_call 67; refine (fcode_any _ _ _ _ HB.out H5.out HW.out hl).mono ?_; rintro e w3 ⟨rfl, hb3⟩))
      go_ret
      exact ⟨rfl, hb3⟩
    · by_cases hh : bn m 0 = 2 ∨ bn m 0 = 3 ∨ bn m 0 = 4 ∨ bn m 0 = 6
      · rw [per_h hh]
        obtain ⟨v, hv, hv2⟩ : ∃ v : Int, (bn m 0 : Int) = v ∧ (v = 2 ∨ v = 3 ∨ v = 4 ∨ v = 6) := ⟨_, rfl, by omega⟩
        have HV : Hid ((bn m 0 : Int) = v) := hv
        clear h1 h5 hh hv
        rcases hv2 with rfl | rfl | rfl | rfl <;>
        · go_enter Try.func51, Try.ntmps51
          go_wp2_with (first | (go_at_call 52; refine (field_0 _ _ _ _ _ _ HB.out (by omega) HV.out).mono ?_; rintro e w2 ⟨rfl, rfl⟩) | (go_at_call 66; refine (fhandle_any F M p g ht d _ _ _ _ HC.out HB.out).mono ?_; rintro e w3 ⟨rfl, rfl⟩))
          all_goals
            go_ret
            exact ⟨rfl, Below.refl _ _⟩
      · by_cases h7 : bn m 0 = 7
        · have HV : Hid ((bn m 0 : Int) = 7) := (by omega : (bn m 0 : Int) = 7)
          rw [per_7 h7]
          clear h1 h5 hh h7
          go_enter Try.func51, Try.ntmps51
          go_wp2_with (first | (go_at_call 52; refine (field_0 _ _ _ _ _ _ HB.out (by omega) HV.out).mono ?_; rintro e w2 ⟨rfl, rfl⟩) | (go_at_call 68; refine (fdraw_any F M p g ht d _ _ _ _ HC.out HB.out).mono ?_; rintro e w3 ⟨rfl, hb3⟩))
          go_ret
          exact ⟨rfl, hb3⟩
        · rw [per_o h1 (by omega) (by omega) (by omega) h5 (by omega) h7]
          have d1 : ((bn m 0 : Int) == 1) = false := beq_false_of_ne (by omega)
          have d2 : ((bn m 0 : Int) == 2) = false := beq_false_of_ne (by omega)
          have d3 : ((bn m 0 : Int) == 3) = false := beq_false_of_ne (by omega)
          have d4 : ((bn m 0 : Int) == 4) = false := beq_false_of_ne (by omega)
          have d5 : ((bn m 0 : Int) == 5) = false := beq_false_of_ne (by omega)
          have d6 : ((bn m 0 : Int) == 6) = false := beq_false_of_ne (by omega)
          have d7 : ((bn m 0 : Int) == 7) = false := beq_false_of_ne (by omega)
          clear h1 h5 hh h7
          go_enter Try.func51, Try.ntmps51
          go_wp2_with (go_at_call 52; refine (field_at _ _ _ _ _ HB.out 0 (by omega)).mono ?_; rintro e w2 ⟨rfl, rfl⟩)
          go_ret
          exact ⟨rfl, Below.refl _ _⟩

set_option maxHeartbeats 1000000 in
theorem cost_any (F M : Nat → Prop) (p : Nat) (g : Gst) (ht : Nat → Int) (d : Int) (ao : Option Addr) (cap : Nat) (m : List UInt8) (w : World) (hC : Cx w F M p (mk g ht d)) (hR : okR g.rm) (hB : BS w ao cap m) (hw : m.length = pz m) (hl : m.length ≤ 2000) :
    Calls Try.prog 37 #[.pointer (some ⟨p, 0, none⟩), .slice ao m.length cap] w fun e w' => e = .returned (.int .i64 (pd g.rm m).2.1) ∧ Below w.heap.size w w' := by
  have HC : Hid (Cx w F M p (mk g ht d)) := hC
  have HR : Hid (okR g.rm) := hR
  have HB : Hid (BS w ao cap m) := hB
  have HW : Hid (m.length = pz m) := hw
  have hlt := hC.lt
  clear hC hR hB hw
  by_cases h0 : per g.rm m = 0
  · have d0 : (per g.rm m != 0) = false := by simpa using h0
    by_cases h1 : bn m 0 = 1
    · have HV : Hid ((bn m 0 : Int) = 1) := (by omega : (bn m 0 : Int) = 1)
      obtain ⟨m1, m2⟩ := mul255 (bn_le m 2) (bn_le m 3)
      rw [pd_1 h1]
      rw [per_1 h1] at h0
      simp only [if_pos h0]
      clear h1 h0
      go_enter Try.func37, Try.ntmps37
      go_wp2_with (first | (go_at_call 51; refine (fault_any F M p g ht d _ _ _ _ HC.out HR.out HB.out HW.out hl).mono ?_; rintro e w1 ⟨rfl, hb1⟩; have HB1 : Hid (BS w1 ao cap m) := HB.out.below hb1) | (go_at_call 52; refine (field_0 _ _ _ _ _ _ HB1.out (by omega) HV.out).mono ?_; rintro e w2 ⟨rfl, rfl⟩) | (go_at_call 52; refine (field_at _ _ _ _ _ HB1.out 2 (by omega)).mono ?_; rintro e w2 ⟨rfl, rfl⟩) | (go_at_call 52; refine (field_at _ _ _ _ _ HB1.out 3 (by omega)).mono ?_; rintro e w2 ⟨rfl, rfl⟩))
      go_ret
      exact ⟨rfl, hb1⟩
    · by_cases h34 : bn m 0 = 3 ∨ bn m 0 = 4
      · have ht' := per_thr (by omega) h0
        have e : (pd g.rm m).2.1 = 1 + (bn m 4 : Int) := by
          rcases h34 with k | k
          · rw [pd_3 k ht']
          · rw [pd_4 k ht']
        rw [e]
        have b4 := bn_le m 4
        obtain ⟨v, hv, hv2⟩ : ∃ v : Int, (bn m 0 : Int) = v ∧ (v = 3 ∨ v = 4) := ⟨_, rfl, by omega⟩
        have HV : Hid ((bn m 0 : Int) = v) := hv
        clear h1 h34 hv e ht' h0
        rcases hv2 with rfl | rfl <;>
        · go_enter Try.func37, Try.ntmps37
          go_wp2_with (first | (go_at_call 51; refine (fault_any F M p g ht d _ _ _ _ HC.out HR.out HB.out HW.out hl).mono ?_; rintro e w1 ⟨rfl, hb1⟩; have HB1 : Hid (BS w1 ao cap m) := HB.out.below hb1) | (go_at_call 52; refine (field_0 _ _ _ _ _ _ HB1.out (by omega) HV.out).mono ?_; rintro e w2 ⟨rfl, rfl⟩) | (go_at_call 52; refine (field_at _ _ _ _ _ HB1.out 4 (by omega)).mono ?_; rintro e w2 ⟨rfl, rfl⟩))
          go_ret
          exact ⟨rfl, hb1⟩
      · by_cases h5 : bn m 0 = 5
        · have HV : Hid ((bn m 0 : Int) = 5) := (by omega : (bn m 0 : Int) = 5)
          rw [pd_5 h5]
          rw [per_5 h5] at h0
          simp only [if_pos h0]
          have b2 := bn_le m 2
          clear h1 h0 h5 h34
          go_enter Try.func37, Try.ntmps37
          go_wp2_with (first | (go_at_call 51; refine (fault_any F M p g ht d _ _ _ _ HC.out HR.out HB.out HW.out hl).mono ?_; rintro e w1 ⟨rfl, hb1⟩; have HB1 : Hid (BS w1 ao cap m) := HB.out.below hb1) | (go_at_call 52; refine (field_0 _ _ _ _ _ _ HB1.out (by omega) HV.out).mono ?_; rintro e w2 ⟨rfl, rfl⟩) | (go_at_call 52; refine (field_at _ _ _ _ _ HB1.out 2 (by omega)).mono ?_; rintro e w2 ⟨rfl, rfl⟩))
          go_ret
          exact ⟨rfl, hb1⟩
        · by_cases h6 : bn m 0 = 6
          · have HV : Hid ((bn m 0 : Int) = 6) := (by omega : (bn m 0 : Int) = 6)
            have ht' := per_thr (by omega) h0
            have h8 : bn m 1 < 8 := (of_decide_eq_true ht' : _ ∧ _).1
            rw [pd_6 h6 ht', ← obs_lo (R := g.rm) h8]
            have hs : (obs g.rm (bn m 1)).length ≤ 576 := by rw [obs_lo h8]; exact HR.out.len _ h8
            clear h1 h0 h5 h34 h6 ht' h8
            go_enter Try.func37, Try.ntmps37
            go_wp2_with (first | (go_at_call 51; refine (fault_any F M p g ht d _ _ _ _ HC.out HR.out HB.out HW.out hl).mono ?_; rintro e w1 ⟨rfl, hb1⟩; have HB1 : Hid (BS w1 ao cap m) := HB.out.below hb1; have HC1 : Hid (Cx w1 F M p (mk g ht d)) := HC.out.below hb1; have hlt1 := HC1.out.lt) | (go_at_call 52; refine (field_0 _ _ _ _ _ _ HB1.out (by omega) HV.out).mono ?_; rintro e w2 ⟨rfl, rfl⟩) | (go_at_call 52; refine (field_at _ _ _ _ _ HB1.out 1 (by omega)).mono ?_; rintro e w2 ⟨rfl, rfl⟩) | (go_at_call 53; refine (size_g F M p g ht d _ HC1.out _).mono ?_; rintro e w3 ⟨rfl, rfl⟩))
            go_ret
            exact ⟨rfl, hb1⟩
          · by_cases h7 : bn m 0 = 7
            · have HV : Hid ((bn m 0 : Int) = 7) := (by omega : (bn m 0 : Int) = 7)
              rw [per_7 h7] at h0
              have HK : Hid (der g.rm m = 0) := h0
              obtain ⟨cst, hcst⟩ : ∃ cst, (dst g.rm m (g.rm.bs (bn m 1)).length).2 = cst := ⟨_, rfl⟩
              have HCST : Hid ((dst g.rm m (g.rm.bs (bn m 1)).length).2 = cst) := hcst
              have e : (pd g.rm m).2.1 = cst := by
                rw [pd_7 h7]
                show dwC g.rm m = cst
                rw [← hcst]
                exact if_pos h0
              rw [e]
              clear h1 h0 h5 h34 h6 h7 e hcst
              go_enter Try.func37, Try.ntmps37
              go_wp2_with (first | (go_at_call 51; refine (fault_any F M p g ht d _ _ _ _ HC.out HR.out HB.out HW.out hl).mono ?_; rintro e w1 ⟨rfl, hb1⟩; have HB1 : Hid (BS w1 ao cap m) := HB.out.below hb1; have HC1 : Hid (Cx w1 F M p (mk g ht d)) := HC.out.below hb1; have hlt1 := HC1.out.lt) | (go_at_call 52; refine (field_0 _ _ _ _ _ _ HB1.out (by omega) HV.out).mono ?_; rintro e w2 ⟨rfl, rfl⟩) | (go_at_call 54; refine (drawn_any F M p g ht d _ _ _ _ HC1.out HR.out HB1.out HK.out).mono ?_; rw [HCST.out]; rintro e w3 ⟨⟨ao3, cap3, rfl, _, _⟩, hb3⟩))
              go_ret
              exact ⟨rfl, hb1.trans (hb3.mono hb1.size)⟩
            · have h2 : bn m 0 = 2 := by
                rcases Nat.lt_trichotomy (bn m 0) 2 with q | q | q
                · exact absurd (per_o (R := g.rm) h1 (by omega) (by omega) (by omega) h5 h6 h7) (by omega)
                · exact q
                · exact absurd (per_o (R := g.rm) h1 (by omega) (by omega) (by omega) h5 h6 h7) (by omega)
              have HV : Hid ((bn m 0 : Int) = 2) := (by omega : (bn m 0 : Int) = 2)
              rw [pd_2 h2 (per_thr (by omega) h0)]
              clear h1 h0 h5 h34 h6 h2 h7
              go_enter Try.func37, Try.ntmps37
              go_wp2_with (first | (go_at_call 51; refine (fault_any F M p g ht d _ _ _ _ HC.out HR.out HB.out HW.out hl).mono ?_; rintro e w1 ⟨rfl, hb1⟩; have HB1 : Hid (BS w1 ao cap m) := HB.out.below hb1) | (go_at_call 52; refine (field_0 _ _ _ _ _ _ HB1.out (by omega) HV.out).mono ?_; rintro e w2 ⟨rfl, rfl⟩))
              go_ret
              exact ⟨rfl, hb1⟩
  · have d0 : (per g.rm m != 0) = true := by simpa using h0
    rw [pd_bad h0]
    clear h0
    go_enter Try.func37, Try.ntmps37
    go_wp2_with (go_at_call 51; refine (fault_any F M p g ht d _ _ _ _ HC.out HR.out HB.out HW.out hl).mono ?_; rintro e w1 ⟨rfl, hb1⟩)
    go_ret
    exact ⟨rfl, hb1⟩

end Go.Proofs.Ytbedkfgdhaajaab
