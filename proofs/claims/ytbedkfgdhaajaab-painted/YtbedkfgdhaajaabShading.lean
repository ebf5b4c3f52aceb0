/- Walks: the program's Shade, whole (P5). -/
import Derived.Test.YtbedkfgdhaajaabRun
namespace Go.Proofs.Ytbedkfgdhaajaab
open Go.RowKit

theorem bcellv {W w1 : World} (hb : Below W.heap.size W w1) : (∀ b o, b < W.heap.size → w1.cell? ⟨b, o, none⟩ = W.cell? ⟨b, o, none⟩) ∧ (∀ b o, b < W.heap.size → w1.frozen? ⟨b, o, none⟩ = W.frozen? ⟨b, o, none⟩) :=
  ⟨fun b o h => hb.cell (p := ⟨b, o, none⟩) h, fun b o h => hb.frozen (p := ⟨b, o, none⟩) h⟩

theorem tup3 {a b c d e f : Int} (h : a = d) (k : b = e) (l : c = f) : Ending.returned (.tuple #[.int .i64 a, .int .i64 b, .int .i64 c]) = .returned (.tuple #[.int .i64 d, .int .i64 e, .int .i64 f]) := by rw [h, k, l]

theorem inb_bytey {v : Int} (h : inb v = true) : bytey v := (of_decide_eq_true h : 0 ≤ v ∧ v ≤ 255)

theorem shd_bad {s tx : ByteArray} {x y old col : Int} (h : ¬ (ver s).1 = 0) : shd s x y old col tx = (0, 0, (ver s).1) := by
  unfold shd; rw [if_neg h]
theorem shd_long {s tx : ByteArray} {x y old col : Int} (h : (ver s).1 = 0) (h1 : 576 < tx.size) : shd s x y old col tx = (0, 0, 12) := by
  unfold shd; rw [if_pos h, if_pos h1]
theorem shd_arg {s tx : ByteArray} {x y old col : Int} (h : (ver s).1 = 0) (h1 : ¬ 576 < tx.size) (h2 : (inb x && inb y && inb old && inb col) = false) : shd s x y old col tx = (0, 0, 13) := by
  unfold shd; rw [if_pos h, if_neg h1, h2]; rfl
theorem shd_ok {s tx : ByteArray} {x y old col : Int} (h : (ver s).1 = 0) (h1 : ¬ 576 < tx.size) (i1 : inb x = true) (i2 : inb y = true) (i3 : inb old = true) (i4 : inb col = true) :
    shd s x y old col tx = ((sh s tx 64 (reg0 x y old col) 0).1, (sh s tx 64 (reg0 x y old col) 0).2, 0) := by
  unfold shd; rw [if_pos h, if_neg h1, i1, i2, i3, i4]; rfl

set_option maxHeartbeats 1000000 in
theorem shade_in (s : ByteArray) (x y old col : Int) (tx : ByteArray) (w : World) (hs : s.size ≤ maxLen) (ht : tx.size ≤ maxLen) :
    Calls Try.prog 42 #[.string s, .agg #[.int .i64 x, .int .i64 y, .int .i64 old, .int .i64 col], .string tx] w fun e w' => e = .returned (.tuple #[.int .i64 (shd s x y old col tx).1, .int .i64 (shd s x y old col tx).2.1, .int .i64 (shd s x y old col tx).2.2]) ∧ Below w.heap.size w w' := by
  have HS : Hid (s.size ≤ maxLen) := hs
  have HT : Hid (tx.size ≤ maxLen) := ht
  unfold maxLen at ht
  clear hs
  by_cases hv : (ver s).1 = 0
  · have hv' : ((ver s).1 != 0) = false := by simpa using hv
    by_cases hl : 576 < tx.size
    · rw [shd_long hv hl]
      clear hv
      go_enter Try.func42, Try.ntmps42
      go_wp2_with (go_at_call 29; refine (verify_in _ _ HS.out).mono ?_; rintro e w1 ⟨rfl, hb1⟩)
      go_ret3
      exact ⟨rfl, ((Below.refl _ _).alloc (Nat.le_refl _) _).trans (hb1.mono (by simp))⟩
    · have HV : Hid ((ver s).1 = 0) := hv
      clear hv
      have i0 : ∀ w, (Instr.index 127 (.agg #[.int .i64 x, .int .i64 y, .int .i64 old, .int .i64 col]) (.int .i64 0)).run Try.prog w = .ok (.int .i64 x) w := fun _ => by kernel_rfl
      have i1 : ∀ w, (Instr.index 127 (.agg #[.int .i64 x, .int .i64 y, .int .i64 old, .int .i64 col]) (.int .i64 1)).run Try.prog w = .ok (.int .i64 y) w := fun _ => by kernel_rfl
      have i2 : ∀ w, (Instr.index 127 (.agg #[.int .i64 x, .int .i64 y, .int .i64 old, .int .i64 col]) (.int .i64 2)).run Try.prog w = .ok (.int .i64 old) w := fun _ => by kernel_rfl
      have i3 : ∀ w, (Instr.index 127 (.agg #[.int .i64 x, .int .i64 y, .int .i64 old, .int .i64 col]) (.int .i64 3)).run Try.prog w = .ok (.int .i64 col) w := fun _ => by kernel_rfl
      go_enter Try.func42, Try.ntmps42
      go_wp2_with (go_at_call 29; refine (verify_in _ _ HS.out).mono ?_; rintro e w1 ⟨rfl, hb1⟩; obtain ⟨hc1, hf1⟩ := bcellv hb1; have hz1 : w.heap.size < w1.heap.size := (by have := hb1.size; simp at this; omega))
      have BB : Hid (Below w.heap.size w w1) := ((Below.refl _ _).alloc (Nat.le_refl _) _).trans (hb1.mono (by simp))
      have d0 : w1.cell? ⟨w.heap.size, 0, none⟩ = some (.int .i64 x) := by rw [hc1 _ _ (by simp)]; simp [go_sem]
      have d1 : w1.cell? ⟨w.heap.size, 1, none⟩ = some (.int .i64 y) := by rw [hc1 _ _ (by simp)]; simp [go_sem]
      have d2 : w1.cell? ⟨w.heap.size, 2, none⟩ = some (.int .i64 old) := by rw [hc1 _ _ (by simp)]; simp [go_sem]
      have d3 : w1.cell? ⟨w.heap.size, 3, none⟩ = some (.int .i64 col) := by rw [hc1 _ _ (by simp)]; simp [go_sem]
      clear hc1 hf1 hb1
      go_loop [37, 13] (fun i _ => i = .int .i64 0 ∨ (i = .int .i64 1 ∧ inb x = true) ∨ (i = .int .i64 2 ∧ inb x = true ∧ inb y = true) ∨ (i = .int .i64 3 ∧ inb x = true ∧ inb y = true ∧ inb old = true) ∨ (i = .int .i64 4 ∧ inb x = true ∧ inb y = true ∧ inb old = true ∧ inb col = true)) (fun i _ => 4 - (intOf i).toNat)
      case atStart => exact .inl rfl
      case round =>
        rcases hrel with rfl | ⟨rfl, k0⟩ | ⟨rfl, k0, k1⟩ | ⟨rfl, k0, k1, k2⟩ | ⟨rfl, k0, k1, k2, k3⟩
        · by_cases n1 : x < 0
          · have hi : inb x = false := decide_eq_false (by omega)
            have HI : Hid (inb x = false) := hi
            clear hi
            go_wp2
            go_ret3
            have e := shd_arg (x := x) (y := y) (old := old) (col := col) HV.out hl (by simp [HI.out])
            exact ⟨tup3 (by rw [e]) (by rw [e]) (by rw [e]), BB.out.alloc (by omega) _⟩
          · by_cases n2 : 255 < x
            · have hi : inb x = false := decide_eq_false (by omega)
              have HI : Hid (inb x = false) := hi
              clear hi
              go_wp2
              go_ret3
              have e := shd_arg (x := x) (y := y) (old := old) (col := col) HV.out hl (by simp [HI.out])
              exact ⟨tup3 (by rw [e]) (by rw [e]) (by rw [e]), BB.out.alloc (by omega) _⟩
            · go_wp2
              have KK : inb x = true := decide_eq_true (by omega)
              go_round
              case rel => exact .inr (.inl ⟨by go_num, KK⟩)
              case measure => simp [intOf]
        · have K0 : Hid (inb x = true) := k0
          clear k0
          by_cases n1 : y < 0
          · have hi : inb y = false := decide_eq_false (by omega)
            have HI : Hid (inb y = false) := hi
            clear hi
            go_wp2
            go_ret3
            have e := shd_arg (x := x) (y := y) (old := old) (col := col) HV.out hl (by simp [HI.out])
            exact ⟨tup3 (by rw [e]) (by rw [e]) (by rw [e]), BB.out.alloc (by omega) _⟩
          · by_cases n2 : 255 < y
            · have hi : inb y = false := decide_eq_false (by omega)
              have HI : Hid (inb y = false) := hi
              clear hi
              go_wp2
              go_ret3
              have e := shd_arg (x := x) (y := y) (old := old) (col := col) HV.out hl (by simp [HI.out])
              exact ⟨tup3 (by rw [e]) (by rw [e]) (by rw [e]), BB.out.alloc (by omega) _⟩
            · go_wp2
              have KK : inb y = true := decide_eq_true (by omega)
              go_round
              case rel => exact .inr (.inr (.inl ⟨by go_num, K0.out, KK⟩))
              case measure => simp [intOf]
        · have K0 : Hid (inb x = true) := k0
          clear k0
          have K1 : Hid (inb y = true) := k1
          clear k1
          by_cases n1 : old < 0
          · have hi : inb old = false := decide_eq_false (by omega)
            have HI : Hid (inb old = false) := hi
            clear hi
            go_wp2
            go_ret3
            have e := shd_arg (x := x) (y := y) (old := old) (col := col) HV.out hl (by simp [HI.out])
            exact ⟨tup3 (by rw [e]) (by rw [e]) (by rw [e]), BB.out.alloc (by omega) _⟩
          · by_cases n2 : 255 < old
            · have hi : inb old = false := decide_eq_false (by omega)
              have HI : Hid (inb old = false) := hi
              clear hi
              go_wp2
              go_ret3
              have e := shd_arg (x := x) (y := y) (old := old) (col := col) HV.out hl (by simp [HI.out])
              exact ⟨tup3 (by rw [e]) (by rw [e]) (by rw [e]), BB.out.alloc (by omega) _⟩
            · go_wp2
              have KK : inb old = true := decide_eq_true (by omega)
              go_round
              case rel => exact .inr (.inr (.inr (.inl ⟨by go_num, K0.out, K1.out, KK⟩)))
              case measure => simp [intOf]
        · have K0 : Hid (inb x = true) := k0
          clear k0
          have K1 : Hid (inb y = true) := k1
          clear k1
          have K2 : Hid (inb old = true) := k2
          clear k2
          by_cases n1 : col < 0
          · have hi : inb col = false := decide_eq_false (by omega)
            have HI : Hid (inb col = false) := hi
            clear hi
            go_wp2
            go_ret3
            have e := shd_arg (x := x) (y := y) (old := old) (col := col) HV.out hl (by simp [HI.out])
            exact ⟨tup3 (by rw [e]) (by rw [e]) (by rw [e]), BB.out.alloc (by omega) _⟩
          · by_cases n2 : 255 < col
            · have hi : inb col = false := decide_eq_false (by omega)
              have HI : Hid (inb col = false) := hi
              clear hi
              go_wp2
              go_ret3
              have e := shd_arg (x := x) (y := y) (old := old) (col := col) HV.out hl (by simp [HI.out])
              exact ⟨tup3 (by rw [e]) (by rw [e]) (by rw [e]), BB.out.alloc (by omega) _⟩
            · go_wp2
              have KK : inb col = true := decide_eq_true (by omega)
              go_round
              case rel => exact .inr (.inr (.inr (.inr ⟨by go_num, K0.out, K1.out, K2.out, KK⟩)))
              case measure => simp [intOf]
        · have K0 : Hid (inb x = true) := k0
          have K1 : Hid (inb y = true) := k1
          have K2 : Hid (inb old = true) := k2
          have K3 : Hid (inb col = true) := k3
          clear k0 k1 k2 k3 i0 i1 i2 i3
          have hgood := ver_good HV.out
          have HG : Hid _ := hgood
          clear hgood
          have hcv := conv_run tx (by omega)
          have HCV : Hid (∀ (W : World) (n : Nat), n = W.heap.size → BS (cvW W tx) (some ⟨n, 0, none⟩) (cvC W tx) tx.data.toList ∧ Below W.heap.size W (cvW W tx)) := fun W n hn => by subst hn; exact conv_bs W tx (by omega)
          have HCS : Hid (∀ W, (cvW W tx).heap.size = W.heap.size + 1) := fun W => cvW_size W tx
          go_wp2_with (go_at_call 59; refine (run_any _ _ _ _ _ _ _ tx _ HG.out.1 HG.out.2 (HCV.out _ _ (by simp)).1 (inb_bytey K0.out) (inb_bytey K1.out) (inb_bytey K2.out) (inb_bytey K3.out)).mono ?_; rintro e w2 ⟨rfl, hb2⟩)
          go_ret3
          have e := shd_ok HV.out hl K0.out K1.out K2.out K3.out
          exact ⟨tup3 (by rw [e]) (by rw [e]) (by rw [e]), ((BB.out.alloc (by omega) _).trans ((HCV.out _ _ rfl).2.mono (by simp; omega))).trans (hb2.mono (by rw [HCS.out]; simp; omega))⟩
  · rw [shd_bad hv]
    have hv' : ((ver s).1 != 0) = true := by simpa using hv
    clear hv
    go_enter Try.func42, Try.ntmps42
    go_wp2_with (go_at_call 29; refine (verify_in _ _ HS.out).mono ?_; rintro e w1 ⟨rfl, hb1⟩)
    go_ret3
    exact ⟨rfl, ((Below.refl _ _).alloc (Nat.le_refl _) _).trans (hb1.mono (by simp))⟩

set_option maxHeartbeats 400000 in
theorem shade_any (s : ByteArray) (x y old col : Int) (tx : ByteArray) (w : World) (hs : s.size ≤ maxLen) (ht : tx.size ≤ maxLen) :
    Calls Try.prog 31 #[.string s, .agg #[.int .i64 x, .int .i64 y, .int .i64 old, .int .i64 col], .string tx] w fun e w' => e = .returned (.tuple #[.int .i64 (shd s x y old col tx).1, .int .i64 (shd s x y old col tx).2.1, .int .i64 (shd s x y old col tx).2.2]) ∧ Below w.heap.size w w' := by
  go_enter Try.func31, Try.ntmps31
  go_wp2_with (go_at_call 42; refine (shade_in _ _ _ _ _ _ _ hs ht).mono ?_; rintro e w1 ⟨rfl, hb1⟩)
  go_ret3
  exact ⟨rfl, ((Below.refl _ _).alloc (Nat.le_refl _) _).trans (hb1.mono (by simp))⟩

end Go.Proofs.Ytbedkfgdhaajaab
