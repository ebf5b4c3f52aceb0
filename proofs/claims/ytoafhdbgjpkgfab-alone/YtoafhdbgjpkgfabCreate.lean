/- Walks: Create and Drop of a context's objects (P10). -/
import Derived.Test.YtoafhdbgjpkgfabPages
import Derived.Deep.RegionHeld3
import Derived.Deep.OwnRows
namespace Go.Proofs.Ytoafhdbgjpkgfab
open Go.RowKit

set_option maxHeartbeats 1000000 in
theorem can_any (F M : Nat → Prop) (p : Nat) (C : Ctx) (h a b : Nat) (w : World) (hC : Cx w F M p C) (hS : smallC C) :
    Calls Try.prog 62 #[.pointer (some ⟨p, 0, none⟩), .int .i64 h, .int .i64 a, .int .i64 b] w fun e w' => e = .returned (.int .i64 (can C.by_ h a b)) ∧ Below w.heap.size w w' := by
  have HC : Hid (Cx w F M p C) := hC
  have HS : Hid (smallC C) := hS
  clear hC hS
  by_cases h8 : 8 ≤ h
  · have e : can C.by_ h a b = 2 := if_pos h8
    rw [e]
    clear e
    have h8' : (8 : Int) ≤ h := by omega
    go_enter Try.func62, Try.ntmps62
    go_wp2
    go_ret
    exact ⟨rfl, Below.refl _ _⟩
  · have h8' : ¬ (8 : Int) ≤ h := by omega
    by_cases ht : 0 < (C.by_ h).length
    · have e : can C.by_ h a b = 3 := by unfold can; rw [if_neg h8, if_pos ht]
      rw [e]
      clear e
      have hd : decide (0 < (C.by_ h).length) = true := decide_eq_true ht
      go_enter Try.func62, Try.ntmps62
      go_wp2_with (go_at_call 51; refine (has_in F M p C _ _ (by omega) HC.out).mono ?_; rintro e w2 ⟨rfl, rfl⟩)
      go_ret
      exact ⟨rfl, Below.refl _ _⟩
    · have hd : decide (0 < (C.by_ h).length) = false := decide_eq_false ht
      by_cases ha : side a = true
      · by_cases hb : side b = true
        · have hm := mul24 (side_bd ha) (side_bd hb)
          have ht8 := tot_bd (f := C.by_) (n := 8) HS.out
          have hpg : 0 ≤ pg (a * b : Int) ∧ pg (a * b : Int) ≤ 9 := by unfold pg; omega
          obtain ⟨m1, m2⟩ := hm
          obtain ⟨t1, t2⟩ := ht8
          obtain ⟨p1, p2⟩ := hpg
          by_cases hq : 12 < tot C.by_ 8 + pg (a * b : Int)
          · have e : can C.by_ h a b = 5 := by unfold can; rw [if_neg h8, if_neg ht, if_pos ⟨ha, hb⟩, if_pos hq]
            rw [e]
            clear e
            go_enter Try.func62, Try.ntmps62
            go_wp2_with (first | (go_at_call 51; refine (has_in F M p C _ _ (by omega) HC.out).mono ?_; rintro e w2 ⟨rfl, rfl⟩) | (go_at_call 76; refine (isSide_any _ _).mono ?_; rintro e w2 ⟨rfl, rfl⟩) | (go_at_call 58; refine (pages_any F M p C _ HC.out HS.out).mono ?_; rintro e w2 ⟨rfl, hb2⟩) | (go_at_call 70; refine (pagesOf_any _ _ (by omega) (by omega)).mono ?_; rintro e w3 ⟨rfl, rfl⟩))
            go_ret
            exact ⟨rfl, hb2⟩
          · have e : can C.by_ h a b = 0 := by unfold can; rw [if_neg h8, if_neg ht, if_pos ⟨ha, hb⟩, if_neg hq]
            rw [e]
            clear e
            go_enter Try.func62, Try.ntmps62
            go_wp2_with (first | (go_at_call 51; refine (has_in F M p C _ _ (by omega) HC.out).mono ?_; rintro e w2 ⟨rfl, rfl⟩) | (go_at_call 76; refine (isSide_any _ _).mono ?_; rintro e w2 ⟨rfl, rfl⟩) | (go_at_call 58; refine (pages_any F M p C _ HC.out HS.out).mono ?_; rintro e w2 ⟨rfl, hb2⟩) | (go_at_call 70; refine (pagesOf_any _ _ (by omega) (by omega)).mono ?_; rintro e w3 ⟨rfl, rfl⟩))
            go_ret
            exact ⟨rfl, hb2⟩
        · have e : can C.by_ h a b = 4 := by unfold can; rw [if_neg h8, if_neg ht, if_neg (fun g => hb g.2)]
          have hb' : side b = false := by simpa using hb
          rw [e]
          clear e hb
          go_enter Try.func62, Try.ntmps62
          go_wp2_with (first | (go_at_call 51; refine (has_in F M p C _ _ (by omega) HC.out).mono ?_; rintro e w2 ⟨rfl, rfl⟩) | (go_at_call 76; refine (isSide_any _ _).mono ?_; rintro e w2 ⟨rfl, rfl⟩))
          go_ret
          exact ⟨rfl, Below.refl _ _⟩
      · have e : can C.by_ h a b = 4 := by unfold can; rw [if_neg h8, if_neg ht, if_neg (fun g => ha g.1)]
        have ha' : side a = false := by simpa using ha
        rw [e]
        clear e ha
        go_enter Try.func62, Try.ntmps62
        go_wp2_with (first | (go_at_call 51; refine (has_in F M p C _ _ (by omega) HC.out).mono ?_; rintro e w2 ⟨rfl, rfl⟩) | (go_at_call 76; refine (isSide_any _ _).mono ?_; rintro e w2 ⟨rfl, rfl⟩))
        go_ret
        exact ⟨rfl, Below.refl _ _⟩

theorem info_byte : (Try.prog.info? 5).map (fun i => (i.zero, i.size, i.bytes)) = some (some (.int .u8 0), 1, 1) := by kernel_rfl

set_option maxHeartbeats 1000000 in
theorem create_ok (F M : Nat → Prop) (p : Nat) (C : Ctx) (h a b : Nat) (w : World) (hC : Cx w F M p C) (hS : smallC C) (hc : can C.by_ h a b = 0) :
    Calls Try.prog 65 #[.pointer (some ⟨p, 0, none⟩), .int .i64 h, .int .i64 a, .int .i64 b] w fun e w' => e = .returned (.tuple #[]) ∧ Goes F M w w' p { C with wd := updA C.wd h a, ht := updA C.ht h b, by_ := updA C.by_ h (zeros (a * b)) } := by
  have HC : Hid (Cx w F M p C) := hC
  have HS : Hid (smallC C) := hS
  obtain ⟨h8, _, ha, hb, _⟩ := can_ok hc
  have HK : Hid (can C.by_ h a b = 0) := hc
  have hc' : (can C.by_ h a b != 0) = false := by simpa using hc
  have hn : a * b ≤ 576 := Nat.le_trans (Nat.mul_le_mul ha.2 hb.2) (by omega)
  have hmk : ∀ w : World, (Instr.makeSlice 51 (.int .i64 ((a : Int) * (b : Int))) (.int .i64 ((a : Int) * (b : Int)))).run Try.prog w = .ok (.slice (some ⟨w.heap.size, 0, none⟩) (a * b) (a * b)) (w.alloc (.cells (madeCells #[.int .u8 0] (a * b)) 5)) := fun w => by
    have := run_make_row' (P := Try.prog) 51 5 (.int .u8 0) 1 Try.underlying51 info_byte rfl .i64 .i64 (a * b) (by omega) (by omega) w
    rw [Int.natCast_mul] at this
    exact this
  have m1 : (0 : Int) ≤ (a : Int) * b := by rw [← Int.natCast_mul]; omega
  have m2 : (a : Int) * b ≤ 576 := by rw [← Int.natCast_mul]; omega
  have h0 : (0 : Int) ≤ h := by omega
  have h1 : (h : Int) < 8 := by omega
  clear hC hS hc
  go_enter Try.func65, Try.ntmps65
  go_wp2_with (go_at_call 62; refine (can_any F M p C _ _ _ _ HC.out HS.out).mono ?_; rintro e w2 ⟨rfl, hb2⟩; obtain ⟨ad, cp, hA, hM⟩ := HC.out.below hb2; have HM : Hid (∀ b, M b → blk (ad 8) b) := hM; clear hM; have q0 := hA.wd h h8; have q1 := hA.ht h h8; have q2 := hA.sl h (by omega); have q3 := hA.lt; have q4 := hA.fz; rw [slot, if_pos h8] at q2; have HA : Hid _ := hA; have HB : Hid _ := hb2; clear hA hb2)
  go_region
  go_wp2
  go_end0
  refine ⟨rfl, Goes.of_below HB.out ?_⟩
  have g := Goes.putObj HA.out HM.out h8 ((Below.refl _ _).alloc (Nat.le_refl _) _) (bs_made w2 5 (a * b) (by unfold maxLen; omega)) (n := a * b) (by simp [zeros]) (fun b g => by obtain ⟨x, e, rfl⟩ := g; cases e; exact Nat.le_refl _) (a : Int) (b : Int)
  rw [World.setCell_alloc_past _ _ _ _ q3, World.setCell_alloc_past _ _ _ _ (by rw [sz_setCell]; exact q3), World.setCell_alloc_past _ _ _ _ (by rw [sz_setCell, sz_setCell]; exact q3)] at g
  exact g.drew

set_option maxHeartbeats 1000000 in
theorem drop_ok (F M : Nat → Prop) (p : Nat) (C : Ctx) (h : Nat) (w : World) (hC : Cx w F M p C) (h8 : h < 8) (hh : 0 < (C.by_ h).length) :
    Calls Try.prog 66 #[.pointer (some ⟨p, 0, none⟩), .int .i64 h] w fun e w' => e = .returned (.tuple #[]) ∧ Goes F M w w' p { C with wd := updA C.wd h 0, ht := updA C.ht h 0, by_ := updA C.by_ h [] } := by
  have HC : Hid (Cx w F M p C) := hC
  obtain ⟨ad, cp, hA, hM⟩ := hC
  have HM : Hid (∀ b, M b → blk (ad 8) b) := hM
  clear hM
  have q0 := hA.wd h h8
  have q1 := hA.ht h h8
  have q2 := hA.sl h (by omega)
  have q3 := hA.lt
  have q4 := hA.fz
  rw [slot, if_pos h8] at q2
  have HA : Hid (CtxAt w F p ad cp C) := hA
  have hd : decide (0 < (C.by_ h).length) = true := decide_eq_true hh
  have h0 : (0 : Int) ≤ h := by omega
  have h1 : (h : Int) < 8 := by omega
  clear hA hh
  go_enter Try.func66, Try.ntmps66
  go_wp2_with (go_at_call 51; refine (has_in F M p C _ _ h8 HC.out).mono ?_; rintro e w2 ⟨rfl, rfl⟩)
  go_end0
  exact ⟨rfl, Goes.putObj HA.out HM.out h8 (Below.refl _ _) (BS.bare _) (n := 0) rfl (fun b g => (blk_none g).elim) 0 0⟩

end Go.Proofs.Ytoafhdbgjpkgfab
