/- Walks: the objects of a context (P10). -/
import Derived.Test.YtoafhdbgjpkgfabProg
import Derived.Test.YtoafhdbgjpkgfabCtx
namespace Go.Proofs.Ytoafhdbgjpkgfab
open Go.RowKit

set_option maxHeartbeats 400000 in
theorem pagesOf_any (n : Int) (w : World) (h0 : 0 ≤ n) (h1 : n ≤ 9000000000000000000) : Calls Try.prog 70 #[.int .i64 n] w fun e w' => e = .returned (.int .i64 (pg n)) ∧ w' = w := by
  go_enter Try.func70, Try.ntmps70
  go_wp2
  go_ret
  exact ⟨retI (by unfold pg; omega), rfl⟩

set_option maxHeartbeats 400000 in
theorem isSide_any (n : Int) (w : World) : Calls Try.prog 76 #[.int .i64 n] w fun e w' => e = .returned (.bool (side n)) ∧ w' = w := by
  by_cases h : 1 ≤ n
  · by_cases h2 : n ≤ 24
    · have e : side n = true := decide_eq_true ⟨h, h2⟩
      rw [e]
      clear e
      go_enter Try.func76, Try.ntmps76
      go_wp2
      go_ret
      exact ⟨rfl, rfl⟩
    · have e : side n = false := decide_eq_false (by omega)
      rw [e]
      clear e
      go_enter Try.func76, Try.ntmps76
      go_wp2
      go_ret
      exact ⟨rfl, rfl⟩
  · have e : side n = false := decide_eq_false (by omega)
    rw [e]
    clear e
    go_enter Try.func76, Try.ntmps76
    go_wp2
    go_ret
    exact ⟨rfl, rfl⟩

set_option maxHeartbeats 400000 in
theorem has_out (p : Nat) (n : Int) (w : World) (h : n < 0 ∨ 8 ≤ n) : Calls Try.prog 51 #[.pointer (some ⟨p, 0, none⟩), .int .i64 n] w fun e w' => e = .returned (.bool false) ∧ w' = w := by
  rcases h with h | h
  · go_enter Try.func51, Try.ntmps51
    go_wp2
    go_ret
    exact ⟨rfl, rfl⟩
  · have h' : ¬ n < 0 := by omega
    go_enter Try.func51, Try.ntmps51
    go_wp2
    go_ret
    exact ⟨rfl, rfl⟩

theorem has_in (F M : Nat → Prop) (p : Nat) (C : Ctx) (n : Nat) (w : World) (h : n < 8) (hC : Cx w F M p C) : Calls Try.prog 51 #[.pointer (some ⟨p, 0, none⟩), .int .i64 n] w fun e w' => e = .returned (.bool (decide (0 < (C.by_ n).length))) ∧ w' = w := by
  obtain ⟨ad, cp, hC, _⟩ := hC
  have hs := hC.sl n (by omega)
  have e : slot n = n * 3 + 2 := by unfold slot; rw [if_pos h]
  rw [e] at hs
  have hlt := hC.lt
  clear hC e
  have n0 : (0 : Int) ≤ n := by omega
  have n8 : (n : Int) < 8 := by omega
  go_enter Try.func51, Try.ntmps51
  go_wp2
  go_ret
  exact ⟨rfl, rfl⟩

/-- is there an object of this handle? how many bytes has it? -/
def thC (C : Ctx) (n : Nat) : Bool := decide (n < 8 ∧ 0 < (C.by_ n).length)
def szC (C : Ctx) (n : Nat) : Nat := if n < 8 then (C.by_ n).length else 0

theorem has_any (F M : Nat → Prop) (p : Nat) (C : Ctx) (n : Nat) (w : World) (hC : Cx w F M p C) : Calls Try.prog 51 #[.pointer (some ⟨p, 0, none⟩), .int .i64 n] w fun e w' => e = .returned (.bool (thC C n)) ∧ w' = w := by
  by_cases h : n < 8
  · have e : thC C n = decide (0 < (C.by_ n).length) := by unfold thC; simp [h]
    rw [e]; exact has_in F M p C n w h hC
  · have e : thC C n = false := decide_eq_false (fun q => h q.1)
    rw [e]; exact has_out p n w (.inr (by omega))

set_option maxHeartbeats 400000 in
theorem size_any (F M : Nat → Prop) (p : Nat) (C : Ctx) (n : Nat) (w : World) (hC : Cx w F M p C) : Calls Try.prog 41 #[.pointer (some ⟨p, 0, none⟩), .int .i64 n] w fun e w' => e = .returned (.int .i64 (szC C n)) ∧ w' = w := by
  have HC : Hid (Cx w F M p C) := hC
  obtain ⟨ad, cp, hA, _⟩ := hC
  have hlt := hA.lt
  by_cases h : thC C n = true
  · have hn : n < 8 := (of_decide_eq_true h : _ ∧ _).1
    have hs := hA.sl n (by omega)
    have e : slot n = n * 3 + 2 := by unfold slot; rw [if_pos hn]
    rw [e] at hs
    have e2 : szC C n = (C.by_ n).length := if_pos hn
    rw [e2]
    clear hA e e2
    have n0 : (0 : Int) ≤ n := by omega
    have n8 : (n : Int) < 8 := by omega
    go_enter Try.func41, Try.ntmps41
    go_wp2_with (go_at_call 51; refine (has_any F M p C n _ HC.out).mono ?_; rintro e w2 ⟨rfl, rfl⟩)
    go_ret
    exact ⟨rfl, rfl⟩
  · have h' : thC C n = false := by simpa using h
    have e2 : szC C n = 0 := by
      unfold szC
      split
      · rename_i hn
        have := of_decide_eq_false h'
        omega
      · rfl
    rw [e2]
    clear hA e2 h
    go_enter Try.func41, Try.ntmps41
    go_wp2_with (go_at_call 51; refine (has_any F M p C n _ HC.out).mono ?_; rintro e w2 ⟨rfl, rfl⟩)
    go_ret
    exact ⟨rfl, rfl⟩

/-- byte number k of an object; 0, if there is none -/
def byC (C : Ctx) (n k : Nat) : UInt8 := if n < 8 then (C.by_ n).getD k 0 else 0

set_option maxHeartbeats 400000 in
theorem byte_any (F M : Nat → Prop) (p : Nat) (C : Ctx) (n k : Nat) (w : World) (hC : Cx w F M p C) : Calls Try.prog 69 #[.pointer (some ⟨p, 0, none⟩), .int .i64 n, .int .i64 k] w fun e w' => e = .returned (.int .u8 ((byC C n k).toNat : Int)) ∧ w' = w := by
  have HC : Hid (Cx w F M p C) := hC
  obtain ⟨ad, cp, hA, _⟩ := hC
  have hlt := hA.lt
  by_cases h : k < szC C n
  · have hn : n < 8 := by unfold szC at h; split at h; assumption; omega
    have hz : szC C n = (C.by_ n).length := if_pos hn
    have hs := hA.sl n (by omega)
    have e : slot n = n * 3 + 2 := by unfold slot; rw [if_pos hn]
    rw [e] at hs
    have hB := hA.bs n (by omega)
    obtain ⟨b, off, ha, hb⟩ := hB.there (by have := hB.hle; omega)
    have hc := hB.hce _ ha k (by omega)
    simp only at hc
    have e2 : byC C n k = (C.by_ n)[k]'(by omega) := by unfold byC; rw [if_pos hn, List.getD_eq_getElem?_getD, List.getElem?_eq_getElem (by omega)]; rfl
    rw [e2]
    rw [ha] at hs
    generalize (C.by_ n)[k] = u at hc ⊢
    have h1 : ¬ (szC C n : Int) ≤ k := by omega
    have h2 : (k : Int) < (C.by_ n).length := by omega
    have h3 : (0 : Int) ≤ k := by omega
    have n0 : (0 : Int) ≤ n := by omega
    have n8 : (n : Int) < 8 := by omega
    clear hA e e2 hB ha hz
    go_enter Try.func69, Try.ntmps69
    go_wp2_with (go_at_call 41; refine (size_any F M p C n _ HC.out).mono ?_; rintro e w2 ⟨rfl, rfl⟩)
    go_ret
    exact ⟨rfl, rfl⟩
  · have e2 : byC C n k = 0 := by
      unfold byC
      split
      · rename_i hn
        have hz : szC C n = (C.by_ n).length := if_pos hn
        rw [List.getD_eq_getElem?_getD, List.getElem?_eq_none (by omega)]; rfl
      · rfl
    rw [e2]
    have h1 : (szC C n : Int) ≤ k := by omega
    clear hA e2
    go_enter Try.func69, Try.ntmps69
    go_wp2_with (go_at_call 41; refine (size_any F M p C n _ HC.out).mono ?_; rintro e w2 ⟨rfl, rfl⟩)
    go_ret
    exact ⟨rfl, rfl⟩

set_option maxHeartbeats 400000 in
theorem put_in (F M : Nat → Prop) (p : Nat) (C : Ctx) (n k : Nat) (u : UInt8) (w : World) (hC : Cx w F M p C) (hn : n < 8) (h : k < (C.by_ n).length) : Calls Try.prog 68 #[.pointer (some ⟨p, 0, none⟩), .int .i64 n, .int .i64 k, .int .u8 (u.toNat : Int)] w fun e w' => e = .returned (.tuple #[]) ∧ Goes F M w w' p { C with by_ := updA C.by_ n ((C.by_ n).set k u) } := by
  have HC : Hid (Cx w F M p C) := hC
  obtain ⟨ad, cp, hA, hM⟩ := hC
  have HA : Hid (CtxAt w F p ad cp C) := hA
  have HM : Hid (∀ b, M b → blk (ad 8) b) := hM
  have hlt := hA.lt
  have hz : szC C n = (C.by_ n).length := if_pos hn
  have hs := hA.sl n (by omega)
  have e : slot n = n * 3 + 2 := by unfold slot; rw [if_pos hn]
  rw [e] at hs
  have hB := hA.bs n (by omega)
  have hle := hB.hle
  obtain ⟨b, off, ha, hb⟩ := hB.there (by omega)
  have hc := hB.hce _ ha k (by omega)
  have hf := (hB.hro _ ha k (by omega)).2
  simp only at hc hf
  have HAD : Hid (ad n = some ⟨b, off, none⟩) := ha
  have HN : Hid (k < (C.by_ n).length) := h
  rw [ha] at hs
  generalize (C.by_ n)[k] = u0 at hc
  have h1 : ¬ (szC C n : Int) ≤ k := by omega
  have h2 : (k : Int) < (C.by_ n).length := by omega
  have h3 : (0 : Int) ≤ k := by omega
  have n0 : (0 : Int) ≤ n := by omega
  have n8 : (n : Int) < 8 := by omega
  clear hA hM e hB ha hz h
  go_enter Try.func68, Try.ntmps68
  go_wp2_with (go_at_call 41; refine (size_any F M p C n _ HC.out).mono ?_; rintro e w2 ⟨rfl, rfl⟩)
  go_end0
  exact ⟨rfl, Goes.setByte HA.out HM.out hn HAD.out HN.out u rfl⟩

set_option maxHeartbeats 400000 in
theorem put_out (F M : Nat → Prop) (p : Nat) (C : Ctx) (n k : Nat) (v : Value) (w : World) (hC : Cx w F M p C) (h : szC C n ≤ k) : Calls Try.prog 68 #[.pointer (some ⟨p, 0, none⟩), .int .i64 n, .int .i64 k, v] w fun e w' => e = .returned (.tuple #[]) ∧ w' = w := by
  have HC : Hid (Cx w F M p C) := hC
  have hlt := hC.lt
  have h1 : (szC C n : Int) ≤ k := by omega
  clear hC
  go_enter Try.func68, Try.ntmps68
  go_wp2_with (go_at_call 41; refine (size_any F M p C n _ HC.out).mono ?_; rintro e w2 ⟨rfl, rfl⟩)
  refine bodyPost_ret (results_none Try.results68 _ _ _) rfl ?_
  exact ⟨rfl, rfl⟩

end Go.Proofs.Ytoafhdbgjpkgfab
