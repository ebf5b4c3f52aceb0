/- Walks: the objects of a context (P10). Walks: the pages of a context's objects (P10). Walks: Create and Drop of a context's objects (P10). -/
import Derived.Test.YtbedkfgdhaajaabProg
import Derived.Test.YtbedkfgdhaajaabCtx
import Derived.Deep.MidRow
import Derived.Deep.RegionHeld3
import Derived.Deep.OwnRows
namespace Go.Proofs.Ytbedkfgdhaajaab
open Go.RowKit

set_option maxHeartbeats 400000 in
theorem pagesOf_any (n : Int) (w : World) (h0 : 0 ≤ n) (h1 : n ≤ 9000000000000000000) : Calls Try.prog 101 #[.int .i64 n] w fun e w' => e = .returned (.int .i64 (pg n)) ∧ w' = w := by
  go_enter Try.func101, Try.ntmps101
  go_wp2
  go_ret
  exact ⟨retI (by unfold pg; omega), rfl⟩

set_option maxHeartbeats 400000 in
theorem isSide_any (n : Int) (w : World) : Calls Try.prog 107 #[.int .i64 n] w fun e w' => e = .returned (.bool (side n)) ∧ w' = w := by
  by_cases h : 1 ≤ n
  · by_cases h2 : n ≤ 24
    · have e : side n = true := decide_eq_true ⟨h, h2⟩
      rw [e]
      clear e
      go_enter Try.func107, Try.ntmps107
      go_wp2
      go_ret
      exact ⟨rfl, rfl⟩
    · have e : side n = false := decide_eq_false (by omega)
      rw [e]
      clear e
      go_enter Try.func107, Try.ntmps107
      go_wp2
      go_ret
      exact ⟨rfl, rfl⟩
  · have e : side n = false := decide_eq_false (by omega)
    rw [e]
    clear e
    go_enter Try.func107, Try.ntmps107
    go_wp2
    go_ret
    exact ⟨rfl, rfl⟩

set_option maxHeartbeats 400000 in
theorem has_out (p : Nat) (n : Int) (w : World) (h : n < 0 ∨ 8 ≤ n) : Calls Try.prog 69 #[.pointer (some ⟨p, 0, none⟩), .int .i64 n] w fun e w' => e = .returned (.bool false) ∧ w' = w := by
  rcases h with h | h
  · go_enter Try.func69, Try.ntmps69
    go_wp2
    go_ret
    exact ⟨rfl, rfl⟩
  · have h' : ¬ n < 0 := by omega
    go_enter Try.func69, Try.ntmps69
    go_wp2
    go_ret
    exact ⟨rfl, rfl⟩

theorem has_in (F M : Nat → Prop) (p : Nat) (C : Ctx) (n : Nat) (w : World) (h : n < 8) (hC : Cx w F M p C) : Calls Try.prog 69 #[.pointer (some ⟨p, 0, none⟩), .int .i64 n] w fun e w' => e = .returned (.bool (decide (0 < (C.by_ n).length))) ∧ w' = w := by
  obtain ⟨ad, cp, hC, _⟩ := hC
  have hs := hC.sl n (by omega)
  have e : slot n = n * 2 + 1 := by unfold slot; rw [if_pos h]
  rw [e] at hs
  have hlt := hC.lt
  clear hC e
  have n0 : (0 : Int) ≤ n := by omega
  have n8 : (n : Int) < 8 := by omega
  go_enter Try.func69, Try.ntmps69
  go_wp2
  go_ret
  exact ⟨rfl, rfl⟩

/-- is there an object of this handle? how many bytes has it? -/
def thC (C : Ctx) (n : Nat) : Bool := decide (n < 8 ∧ 0 < (C.by_ n).length)
def szC (C : Ctx) (n : Nat) : Nat := if n < 8 then (C.by_ n).length else 0

theorem has_any (F M : Nat → Prop) (p : Nat) (C : Ctx) (n : Nat) (w : World) (hC : Cx w F M p C) : Calls Try.prog 69 #[.pointer (some ⟨p, 0, none⟩), .int .i64 n] w fun e w' => e = .returned (.bool (thC C n)) ∧ w' = w := by
  by_cases h : n < 8
  · have e : thC C n = decide (0 < (C.by_ n).length) := by unfold thC; simp [h]
    rw [e]; exact has_in F M p C n w h hC
  · have e : thC C n = false := decide_eq_false (fun q => h q.1)
    rw [e]; exact has_out p n w (.inr (by omega))

set_option maxHeartbeats 400000 in
theorem size_any (F M : Nat → Prop) (p : Nat) (C : Ctx) (n : Nat) (w : World) (hC : Cx w F M p C) : Calls Try.prog 53 #[.pointer (some ⟨p, 0, none⟩), .int .i64 n] w fun e w' => e = .returned (.int .i64 (szC C n)) ∧ w' = w := by
  have HC : Hid (Cx w F M p C) := hC
  obtain ⟨ad, cp, hA, _⟩ := hC
  have hlt := hA.lt
  by_cases h : thC C n = true
  · have hn : n < 8 := (of_decide_eq_true h : _ ∧ _).1
    have hs := hA.sl n (by omega)
    have e : slot n = n * 2 + 1 := by unfold slot; rw [if_pos hn]
    rw [e] at hs
    have e2 : szC C n = (C.by_ n).length := if_pos hn
    rw [e2]
    clear hA e e2
    have n0 : (0 : Int) ≤ n := by omega
    have n8 : (n : Int) < 8 := by omega
    go_enter Try.func53, Try.ntmps53
    go_wp2_with (go_at_call 69; refine (has_any F M p C n _ HC.out).mono ?_; rintro e w2 ⟨rfl, rfl⟩)
    go_ret
    exact ⟨rfl, rfl⟩
  · have h' : thC C n = false := by simpa using h
    have e2 : szC C n = 0 := by
      unfold szC
      split
      · rename_i hn
        have := of_decide_eq_false h'
        omega
      · rfl
    rw [e2]
    clear hA e2 h
    go_enter Try.func53, Try.ntmps53
    go_wp2_with (go_at_call 69; refine (has_any F M p C n _ HC.out).mono ?_; rintro e w2 ⟨rfl, rfl⟩)
    go_ret
    exact ⟨rfl, rfl⟩

/-- how wide is it? which bytes has it? -/
def wdC (C : Ctx) (n : Nat) : Int := if thC C n = true then C.wd n else 0
def bsC (C : Ctx) (n : Nat) : List UInt8 := if thC C n = true then C.by_ n else []

set_option maxHeartbeats 400000 in
theorem width_any (F M : Nat → Prop) (p : Nat) (C : Ctx) (n : Nat) (w : World) (hC : Cx w F M p C) : Calls Try.prog 72 #[.pointer (some ⟨p, 0, none⟩), .int .i64 n] w fun e w' => e = .returned (.int .i64 (wdC C n)) ∧ w' = w := by
  have HC : Hid (Cx w F M p C) := hC
  obtain ⟨ad, cp, hA, _⟩ := hC
  have hlt := hA.lt
  by_cases h : thC C n = true
  · have hn : n < 8 := (of_decide_eq_true h : _ ∧ _).1
    have hs := hA.wd n hn
    have e2 : wdC C n = C.wd n := if_pos h
    rw [e2]
    clear hA e2
    have n0 : (0 : Int) ≤ n := by omega
    have n8 : (n : Int) < 8 := by omega
    go_enter Try.func72, Try.ntmps72
    go_wp2_with (go_at_call 69; refine (has_any F M p C n _ HC.out).mono ?_; rintro e w2 ⟨rfl, rfl⟩)
    go_ret
    exact ⟨rfl, rfl⟩
  · have h' : thC C n = false := by simpa using h
    have e2 : wdC C n = 0 := if_neg h
    rw [e2]
    clear hA e2 h
    go_enter Try.func72, Try.ntmps72
    go_wp2_with (go_at_call 69; refine (has_any F M p C n _ HC.out).mono ?_; rintro e w2 ⟨rfl, rfl⟩)
    go_ret
    exact ⟨rfl, rfl⟩

set_option maxHeartbeats 400000 in
theorem bytes_any (F M : Nat → Prop) (p : Nat) (C : Ctx) (n : Nat) (w : World) (hC : Cx w F M p C) : Calls Try.prog 73 #[.pointer (some ⟨p, 0, none⟩), .int .i64 n] w fun e w' => e = .returned (.string (str (bsC C n))) ∧ w' = w := by
  have HC : Hid (Cx w F M p C) := hC
  obtain ⟨ad, cp, hA, _⟩ := hC
  have hlt := hA.lt
  by_cases h : thC C n = true
  · have hn : n < 8 := (of_decide_eq_true h : _ ∧ _).1
    have hs := hA.sl n (by omega)
    have e : slot n = n * 2 + 1 := by unfold slot; rw [if_pos hn]
    rw [e] at hs
    have hcv := run_string_bs (P := Try.prog) (hA.bs n (by omega)) 51 9 5 Try.underlying51 Try.underlying5 Try.underlying9
    have e2 : bsC C n = C.by_ n := if_pos h
    rw [e2]
    clear hA e e2
    have n0 : (0 : Int) ≤ n := by omega
    have n8 : (n : Int) < 8 := by omega
    go_enter Try.func73, Try.ntmps73
    go_wp2_with (go_at_call 69; refine (has_any F M p C n _ HC.out).mono ?_; rintro e w2 ⟨rfl, rfl⟩)
    go_ret
    exact ⟨rfl, rfl⟩
  · have h' : thC C n = false := by simpa using h
    have e2 : bsC C n = [] := if_neg h
    rw [e2]
    clear hA e2 h
    go_enter Try.func73, Try.ntmps73
    go_wp2_with (go_at_call 69; refine (has_any F M p C n _ HC.out).mono ?_; rintro e w2 ⟨rfl, rfl⟩)
    go_ret
    exact ⟨rfl, rfl⟩

/-- byte number k of an object; 0, if there is none -/
def byC (C : Ctx) (n k : Nat) : UInt8 := if n < 8 then (C.by_ n).getD k 0 else 0

set_option maxHeartbeats 400000 in
theorem byte_any (F M : Nat → Prop) (p : Nat) (C : Ctx) (n k : Nat) (w : World) (hC : Cx w F M p C) : Calls Try.prog 95 #[.pointer (some ⟨p, 0, none⟩), .int .i64 n, .int .i64 k] w fun e w' => e = .returned (.int .u8 ((byC C n k).toNat : Int)) ∧ w' = w := by
  have HC : Hid (Cx w F M p C) := hC
  obtain ⟨ad, cp, hA, _⟩ := hC
  have hlt := hA.lt
  by_cases h : k < szC C n
  · have hn : n < 8 := by unfold szC at h; split at h; assumption; omega
    have hz : szC C n = (C.by_ n).length := if_pos hn
    have hs := hA.sl n (by omega)
    have e : slot n = n * 2 + 1 := by unfold slot; rw [if_pos hn]
    rw [e] at hs
    have hB := hA.bs n (by omega)
    obtain ⟨b, off, ha, hb⟩ := hB.there (by have := hB.hle; omega)
    have hc := hB.hce _ ha k (by omega)
    simp only at hc
    have e2 : byC C n k = (C.by_ n)[k]'(by omega) := by unfold byC; rw [if_pos hn, List.getD_eq_getElem?_getD, List.getElem?_eq_getElem (by omega)]; rfl
    rw [e2]
    rw [ha] at hs
    generalize (C.by_ n)[k] = u at hc ⊢
    have h1 : ¬ (szC C n : Int) ≤ k := by omega
    have h2 : (k : Int) < (C.by_ n).length := by omega
    have h3 : (0 : Int) ≤ k := by omega
    have n0 : (0 : Int) ≤ n := by omega
    have n8 : (n : Int) < 8 := by omega
    clear hA e e2 hB ha hz
    go_enter Try.func95, Try.ntmps95
    go_wp2_with (go_at_call 53; refine (size_any F M p C n _ HC.out).mono ?_; rintro e w2 ⟨rfl, rfl⟩)
    go_ret
    exact ⟨rfl, rfl⟩
  · have e2 : byC C n k = 0 := by
      unfold byC
      split
      · rename_i hn
        have hz : szC C n = (C.by_ n).length := if_pos hn
        rw [List.getD_eq_getElem?_getD, List.getElem?_eq_none (by omega)]; rfl
      · rfl
    rw [e2]
    have h1 : (szC C n : Int) ≤ k := by omega
    clear hA e2
    go_enter Try.func95, Try.ntmps95
    go_wp2_with (go_at_call 53; refine (size_any F M p C n _ HC.out).mono ?_; rintro e w2 ⟨rfl, rfl⟩)
    go_ret
    exact ⟨rfl, rfl⟩

set_option maxHeartbeats 400000 in
theorem put_in (F M : Nat → Prop) (p : Nat) (C : Ctx) (n k : Nat) (u : UInt8) (w : World) (hC : Cx w F M p C) (hn : n < 8) (h : k < (C.by_ n).length) : Calls Try.prog 94 #[.pointer (some ⟨p, 0, none⟩), .int .i64 n, .int .i64 k, .int .u8 (u.toNat : Int)] w fun e w' => e = .returned (.tuple #[]) ∧ Goes F M w w' p { C with by_ := updA C.by_ n ((C.by_ n).set k u) } := by
  have HC : Hid (Cx w F M p C) := hC
  obtain ⟨ad, cp, hA, hM⟩ := hC
  have HA : Hid (CtxAt w F p ad cp C) := hA
  have HM : Hid (∀ b, M b → blk (ad 8) b) := hM
  have hlt := hA.lt
  have hz : szC C n = (C.by_ n).length := if_pos hn
  have hs := hA.sl n (by omega)
  have e : slot n = n * 2 + 1 := by unfold slot; rw [if_pos hn]
  rw [e] at hs
  have hB := hA.bs n (by omega)
  have hle := hB.hle
  obtain ⟨b, off, ha, hb⟩ := hB.there (by omega)
  have hc := hB.hce _ ha k (by omega)
  have hf := (hB.hro _ ha k (by omega)).2
  simp only at hc hf
  have HAD : Hid (ad n = some ⟨b, off, none⟩) := ha
  have HN : Hid (k < (C.by_ n).length) := h
  rw [ha] at hs
  generalize (C.by_ n)[k] = u0 at hc
  have h1 : ¬ (szC C n : Int) ≤ k := by omega
  have h2 : (k : Int) < (C.by_ n).length := by omega
  have h3 : (0 : Int) ≤ k := by omega
  have n0 : (0 : Int) ≤ n := by omega
  have n8 : (n : Int) < 8 := by omega
  clear hA hM e hB ha hz h
  go_enter Try.func94, Try.ntmps94
  go_wp2_with (go_at_call 53; refine (size_any F M p C n _ HC.out).mono ?_; rintro e w2 ⟨rfl, rfl⟩)
  go_end0
  exact ⟨rfl, Goes.setByte HA.out HM.out hn HAD.out HN.out u rfl⟩

set_option maxHeartbeats 400000 in
theorem put_out (F M : Nat → Prop) (p : Nat) (C : Ctx) (n k : Nat) (v : Value) (w : World) (hC : Cx w F M p C) (h : szC C n ≤ k) : Calls Try.prog 94 #[.pointer (some ⟨p, 0, none⟩), .int .i64 n, .int .i64 k, v] w fun e w' => e = .returned (.tuple #[]) ∧ w' = w := by
  have HC : Hid (Cx w F M p C) := hC
  have hlt := hC.lt
  have h1 : (szC C n : Int) ≤ k := by omega
  clear hC
  go_enter Try.func94, Try.ntmps94
  go_wp2_with (go_at_call 53; refine (size_any F M p C n _ HC.out).mono ?_; rintro e w2 ⟨rfl, rfl⟩)
  refine bodyPost_ret (results_none Try.results94 _ _ _) rfl ?_
  exact ⟨rfl, rfl⟩

end Go.Proofs.Ytbedkfgdhaajaab

namespace Go.Proofs.Ytbedkfgdhaajaab
open Go.RowKit

def smallC (C : Ctx) : Prop := ∀ k, k < 8 → (C.by_ k).length ≤ 576

/-- the eight objects, as they are read at once -/
theorem objs_row {W : World} {F : Nat → Prop} {p : Nat} {ad : Nat → Option Addr} {cp : Nat → Nat} {C : Ctx} (h : CtxAt W F p ad cp C) :
    ∃ cs : List Value, cs.length = 16 ∧ W.rangeAt p 0 cs ∧ ∀ k : Nat, k < 8 → ∀ w, (Instr.index 73 (.agg cs.toArray) (.int .i64 (k : Int))).run Try.prog w = .ok (.agg #[.int .i64 (C.wd k), .slice (ad k) (C.by_ k).length (cp k)]) w := by
  refine ⟨[.int .i64 (C.wd 0), .slice (ad 0) (C.by_ 0).length (cp 0), .int .i64 (C.wd 1), .slice (ad 1) (C.by_ 1).length (cp 1), .int .i64 (C.wd 2), .slice (ad 2) (C.by_ 2).length (cp 2), .int .i64 (C.wd 3), .slice (ad 3) (C.by_ 3).length (cp 3), .int .i64 (C.wd 4), .slice (ad 4) (C.by_ 4).length (cp 4), .int .i64 (C.wd 5), .slice (ad 5) (C.by_ 5).length (cp 5), .int .i64 (C.wd 6), .slice (ad 6) (C.by_ 6).length (cp 6), .int .i64 (C.wd 7), .slice (ad 7) (C.by_ 7).length (cp 7)], rfl, ?_, ?_⟩
  · intro j v hj
    rw [Nat.zero_add]
    match j, hj with
    | 0, hj => cases hj; exact h.wd 0 (by omega)
    | 1, hj => cases hj; exact h.sl 0 (by omega)
    | 2, hj => cases hj; exact h.wd 1 (by omega)
    | 3, hj => cases hj; exact h.sl 1 (by omega)
    | 4, hj => cases hj; exact h.wd 2 (by omega)
    | 5, hj => cases hj; exact h.sl 2 (by omega)
    | 6, hj => cases hj; exact h.wd 3 (by omega)
    | 7, hj => cases hj; exact h.sl 3 (by omega)
    | 8, hj => cases hj; exact h.wd 4 (by omega)
    | 9, hj => cases hj; exact h.sl 4 (by omega)
    | 10, hj => cases hj; exact h.wd 5 (by omega)
    | 11, hj => cases hj; exact h.sl 5 (by omega)
    | 12, hj => cases hj; exact h.wd 6 (by omega)
    | 13, hj => cases hj; exact h.sl 6 (by omega)
    | 14, hj => cases hj; exact h.wd 7 (by omega)
    | 15, hj => cases hj; exact h.sl 7 (by omega)
    | n + 16, hj => cases hj
  · intro k hk w
    rcases (by omega : k = 0 ∨ k = 1 ∨ k = 2 ∨ k = 3 ∨ k = 4 ∨ k = 5 ∨ k = 6 ∨ k = 7) with rfl | rfl | rfl | rfl | rfl | rfl | rfl | rfl <;> kernel_rfl

set_option maxHeartbeats 1000000 in
theorem pages_any (F M : Nat → Prop) (p : Nat) (C : Ctx) (w : World) (hC : Cx w F M p C) (hS : smallC C) : Calls Try.prog 84 #[.pointer (some ⟨p, 0, none⟩)] w fun e w' => e = .returned (.int .i64 (tot C.by_ 8)) ∧ Below w.heap.size w w' := by
  obtain ⟨ad, cp, hC, _⟩ := hC
  have HS : Hid (smallC C) := hS
  have hlt := hC.lt
  obtain ⟨cs, hl, hr, hix⟩ := objs_row hC
  have HR : Hid (w.rangeAt p 0 cs) := hr
  have HL : Hid (cs.length = 16) := hl
  have HX : Hid _ := hix
  clear hC hS hr hl hix
  go_enter Try.func84, Try.ntmps84
  go_wp2_with (refine wpList_load_mid rfl 73 (.tmp 8) rfl p 0 rfl cs _ HR.out Try.underlying73 rfl (by rw [HL.out]; kernel_rfl) ?_)
  have hix := HX.out
  go_loopw [3, 10] (fun t i wr => ∃ k : Nat, k ≤ 8 ∧ i = .int .i64 k ∧ t = .int .i64 (tot C.by_ k) ∧ Below w.heap.size w wr) (fun _ i _ => 8 - (intOf i).toNat)
  case atStart => exact ⟨0, by omega, rfl, rfl, Below.refl _ _⟩
  case round =>
    obtain ⟨k, hk, rfl, rfl, hB⟩ := hrel
    have BB : Hid (Below w.heap.size w wr) := hB
    have hz := hB.size
    clear hB
    by_cases hlt8 : k < 8
    · have hb := tot_bd (f := C.by_) (n := k) (fun j hj => HS.out j (by omega))
      have hs := HS.out k hlt8
      have hp : 0 ≤ pg ((C.by_ k).length : Int) ∧ pg ((C.by_ k).length : Int) ≤ 9 := by unfold pg; omega
      have hx := hix k hlt8
      obtain ⟨hb1, hb2⟩ := hb
      obtain ⟨hp1, hp2⟩ := hp
      clear hix
      go_wp2_with (go_at_call 101; refine (pagesOf_any _ _ (by omega) (by omega)).mono ?_; rintro e w2 ⟨rfl, rfl⟩)
      go_roundw
      case rel => exact ⟨k + 1, by omega, by go_num, rfl, BB.out.alloc hz _⟩
      case measure => simp [intOf]; omega
    · have e : k = 8 := by omega
      subst e
      clear hix
      go_wp2
      go_ret
      exact ⟨rfl, BB.out⟩
end Go.Proofs.Ytbedkfgdhaajaab

namespace Go.Proofs.Ytbedkfgdhaajaab
open Go.RowKit

set_option maxHeartbeats 1000000 in
theorem can_any (F M : Nat → Prop) (p : Nat) (C : Ctx) (h a b : Nat) (w : World) (hC : Cx w F M p C) (hS : smallC C) :
    Calls Try.prog 88 #[.pointer (some ⟨p, 0, none⟩), .int .i64 h, .int .i64 a, .int .i64 b] w fun e w' => e = .returned (.int .i64 (can C.by_ h a b)) ∧ Below w.heap.size w w' := by
  have HC : Hid (Cx w F M p C) := hC
  have HS : Hid (smallC C) := hS
  clear hC hS
  by_cases h8 : 8 ≤ h
  · have e : can C.by_ h a b = 2 := if_pos h8
    rw [e]
    clear e
    have h8' : (8 : Int) ≤ h := by omega
    go_enter Try.func88, Try.ntmps88
    go_wp2
    go_ret
    exact ⟨rfl, Below.refl _ _⟩
  · have h8' : ¬ (8 : Int) ≤ h := by omega
    by_cases ht : 0 < (C.by_ h).length
    · have e : can C.by_ h a b = 3 := by unfold can; rw [if_neg h8, if_pos ht]
      rw [e]
      clear e
      have hd : decide (0 < (C.by_ h).length) = true := decide_eq_true ht
      go_enter Try.func88, Try.ntmps88
      go_wp2_with (go_at_call 69; refine (has_in F M p C _ _ (by omega) HC.out).mono ?_; rintro e w2 ⟨rfl, rfl⟩)
      go_ret
      exact ⟨rfl, Below.refl _ _⟩
    · have hd : decide (0 < (C.by_ h).length) = false := decide_eq_false ht
      by_cases ha : side a = true
      · by_cases hb : side b = true
        · have hm := mul24 (side_bd ha) (side_bd hb)
          have ht8 := tot_bd (f := C.by_) (n := 8) HS.out
          have hpg : 0 ≤ pg (a * b : Int) ∧ pg (a * b : Int) ≤ 9 := by unfold pg; omega
          obtain ⟨m1, m2⟩ := hm
          obtain ⟨t1, t2⟩ := ht8
          obtain ⟨p1, p2⟩ := hpg
          by_cases hq : 12 < tot C.by_ 8 + pg (a * b : Int)
          · have e : can C.by_ h a b = 5 := by unfold can; rw [if_neg h8, if_neg ht, if_pos ⟨ha, hb⟩, if_pos hq]
            rw [e]
            clear e
            go_enter Try.func88, Try.ntmps88
            go_wp2_with (first | (go_at_call 69; refine (has_in F M p C _ _ (by omega) HC.out).mono ?_; rintro e w2 ⟨rfl, rfl⟩) | (go_at_call 107; refine (isSide_any _ _).mono ?_; rintro e w2 ⟨rfl, rfl⟩) | (go_at_call 84; refine (pages_any F M p C _ HC.out HS.out).mono ?_; rintro e w2 ⟨rfl, hb2⟩) | (go_at_call 101; refine (pagesOf_any _ _ (by omega) (by omega)).mono ?_; rintro e w3 ⟨rfl, rfl⟩))
            go_ret
            exact ⟨rfl, hb2⟩
          · have e : can C.by_ h a b = 0 := by unfold can; rw [if_neg h8, if_neg ht, if_pos ⟨ha, hb⟩, if_neg hq]
            rw [e]
            clear e
            go_enter Try.func88, Try.ntmps88
            go_wp2_with (first | (go_at_call 69; refine (has_in F M p C _ _ (by omega) HC.out).mono ?_; rintro e w2 ⟨rfl, rfl⟩) | (go_at_call 107; refine (isSide_any _ _).mono ?_; rintro e w2 ⟨rfl, rfl⟩) | (go_at_call 84; refine (pages_any F M p C _ HC.out HS.out).mono ?_; rintro e w2 ⟨rfl, hb2⟩) | (go_at_call 101; refine (pagesOf_any _ _ (by omega) (by omega)).mono ?_; rintro e w3 ⟨rfl, rfl⟩))
            go_ret
            exact ⟨rfl, hb2⟩
        · have e : can C.by_ h a b = 4 := by unfold can; rw [if_neg h8, if_neg ht, if_neg (fun g => hb g.2)]
          have hb' : side b = false := by simpa using hb
          rw [e]
          clear e hb
          go_enter Try.func88, Try.ntmps88
          go_wp2_with (first | (go_at_call 69; refine (has_in F M p C _ _ (by omega) HC.out).mono ?_; rintro e w2 ⟨rfl, rfl⟩) | (go_at_call 107; refine (isSide_any _ _).mono ?_; rintro e w2 ⟨rfl, rfl⟩))
          go_ret
          exact ⟨rfl, Below.refl _ _⟩
      · have e : can C.by_ h a b = 4 := by unfold can; rw [if_neg h8, if_neg ht, if_neg (fun g => ha g.1)]
        have ha' : side a = false := by simpa using ha
        rw [e]
        clear e ha
        go_enter Try.func88, Try.ntmps88
        go_wp2_with (first | (go_at_call 69; refine (has_in F M p C _ _ (by omega) HC.out).mono ?_; rintro e w2 ⟨rfl, rfl⟩) | (go_at_call 107; refine (isSide_any _ _).mono ?_; rintro e w2 ⟨rfl, rfl⟩))
        go_ret
        exact ⟨rfl, Below.refl _ _⟩

theorem info_byte : (Try.prog.info? 5).map (fun i => (i.zero, i.size, i.bytes)) = some (some (.int .u8 0), 1, 1) := by kernel_rfl

set_option maxHeartbeats 1000000 in
theorem create_ok (F M : Nat → Prop) (p : Nat) (C : Ctx) (h a b : Nat) (w : World) (hC : Cx w F M p C) (hS : smallC C) (hc : can C.by_ h a b = 0) :
    Calls Try.prog 91 #[.pointer (some ⟨p, 0, none⟩), .int .i64 h, .int .i64 a, .int .i64 b] w fun e w' => e = .returned (.tuple #[]) ∧ Goes F M w w' p { C with wd := updA C.wd h a, ht := updA C.ht h b, by_ := updA C.by_ h (zeros (a * b)) } := by
  have HC : Hid (Cx w F M p C) := hC
  have HS : Hid (smallC C) := hS
  obtain ⟨h8, _, ha, hb, _⟩ := can_ok hc
  have HK : Hid (can C.by_ h a b = 0) := hc
  have hc' : (can C.by_ h a b != 0) = false := by simpa using hc
  have hn : a * b ≤ 576 := Nat.le_trans (Nat.mul_le_mul ha.2 hb.2) (by omega)
  have hmk : ∀ w : World, (Instr.makeSlice 51 (.int .i64 ((a : Int) * (b : Int))) (.int .i64 ((a : Int) * (b : Int)))).run Try.prog w = .ok (.slice (some ⟨w.heap.size, 0, none⟩) (a * b) (a * b)) (w.alloc (.cells (madeCells #[.int .u8 0] (a * b)) 5)) := fun w => by
    have := run_make_row' (P := Try.prog) 51 5 (.int .u8 0) 1 Try.underlying51 info_byte rfl .i64 .i64 (a * b) (by omega) (by omega) w
    rw [Int.natCast_mul] at this
    exact this
  have m1 : (0 : Int) ≤ (a : Int) * b := by rw [← Int.natCast_mul]; omega
  have m2 : (a : Int) * b ≤ 576 := by rw [← Int.natCast_mul]; omega
  have h0 : (0 : Int) ≤ h := by omega
  have h1 : (h : Int) < 8 := by omega
  clear hC hS hc
  go_enter Try.func91, Try.ntmps91
  go_wp2_with (go_at_call 88; refine (can_any F M p C _ _ _ _ HC.out HS.out).mono ?_; rintro e w2 ⟨rfl, hb2⟩; obtain ⟨ad, cp, hA, hM⟩ := HC.out.below hb2; have HM : Hid (∀ b, M b → blk (ad 8) b) := hM; clear hM; have q0 := hA.wd h h8; have q2 := hA.sl h (by omega); have q3 := hA.lt; have q4 := hA.fz; rw [slot, if_pos h8] at q2; have HA : Hid _ := hA; have HB : Hid _ := hb2; clear hA hb2)
  go_region
  go_wp2
  go_end0
  refine ⟨rfl, Goes.of_below HB.out ?_⟩
  have g := Goes.putObj HA.out HM.out h8 ((Below.refl _ _).alloc (Nat.le_refl _) _) (bs_made w2 5 (a * b) (by unfold maxLen; omega)) (n := a * b) (by simp [zeros]) (fun b g => by obtain ⟨x, e, rfl⟩ := g; cases e; exact Nat.le_refl _) (a : Int) (b : Int)
  rw [World.setCell_alloc_past _ _ _ _ q3, World.setCell_alloc_past _ _ _ _ (by rw [sz_setCell]; exact q3)] at g
  exact g.drew

set_option maxHeartbeats 1000000 in
theorem drop_ok (F M : Nat → Prop) (p : Nat) (C : Ctx) (h : Nat) (w : World) (hC : Cx w F M p C) (h8 : h < 8) (hh : 0 < (C.by_ h).length) :
    Calls Try.prog 92 #[.pointer (some ⟨p, 0, none⟩), .int .i64 h] w fun e w' => e = .returned (.tuple #[]) ∧ Goes F M w w' p { C with wd := updA C.wd h 0, ht := updA C.ht h 0, by_ := updA C.by_ h [] } := by
  have HC : Hid (Cx w F M p C) := hC
  obtain ⟨ad, cp, hA, hM⟩ := hC
  have HM : Hid (∀ b, M b → blk (ad 8) b) := hM
  clear hM
  have q0 := hA.wd h h8
  have q2 := hA.sl h (by omega)
  have q3 := hA.lt
  have q4 := hA.fz
  rw [slot, if_pos h8] at q2
  have HA : Hid (CtxAt w F p ad cp C) := hA
  have hd : decide (0 < (C.by_ h).length) = true := decide_eq_true hh
  have h0 : (0 : Int) ≤ h := by omega
  have h1 : (h : Int) < 8 := by omega
  clear hA hh
  go_enter Try.func92, Try.ntmps92
  go_wp2_with (go_at_call 69; refine (has_in F M p C _ _ h8 HC.out).mono ?_; rintro e w2 ⟨rfl, rfl⟩)
  go_end0
  exact ⟨rfl, Goes.putObj HA.out HM.out h8 (Below.refl _ _) (BS.bare _) (n := 0) rfl (fun b g => (blk_none g).elim) 0 0⟩

end Go.Proofs.Ytbedkfgdhaajaab
