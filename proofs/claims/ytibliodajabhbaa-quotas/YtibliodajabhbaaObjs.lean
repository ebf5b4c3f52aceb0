/- Walks: the objects of a context (P10). -/
import Derived.Test.YtibliodajabhbaaProg
import Derived.Test.YtibliodajabhbaaCtx
namespace Go.Proofs.Ytibliodajabhbaa
open Go.RowKit
theorem retI {k : IntKind} {a b : Int} (h : a = b) : Ending.returned (.int k a) = .returned (.int k b) := by rw [h]
def pg (n : Int) : Int := (n + 63) / 64
def tot (f : Nat → List UInt8) : Nat → Int
  | 0 => 0
  | k + 1 => tot f k + pg (f k).length

set_option maxHeartbeats 400000 in
theorem pagesOf_any (n : Int) (w : World) (h0 : 0 ≤ n) (h1 : n ≤ 9000000000000000000) : Calls Try.prog 75 #[.int .i64 n] w fun e w' => e = .returned (.int .i64 (pg n)) ∧ w' = w := by
  go_enter Try.func75, Try.ntmps75
  go_wp2
  go_ret
  exact ⟨retI (by unfold pg; omega), rfl⟩

def side (a : Int) : Bool := decide (1 ≤ a ∧ a ≤ 24)
set_option maxHeartbeats 400000 in
theorem isSide_any (n : Int) (w : World) : Calls Try.prog 103 #[.int .i64 n] w fun e w' => e = .returned (.bool (side n)) ∧ w' = w := by
  by_cases h : 1 ≤ n
  · by_cases h2 : n ≤ 24
    · have e : side n = true := decide_eq_true ⟨h, h2⟩
      rw [e]
      clear e
      go_enter Try.func103, Try.ntmps103
      go_wp2
      go_ret
      exact ⟨rfl, rfl⟩
    · have e : side n = false := decide_eq_false (by omega)
      rw [e]
      clear e
      go_enter Try.func103, Try.ntmps103
      go_wp2
      go_ret
      exact ⟨rfl, rfl⟩
  · have e : side n = false := decide_eq_false (by omega)
    rw [e]
    clear e
    go_enter Try.func103, Try.ntmps103
    go_wp2
    go_ret
    exact ⟨rfl, rfl⟩

set_option maxHeartbeats 400000 in
theorem has_out (p : Nat) (n : Int) (w : World) (h : n < 0 ∨ 8 ≤ n) : Calls Try.prog 102 #[.pointer (some ⟨p, 0, none⟩), .int .i64 n] w fun e w' => e = .returned (.bool false) ∧ w' = w := by
  rcases h with h | h
  · go_enter Try.func102, Try.ntmps102
    go_wp2
    go_ret
    exact ⟨rfl, rfl⟩
  · have h' : ¬ n < 0 := by omega
    go_enter Try.func102, Try.ntmps102
    go_wp2
    go_ret
    exact ⟨rfl, rfl⟩

theorem has_in (F : Nat → Prop) (p : Nat) (C : Ctx) (n : Nat) (w : World) (h : n < 8) (hC : Cx w F p C) : Calls Try.prog 102 #[.pointer (some ⟨p, 0, none⟩), .int .i64 n] w fun e w' => e = .returned (.bool (decide (0 < (C.by_ n).length))) ∧ w' = w := by
  obtain ⟨ad, cp, hC⟩ := hC
  have hs := hC.sl n (by omega)
  have e : slot n = n * 3 + 2 := by unfold slot; rw [if_pos h]
  rw [e] at hs
  have hlt := hC.lt
  clear hC e
  have n0 : (0 : Int) ≤ n := by omega
  have n8 : (n : Int) < 8 := by omega
  go_enter Try.func102, Try.ntmps102
  go_wp2
  go_ret
  exact ⟨rfl, rfl⟩

end Go.Proofs.Ytibliodajabhbaa
