/- Walks: what the statements of package tenantskeep call: pick, pages, text, begun, asked. -/
import Derived.Test.YtbedkfgdhaajaabCalls
namespace Go.Proofs.Ytbedkfgdhaajaab
open Go.RowKit

/-- which of n things the raw number c speaks of -/
def pck (c n : Int) : Int := if c < 0 then (-(c + 1)) % n else c % n

theorem pck_bd {c n : Int} (h : 0 < n) : 0 ≤ pck c n ∧ pck c n < n := by
  unfold pck
  split
  · exact ⟨Int.emod_nonneg _ (by omega), Int.emod_lt_of_pos _ h⟩
  · exact ⟨Int.emod_nonneg _ (by omega), Int.emod_lt_of_pos _ h⟩

set_option maxHeartbeats 400000 in
theorem kpick_any (c n : Int) (w : World) (h1 : -9223372036854775808 ≤ c) (h2 : c ≤ 9223372036854775807) (h3 : 0 < n) (h4 : n ≤ 1099511627776) :
    Calls Try.prog 11 #[.int .i64 c, .int .i64 n] w fun e w' => e = .returned (.int .i64 (pck c n)) ∧ w' = w := by
  by_cases h : c < 0
  · have e : pck c n = (-(c + 1)) % n := by unfold pck; rw [if_pos h]
    rw [e]
    clear e
    go_enter Try.func11, Try.ntmps11
    go_wp2
    go_ret
    exact ⟨retI (by rw [← Int.neg_tmod, Int.tmod_eq_emod_of_nonneg (by omega)]), rfl⟩
  · have e : pck c n = c % n := by unfold pck; rw [if_neg h]
    rw [e]
    clear e
    go_enter Try.func11, Try.ntmps11
    go_wp2
    go_ret
    exact ⟨rfl, rfl⟩

/-- numbers as bytes -/
def byts (xs : List Int) : List UInt8 := xs.map fun x => UInt8.ofNat x.toNat

theorem byts_step (xs : List Int) (k : Nat) (h : k < xs.length) : (byts (xs.take k) ++ zeros (xs.length - k)).set k (UInt8.ofNat (xs[k]).toNat) = byts (xs.take (k + 1)) ++ zeros (xs.length - (k + 1)) := by
  have e : (byts (xs.take k)).length = k := by simp [byts]; omega
  rw [List.set_append_right _ _ (by omega), e, Nat.sub_self]
  have e2 : zeros (xs.length - k) = 0 :: zeros (xs.length - (k + 1)) := by
    unfold zeros
    rw [show xs.length - k = (xs.length - (k + 1)) + 1 by omega, List.replicate_succ]
  rw [e2, List.set_cons_zero, List.take_succ_eq_append_getElem h]
  simp only [byts, List.map_append, List.map_cons, List.map_nil, List.append_assoc, List.singleton_append]

set_option maxHeartbeats 1000000 in
theorem text_any (b cap : Nat) (xs : List Int) (w : World) (hb : b < w.heap.size) (hl : xs.length ≤ 1000) (hc : ∀ j (h : j < xs.length), w.cell? ⟨b, j, none⟩ = some (.int .i64 xs[j])) (hx : ∀ j (h : j < xs.length), 0 ≤ xs[j] ∧ xs[j] ≤ 255) :
    Calls Try.prog 8 #[.slice (some ⟨b, 0, none⟩) xs.length cap] w fun e w' => e = .returned (.string (str (byts xs))) ∧ Below w.heap.size w w' := by
  have HC : Hid (∀ j (h : j < xs.length), w.cell? ⟨b, j, none⟩ = some (.int .i64 xs[j])) := hc
  have HX : Hid (∀ j (h : j < xs.length), 0 ≤ xs[j] ∧ xs[j] ≤ 255) := hx
  have hmk : ∀ w : World, (Instr.makeSlice 51 (.int .i64 (xs.length : Int)) (.int .i64 (xs.length : Int))).run Try.prog w = .ok (.slice (some ⟨w.heap.size, 0, none⟩) xs.length xs.length) (w.alloc (.cells (madeCells #[.int .u8 0] xs.length) 5)) := fun w =>
    run_make_row' (P := Try.prog) 51 5 (.int .u8 0) 1 Try.underlying51 info_byte rfl .i64 .i64 xs.length (by omega) (by omega) w
  clear hc hx
  go_enter Try.func8, Try.ntmps8
  go_wp2
  go_loopw [4] (fun i wr => ∃ k : Nat, k ≤ xs.length ∧ i = .int .i64 k ∧ Below w.heap.size w wr ∧ BS wr (some ⟨w.heap.size, 0, none⟩) xs.length (byts (xs.take k) ++ zeros (xs.length - k))) (fun i _ => xs.length - (intOf i).toNat)
  case atStart => exact ⟨0, by omega, rfl, (Below.refl _ _).alloc (Nat.le_refl _) _, by simpa [byts] using bs_made w 5 xs.length (by unfold maxLen; omega)⟩
  case round =>
    obtain ⟨k, hk, rfl, hB, hS⟩ := hrel
    have BB : Hid (Below w.heap.size w wr) := hB
    have SS : Hid (BS wr (some ⟨w.heap.size, 0, none⟩) xs.length (byts (xs.take k) ++ zeros (xs.length - k))) := hS
    by_cases hlt : k < xs.length
    · have c1 := (hB.cell (p := ⟨b, k, none⟩) hb).trans (HC.out k hlt)
      obtain ⟨x0, x1⟩ := HX.out k hlt
      have r := hS.hro _ rfl k hlt
      simp only [Nat.zero_add] at r
      obtain ⟨v, hv⟩ := Option.isSome_iff_exists.1 r.1
      have r2 := r.2
      have hz := (hS.hpl _ rfl).2
      simp only at hz
      have k0 : (0 : Int) ≤ k := by omega
      have k1 : (k : Int) < xs.length := by omega
      obtain ⟨X, hX⟩ : ∃ X, xs[k] = X := ⟨_, rfl⟩
      have HXX : Hid (xs[k] = X) := hX
      rw [hX] at c1 x0 x1
      clear hB hS r hX
      go_wp2
      go_roundw
      case rel =>
        refine ⟨k + 1, by omega, by go_num, BB.out.setCell (Nat.le_refl _) _, ?_⟩
        rw [← byts_step xs k hlt]
        have := SS.out.set (j := k) (by simp [byts, zeros]; omega) (UInt8.ofNat (xs[k]).toNat) (v := X) (by rw [HXX.out]; simp; omega)
        rw [Nat.zero_add] at this
        exact this
      case measure => simp [intOf]; omega
    · have e : k = xs.length := by omega
      have k1 : ¬ (k : Int) < xs.length := by omega
      have hcv := run_string_bs (P := Try.prog) hS 51 9 5 Try.underlying51 Try.underlying5 Try.underlying9
      have e1 : byts (xs.take k) ++ zeros (xs.length - k) = byts xs := by rw [e, List.take_length, Nat.sub_self]; simp [zeros]
      rw [e1] at hcv
      have e2 : (byts xs).length = xs.length := by simp [byts]
      rw [e2] at hcv
      clear hB hS e1 e2 e
      go_wp2
      go_ret
      exact ⟨rfl, BB.out⟩

end Go.Proofs.Ytbedkfgdhaajaab
