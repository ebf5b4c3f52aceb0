/- Walks: nought (package tenantskeep). -/
import Derived.Test.YtbedkfgdhaajaaaCmds
import Derived.Test.YtbedkfgdhaajaaaEmpty
namespace Go.Proofs.Ytbedkfgdhaajaaa
open Go.RowKit

set_option maxHeartbeats 2000000 in
theorem nought_any (G : Nat → Prop) (g : Nat) (R : Rm) (x n : Int) (N : Nat) (w : World) (hS : Sv w G g (one (gI R))) (hR : okR R) (hx : x = 0) (hn : n = N) (h0 : 0 < N) (hN : N ≤ 576) (hz : R.bs 0 = zeros N) :
    Calls Try.prog 34 #[.pointer (some ⟨g, 0, none⟩), .int .i64 x, .int .i64 n] w fun e w' => e = .returned (.bool true) ∧ SGoes G w w' g (one (gI R)) := by
  have HS : Hid (Sv w G g (one (gI R))) := hS
  have HR : Hid (okR R) := hR
  have HZ : Hid (R.bs 0 = zeros N) := hz
  have hmk : ∀ w : World, (Instr.makeSlice 61 (.int .i64 201) (.int .i64 201)).run Try.prog w = .ok (.slice (some ⟨w.heap.size, 0, none⟩) 201 201) (w.alloc (.cells (madeCells #[.int .u8 0] 201) 5)) := fun w =>
    run_make_row' (P := Try.prog) 61 5 (.int .u8 0) 1 Try.underlying61 info_byte rfl .i64 .i64 201 (by omega) (by omega) w
  have hcv : ∀ w : World, (convert 61 9 (.slice (some ⟨w.heap.size, 0, none⟩) 201 201)).run Try.prog (w.alloc (.cells (madeCells #[.int .u8 0] 201) 5)) = .ok (.string (str (zeros 201))) (w.alloc (.cells (madeCells #[.int .u8 0] 201) 5)) := fun w => by
    have := run_string_bs (P := Try.prog) (bs_made w 5 201 (by unfold maxLen; omega)) 61 9 5 Try.underlying61 Try.underlying5 Try.underlying9
    rw [show (zeros 201).length = 201 from List.length_replicate] at this
    exact this
  obtain ⟨zv, hzv⟩ : ∃ zv, str (zeros 201) = zv := ⟨_, rfl⟩
  have HV : Hid (str (zeros 201) = zv) := hzv
  rw [hzv] at hcv
  subst hx hn
  clear hS hR hz hzv
  go_enter Try.func34, Try.ntmps34
  go_wp2
  go_loopw [8, 9] (fun i _ wr => ∃ k : Nat, k ≤ 576 ∧ i = .int .i64 ((200 * k : Nat) : Int) ∧ SGoes G w wr g (one (gI R))) (fun i _ _ => 2000 - (intOf i).toNat)
  case atStart => exact ⟨0, by omega, rfl, SGoes.stay HS.out ((Below.refl _ _).alloc (Nat.le_refl _) _)⟩
  case round =>
    obtain ⟨k, hk, rfl, hG⟩ := hrel
    obtain ⟨A, hA⟩ : ∃ A : Nat, 200 * k = A := ⟨_, rfl⟩
    rw [hA]
    by_cases hlt : A < N
    · have a1 : (A : Int) < N := by omega
      obtain ⟨hO, G1, hS1, hF⟩ := hG
      have HO : Hid (Only G w wr) := hO
      have HS1 : Hid (Sv wr G1 g (one (gI R))) := hS1
      have HF : Hid (∀ b, G1 b → G b ∨ w.heap.size ≤ b) := hF
      have HA : Hid (200 * k = A) := hA
      have hk3 : k ≤ 2 := by omega
      have HK3 : Hid (k ≤ 2) := hk3
      clear hO hS1 hF hA hk hk3
      go_wp2_with (first | (go_at_call 32; refine (text5 _ _ _ _ _ _ _ _ rfl ⟨by omega, by omega⟩ ⟨by omega, by omega⟩ ⟨by omega, by omega⟩ ⟨by omega, by omega⟩ ⟨by omega, by omega⟩).mono ?_; rintro e w1 ⟨rfl, hb1⟩; have B1 : Hid (Below wr.heap.size wr w1) := hb1; clear hb1) | (go_at_call 31; refine (asked_read G1 g _ R _ _ _ _ _ 0 200 _ _ _ (HS1.out.below B1.out) HR.out (by omega) rfl (by omega) (by omega) (by omega) ⟨by omega, by omega⟩ ⟨by omega, by omega⟩ (by omega) (by rw [HZ.out]; simp [zeros]; omega) (by rw [HZ.out, rdb_zeros, ← HV.out]; rfl) (by omega)).mono ?_; rintro e w2 ⟨rfl, hg2⟩; have G2 : Hid (SGoes G1 w1 w2 g (one (gI R))) := hg2; clear hg2))
      go_roundw
      case rel =>
        refine ⟨k + 1, by have := HK3.out; omega, by have := HA.out; go_num, ?_⟩
        obtain ⟨q1, q2, q3, q4⟩ := G2.out
        refine SGoes.then HO.out HF.out ⟨(Only.of_below B1.out).trans q1 (fun b q => .inl q), q2, q3, fun b q => (q4 b q).imp id (fun r => by have := B1.out.size; omega)⟩
      case measure => simp [intOf]; omega
    · have a1 : ¬ (A : Int) < N := by omega
      have HG : Hid (SGoes G w wr g (one (gI R))) := hG
      clear hG hA
      go_wp2
      go_ret
      exact ⟨rfl, HG.out⟩

end Go.Proofs.Ytbedkfgdhaajaaa
