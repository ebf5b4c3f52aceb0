/- Walks: emptied, nought (package tenantskeep). -/
import Derived.Test.YtbedkfgdhaajaabBook
import Derived.Sort.AtCall
namespace Go.Proofs.Ytbedkfgdhaajaab
open Go.RowKit

theorem str_app (a b : List UInt8) : str a ++ str b = str (a ++ b) := by
  unfold str
  apply ByteArray.ext
  simp [ByteArray.data_append]

theorem updA_self {α : Type} (f : Nat → α) (k : Nat) (v : α) (h : f k = v) : updA f k v = f := by
  funext j; unfold updA; split
  · rename_i e; rw [e, h]
  · rfl

/-- k times: all fuel is given, the replies are taken: what the context is then, what it has replied, what it has spent -/
def emp : Nat → Gst → Gst × List UInt8 × Int
  | 0, g => (g, [], 0)
  | k + 1, g => (gtake (pwork 1025 (emp k g).1 1048576).1, (emp k g).2.1 ++ (pwork 1025 (emp k g).1 1048576).1.out, (emp k g).2.2 + (1048576 - (pwork 1025 (emp k g).1 1048576).2))

theorem emp_ok {g : Gst} (h : okP g) (k : Nat) : okP (emp k g).1 ∧ 0 ≤ (emp k g).2.2 ∧ (emp k g).2.2 ≤ k * 1048576 ∧ (emp k g).2.1.length ≤ k * 1279 := by
  induction k with
  | zero => exact ⟨h, by simp [emp], by simp [emp], by simp [emp]⟩
  | succ k ih =>
    obtain ⟨i1, i2, i3, i4⟩ := ih
    have hw := i1.work (n := 1025) (f := 1048576) (by omega)
    have ho := hw.1.ot
    refine ⟨hw.1.take, ?_, ?_, ?_⟩
    · show 0 ≤ (emp k g).2.2 + (1048576 - (pwork 1025 (emp k g).1 1048576).2); omega
    · show (emp k g).2.2 + (1048576 - (pwork 1025 (emp k g).1 1048576).2) ≤ ((k + 1 : Nat) : Int) * 1048576; omega
    · show ((emp k g).2.1 ++ (pwork 1025 (emp k g).1 1048576).1.out).length ≤ (k + 1) * 1279
      rw [List.length_append]; omega

theorem tup_sib {a b : ByteArray} {c d : Int} {x y : Bool} (h : a = b) (k : c = d) (l : x = y) : Ending.returned (.tuple #[.string a, .int .i64 c, .bool x]) = .returned (.tuple #[.string b, .int .i64 d, .bool y]) := by rw [h, k, l]

set_option maxHeartbeats 2000000 in
theorem emptied_any (G : Nat → Prop) (g : Nat) (S : Nat → Option Gst) (n : Nat) (x : Int) (C : Gst) (w : World) (hS : Sv w G g S) (hx : x = n) (hn : n < 8) (hC : S n = some C) :
    Calls Try.prog 14 #[.pointer (some ⟨g, 0, none⟩), .int .i64 x] w fun e w' => e = .returned (.tuple #[.string (str (emp 70 C).2.1), .int .i64 (emp 70 C).2.2, .bool true]) ∧ SGoes G w w' g (updA S n (some (emp 70 C).1)) := by
  subst hx
  have HS : Hid (Sv w G g S) := hS
  have HC : Hid (S n = some C) := hC
  have HP : Hid (okP C) := by obtain ⟨pt, F, hA⟩ := hS; exact (hA.cx n C hn hC).ok
  clear hS hC
  go_enter Try.func14, Try.ntmps14
  go_wp2
  go_loopw [7, 8, 9, 10, 11, 12, 13] (fun o s i _ _ _ _ wr => ∃ k : Nat, k ≤ 70 ∧ i = .int .i64 k ∧ o = .string (str (emp k C).2.1) ∧ s = .int .i64 (emp k C).2.2 ∧ SGoes G w wr g (updA S n (some (emp k C).1))) (fun _ _ i _ _ _ _ _ => 70 - (intOf i).toNat)
  case atStart => exact ⟨0, by omega, rfl, rfl, rfl, by rw [show (emp 0 C).1 = C from rfl, updA_self _ _ _ HC.out]; exact SGoes.stay HS.out (Below.refl _ _)⟩
  case round =>
    obtain ⟨k, hk, rfl, rfl, rfl, hG⟩ := hrel
    by_cases hlt : k < 70
    · obtain ⟨hO, G1, hS1, hF⟩ := hG
      have HO : Hid (Only G w wr) := hO
      have HS1 : Hid (Sv wr G1 g (updA S n (some (emp k C).1))) := hS1
      have HF : Hid (∀ b, G1 b → G b ∨ w.heap.size ≤ b) := hF
      obtain ⟨e1, e2, e3, e4⟩ := emp_ok HP.out k
      have hwt := e1.wt
      have hw := e1.work (n := 1025) (f := 1048576) (by omega)
      obtain ⟨f1, f2, f3⟩ := hw
      obtain ⟨A, hA⟩ : ∃ A, (emp k C).2.2 = A := ⟨_, rfl⟩
      obtain ⟨L, hL⟩ : ∃ L, 1048576 - (pwork 1025 (emp k C).1 1048576).2 = L := ⟨_, rfl⟩
      have HAe : Hid ((emp k C).2.2 = A) := hA
      have HL : Hid (1048576 - (pwork 1025 (emp k C).1 1048576).2 = L) := hL
      have l0 : 0 ≤ L := by omega
      have l1 : ¬ 1048576 < L := by omega
      have l2 : ¬ L < 0 := by omega
      rw [hA] at e2 e3
      rw [hA]
      have a1 : A ≤ 73400320 := by omega
      have HWT : Hid ((emp k C).1.wait.length < 1025) := (by omega : (emp k C).1.wait.length < 1025)
      have hk' : (k : Int) < 70 := by omega
      obtain ⟨sa, hsa⟩ : ∃ sa, str (emp k C).2.1 = sa := ⟨_, rfl⟩
      obtain ⟨sb, hsb⟩ : ∃ sb, str (pwork 1025 (emp k C).1 1048576).1.out = sb := ⟨_, rfl⟩
      have HSA : Hid (str (emp k C).2.1 = sa) := hsa
      have HSB : Hid (str (pwork 1025 (emp k C).1 1048576).1.out = sb) := hsb
      have z1 : sa.size ≤ 89530 := by rw [← hsa, str_size]; omega
      have z2 : sb.size ≤ 1279 := by rw [← hsb, str_size]; exact f1.ot
      rw [hsa]
      clear hsa hsb e4
      clear hO hS1 hF e1 hwt f1 f2 f3 hA hL e3
      go_wp2_with (first | (go_at_call 12; refine (run_ok G1 g _ n (emp k C).1 _ _ HS1.out hn (updA_same _ _ _) (by omega) (by omega) 1025 HWT.out).mono ?_; rw [HL.out]; rintro e w2 ⟨rfl, hg2⟩; obtain ⟨ho2, G2, hs2, hf2⟩ := hg2; have O2 : Hid (Only G1 wr w2) := ho2; have S2 : Hid (Sv w2 G2 g (updA (updA S n (some (emp k C).1)) n (some (pwork 1025 (emp k C).1 1048576).1))) := hs2; have F2 : Hid (∀ b, G2 b → G1 b ∨ wr.heap.size ≤ b) := hf2; clear ho2 hs2 hf2) | (go_at_call 13; refine (replies_ok G2 g _ n (pwork 1025 (emp k C).1 1048576).1 _ S2.out hn (updA_same _ _ _)).mono ?_; rw [HSB.out]; rintro e w3 ⟨rfl, hg3⟩; have G3 : Hid _ := hg3; clear hg3))
      go_roundw
      case rel =>
        refine ⟨k + 1, by omega, by go_num, by rw [← HSA.out, ← HSB.out, str_app]; rfl, ?_, ?_⟩
        · show _ = Value.int .i64 ((emp k C).2.2 + (1048576 - (pwork 1025 (emp k C).1 1048576).2))
          rw [HAe.out, HL.out]
        · have := SGoes.then HO.out HF.out (SGoes.then O2.out F2.out G3.out)
          rw [updA3] at this
          exact this
      case measure => simp [intOf]; omega
    · have e : k = 70 := by omega
      subst e
      have HG : Hid (SGoes G w wr g (updA S n (some (emp 70 C).1))) := hG
      clear hG
      go_wp2
      refine bodyPost_ret (v := .tuple #[.string (str (emp 70 C).2.1), .int .i64 (emp 70 C).2.2, .bool true]) (by simp [results, Try.results14, go_sem]) rfl ⟨rfl, HG.out⟩

end Go.Proofs.Ytbedkfgdhaajaab
