/- Walks: begun and asked (package tenantskeep). -/
import Derived.Test.YtbedkfgdhaajaabKeep
namespace Go.Proofs.Ytbedkfgdhaajaab
open Go.RowKit

/-- a server whose context 0 alone is open -/
def one (C : Gst) : Nat → Option Gst := updA (fun _ => none) 0 (some C)

theorem tup_pb {a b : Option Addr} {c d : Bool} (h : a = b) (k : c = d) : Ending.returned (.tuple #[.pointer a, .bool c]) = .returned (.tuple #[.pointer b, .bool d]) := by rw [h, k]

set_option maxHeartbeats 400000 in
theorem begun_any (w : World) :
    Calls Try.prog 7 #[] w fun e w' => ∃ g G, e = .returned (.tuple #[.pointer (some ⟨g, 0, none⟩), .bool true]) ∧ Below w.heap.size w w' ∧ Sv w' G g (one gNew) ∧ ∀ b, G b → w.heap.size ≤ b := by
  go_enter Try.func7, Try.ntmps7
  go_wp2_with (first | (go_at_call 23; refine (new_any _).mono ?_; rintro e w1 ⟨rfl, hb1, hs1⟩; have HB1 : Hid (Below w.heap.size w w1) := hb1; have HS1 : Hid (Sv w1 (fun b => b = w.heap.size) w.heap.size (fun _ => none)) := hs1; clear hb1 hs1) | (go_at_call 15; refine (open_ok _ _ _ 0 _ HS1.out (by omega) (fun j hj => by omega) rfl).mono ?_; rintro e w2 ⟨rfl, hg2⟩; have HG2 : Hid (SGoes (fun b => b = w.heap.size) w1 w2 w.heap.size (one gNew)) := hg2; clear hg2))
  go_ret2
  obtain ⟨ho, G, hs, hf⟩ := HG2.out
  have hz := HB1.out.size
  refine ⟨w.heap.size, G, rfl, HB1.out.trans (ho.below hz (fun x hx => by rw [hx]; exact Nat.le_refl _)), hs, fun b hb => ?_⟩
  rcases hf b hb with q | q
  · rw [q]; exact Nat.le_refl _
  · omega

theorem updA3 {α : Type} (f : Nat → α) (k : Nat) (a b c : α) : updA (updA (updA f k a) k b) k c = updA f k c := by rw [updA_updA, updA_updA]

/-- what a context is once all of s has been sent, all fuel given, the replies taken; what it cost; what was replied -/
def aft (g : Gst) (s : List UInt8) : Gst := gtake (pwork 1025 (gsend g s) 1048576).1
def aftC (g : Gst) (s : List UInt8) : Int := 1048576 - (pwork 1025 (gsend g s) 1048576).2
def aftR (g : Gst) (s : List UInt8) : List UInt8 := (pwork 1025 (gsend g s) 1048576).1.out

set_option maxHeartbeats 1000000 in
theorem asked_any (G : Nat → Prop) (g : Nat) (S : Nat → Option Gst) (n : Nat) (x : Int) (C : Gst) (s want : ByteArray) (cost : Int) (w : World) (hS : Sv w G g S) (hx : x = n) (hn : n < 8) (hC : S n = some C) (h : C.wait.length + s.size ≤ 1024)
    (hw : str (aftR C s.data.toList) = want) (hc : aftC C s.data.toList = cost) :
    Calls Try.prog 9 #[.pointer (some ⟨g, 0, none⟩), .int .i64 x, .string s, .string want, .int .i64 cost] w fun e w' => e = .returned (.bool true) ∧ SGoes G w w' g (updA S n (some (aft C s.data.toList))) := by
  subst hx
  have HS : Hid (Sv w G g S) := hS
  have HC : Hid (S n = some C) := hC
  have hl : s.data.toList.length = s.size := rfl
  have h18 : (gsend C s.data.toList).wait.length < 1025 := by show (C.wait ++ s.data.toList).length < 1025; rw [List.length_append]; omega
  have H18 : Hid ((gsend C s.data.toList).wait.length < 1025) := h18
  have HW : Hid (str ((pwork 1025 (gsend C s.data.toList) 1048576).1.out) = want) := hw
  have HK : Hid (1048576 - (pwork 1025 (gsend C s.data.toList) 1048576).2 = cost) := hc
  clear hS hC h18 hl hw hc
  go_enter Try.func9, Try.ntmps9
  go_wp2_with (first | (go_at_call 10; refine (send_ok G g S n C s _ HS.out hn HC.out h).mono ?_; rintro e w1 ⟨rfl, hg1⟩; obtain ⟨ho1, G1, hs1, hf1⟩ := hg1; have O1 : Hid (Only G w w1) := ho1; have S1 : Hid (Sv w1 G1 g (updA S n (some (gsend C s.data.toList)))) := hs1; have F1 : Hid (∀ b, G1 b → G b ∨ w.heap.size ≤ b) := hf1; clear ho1 hs1 hf1) | (go_at_call 12; refine (run_ok G1 g _ n (gsend C s.data.toList) _ _ S1.out hn (updA_same _ _ _) (by omega) (by omega) 1025 H18.out).mono ?_; rw [HK.out]; rintro e w2 ⟨rfl, hg2⟩; obtain ⟨ho2, G2, hs2, hf2⟩ := hg2; have O2 : Hid (Only G1 w1 w2) := ho2; have S2 : Hid (Sv w2 G2 g (updA (updA S n (some (gsend C s.data.toList))) n (some (pwork 1025 (gsend C s.data.toList) 1048576).1))) := hs2; have F2 : Hid (∀ b, G2 b → G1 b ∨ w1.heap.size ≤ b) := hf2; clear ho2 hs2 hf2) | (go_at_call 13; refine (replies_ok G2 g _ n (pwork 1025 (gsend C s.data.toList) 1048576).1 _ S2.out hn (updA_same _ _ _)).mono ?_; rw [HW.out]; rintro e w3 ⟨rfl, hg3⟩; have G3 : Hid _ := hg3; clear hg3))
  go_ret
  refine ⟨rfl, ?_⟩
  have := SGoes.then O1.out F1.out (SGoes.then O2.out F2.out G3.out)
  rw [updA3] at this
  exact this

end Go.Proofs.Ytbedkfgdhaajaab
