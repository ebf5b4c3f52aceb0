/- A server in a statement of package tenantskeep, all of it made since. -/
import Derived.Test.YtbedkfgdhaajaabCmds
import Derived.Test.YtbedkfgdhaajaabEmpty
namespace Go.Proofs.Ytbedkfgdhaajaab
open Go.RowKit

theorem okR_new : okR gNew.rm := ⟨fun k _ => by simp [gNew], fun k _ => by simp [gNew], fun k _ => by simp [gNew], fun k _ => by simp [gNew], fun k _ q => (by cases q), fun k _ => by simp [gNew]⟩

theorem tot_new : tot gNew.rm.bs 8 = 0 := by decide

theorem pck24 (c : Int) : 0 ≤ pck c 24 ∧ pck c 24 ≤ 23 := by have := pck_bd (c := c) (n := 24) (by omega); omega

/-- what holds once the first object has been made -/
theorem can_first {A B : Nat} (hA : 1 ≤ A ∧ A ≤ 24) (hB : 1 ≤ B ∧ B ≤ 24) (h : Nat) (h8 : h < 8) : can gNew.rm.bs h A B = 0 := by
  have hm := mul24 (a := (A : Int)) (b := (B : Int)) (by omega) (by omega)
  unfold can
  rw [if_neg (by omega), if_neg (by simp [gNew]), if_pos ⟨decide_eq_true (by omega), decide_eq_true (by omega)⟩, if_neg]
  rw [tot_new]
  unfold pg
  omega

theorem one_none (a : Gst) : updA (one a) 0 none = fun _ => none := by
  unfold one; rw [updA_updA]; exact updA_self _ _ _ rfl

theorem send_pos (G : Nat → Prop) (g : Nat) (x : Int) (s : ByteArray) (w : World) (hS : Sv w G g (one gNew)) (hx : x = 0) (h : s.size ≤ 1024) :
    Calls Try.prog 10 #[.pointer (some ⟨g, 0, none⟩), .int .i64 x, .string s] w fun e w' => e = .returned (.int .i64 0) ∧ ∃ C, SGoes G w w' g (one C) := by
  subst hx
  refine (send_ok G g (one gNew) 0 gNew s w hS (by omega) rfl (by show ([] : List UInt8).length + s.size ≤ 1024; simp; omega)).mono ?_
  rintro e w' ⟨h1, h2⟩
  rw [one_one] at h2
  exact ⟨h1, _, h2⟩
theorem send_neg (G : Nat → Prop) (g : Nat) (x : Int) (s : ByteArray) (w : World) (hS : Sv w G g (one gNew)) (hx : x = 0) (h : 1024 < s.size) :
    Calls Try.prog 10 #[.pointer (some ⟨g, 0, none⟩), .int .i64 x, .string s] w fun e w' => e = .returned (.int .i64 12) ∧ ∃ C, SGoes G w w' g (one C) := by
  subst hx
  refine (send_long G g (one gNew) 0 gNew s w hS (by omega) rfl (by show 1024 < ([] : List UInt8).length + s.size; simp; omega)).mono ?_
  rintro e w' ⟨h1, h2⟩
  subst h2
  exact ⟨h1, _, SGoes.stay hS (Below.refl _ _)⟩
theorem emptied_pos (G : Nat → Prop) (g : Nat) (x : Int) (C : Gst) (w : World) (hS : Sv w G g (one C)) (hx : x = 0) :
    Calls Try.prog 14 #[.pointer (some ⟨g, 0, none⟩), .int .i64 x] w fun e w' => ∃ s n, e = .returned (.tuple #[.string s, .int .i64 n, .bool true]) ∧ ∃ C', SGoes G w w' g (one C') := by
  refine (emptied_any G g (one C) 0 x C w hS (by omega) (by omega) rfl).mono ?_
  rintro e w' ⟨h1, h2⟩
  rw [one_one] at h2
  exact ⟨_, _, h1, _, h2⟩
theorem close_pos (G : Nat → Prop) (g : Nat) (x : Int) (C : Gst) (w : World) (hS : Sv w G g (one C)) (hx : x = 0) :
    Calls Try.prog 28 #[.pointer (some ⟨g, 0, none⟩), .int .i64 x] w fun e w' => e = .returned (.int .i64 0) ∧ SGoes G w w' g (fun _ => none) := by
  subst hx
  refine (close_ok G g (one C) 0 C w hS (by omega) rfl).mono ?_
  rintro e w' ⟨h1, h2⟩
  rw [one_none] at h2
  exact ⟨h1, h2⟩
theorem open_pos (G : Nat → Prop) (g : Nat) (w : World) (hS : Sv w G g (fun _ => none)) :
    Calls Try.prog 15 #[.pointer (some ⟨g, 0, none⟩)] w fun e w' => e = .returned (.tuple #[.int .i64 0, .int .i64 0]) ∧ SGoes G w w' g (one gNew) := by
  exact open_ok G g (fun _ => none) 0 w hS (by omega) (fun j hj => by omega) rfl
/-- a Create in an empty context 0 -/
theorem create_pos (G : Nat → Prop) (g : Nat) (x h a b k : Int) (H A B : Nat) (mv want : ByteArray) (w : World) (hS : Sv w G g (one gNew)) (hx : x = 0) (hmv : str (byts [1, h, a, b]) = mv) (hw : str [0] = want) (hh : h = H) (ha : a = A) (hb : b = B) (hH : H < 8) (hA : 1 ≤ A ∧ A ≤ 24) (hB : 1 ≤ B ∧ B ≤ 24) (hk : k = 1 + a * b) :
    Calls Try.prog 9 #[.pointer (some ⟨g, 0, none⟩), .int .i64 x, .string mv, .string want, .int .i64 k] w fun e w' => e = .returned (.bool true) ∧ SGoes G w w' g (one (gI (rCreate gNew.rm H A B))) := by
  obtain ⟨r1, r2, r3, r4⟩ := create_as (R := gNew.rm) hh ha hb hH hA hB (can_first hA hB H hH)
  have := ask_one G g x gNew.rm _ mv want k w hS okR_new hx hmv r1 r2 r3 (by rw [r4]; exact hw) (by rw [r4, hk, ha, hb])
  rw [r4] at this
  exact this

/-- a server lies at g, all of it made since W, and W's own blocks are as they were -/
def St (W w : World) (g : Nat) (S : Nat → Option Gst) : Prop := ∃ G, Sv w G g S ∧ Below W.heap.size W w ∧ ∀ b, G b → W.heap.size ≤ b

theorem St.below {W w w' : World} {g : Nat} {S : Nat → Option Gst} (h : St W w g S) (hb : Below w.heap.size w w') : St W w' g S := by
  obtain ⟨G, h1, h2, h3⟩ := h
  exact ⟨G, h1.below hb, h2.trans (hb.mono h2.size), h3⟩
theorem St.goes {W w w' : World} {g : Nat} {S' : Nat → Option Gst} {G : Nat → Prop} (h2 : Below W.heap.size W w) (h3 : ∀ b, G b → W.heap.size ≤ b) (k : SGoes G w w' g S') : St W w' g S' := by
  obtain ⟨k1, G', k2, k3⟩ := k
  refine ⟨G', k2, h2.trans (k1.below h2.size h3), fun b hb => ?_⟩
  rcases k3 b hb with q | q
  · exact h3 b q
  · have := h2.size; omega
theorem St.call {W w : World} {g : Nat} {S S' : Nat → Option Gst} {f : Nat} {args : Array Value} {Q : Ending → Prop} (h : St W w g S) (k : ∀ G, Sv w G g S → Calls Try.prog f args w fun e w' => Q e ∧ SGoes G w w' g S') :
    Calls Try.prog f args w fun e w' => Q e ∧ St W w' g S' := by
  obtain ⟨G, h1, h2, h3⟩ := h
  exact (k G h1).mono fun e w' ⟨a, b⟩ => ⟨a, St.goes h2 h3 b⟩
theorem St.calle {W w : World} {g : Nat} {S : Nat → Option Gst} {f : Nat} {args : Array Value} {Q : Ending → Prop} (h : St W w g S) (k : ∀ G, Sv w G g S → Calls Try.prog f args w fun e w' => Q e ∧ ∃ C, SGoes G w w' g (one C)) :
    Calls Try.prog f args w fun e w' => Q e ∧ ∃ C, St W w' g (one C) := by
  obtain ⟨G, h1, h2, h3⟩ := h
  exact (k G h1).mono fun e w' ⟨a, C, b⟩ => ⟨a, C, St.goes h2 h3 b⟩
theorem St.callb {W w : World} {g : Nat} {S : Nat → Option Gst} {f : Nat} {args : Array Value} {Q : Ending → Prop} (h : St W w g S) (k : ∀ G, Sv w G g S → Calls Try.prog f args w fun e w' => Q e ∧ Below w.heap.size w w') :
    Calls Try.prog f args w fun e w' => Q e ∧ St W w' g S := by
  obtain ⟨G, h1, h2, h3⟩ := h
  exact (k G h1).mono fun e w' ⟨a, b⟩ => ⟨a, St.below ⟨G, h1, h2, h3⟩ b⟩
theorem begun_st (W : World) : Calls Try.prog 7 #[] W fun e w' => ∃ g, e = .returned (.tuple #[.pointer (some ⟨g, 0, none⟩), .bool true]) ∧ St W w' g (one gNew) := by
  refine (begun_any W).mono ?_
  rintro e w' ⟨g, G, h1, h2, h3, h4⟩
  exact ⟨g, h1, G, h3, h2, h4⟩
theorem St.done {W w : World} {g : Nat} {S : Nat → Option Gst} (h : St W w g S) : Below W.heap.size W w := by obtain ⟨_, _, h, _⟩ := h; exact h

theorem emptied_st {W w : World} {g : Nat} {C : Gst} {x : Int} (h : St W w g (one C)) (hx : x = 0) :
    Calls Try.prog 14 #[.pointer (some ⟨g, 0, none⟩), .int .i64 x] w fun e w' => ∃ s n, e = .returned (.tuple #[.string s, .int .i64 n, .bool true]) ∧ ∃ C', St W w' g (one C') := by
  obtain ⟨G, h1, h2, h3⟩ := h
  exact (emptied_pos G g x C w h1 hx).mono fun e w' ⟨a, b, c, C', d⟩ => ⟨a, b, c, C', St.goes h2 h3 d⟩

theorem kpick_as (c n v : Int) (w : World) (h : -9223372036854775808 ≤ c ∧ c ≤ 9223372036854775807) (h3 : 0 < n) (h4 : n ≤ 1099511627776) (hv : pck c n = v) :
    Calls Try.prog 11 #[.int .i64 c, .int .i64 n] w fun e w' => e = .returned (.int .i64 v) ∧ w' = w := by
  subst hv; exact kpick_any c n w h.1 h.2 h3 h4

end Go.Proofs.Ytbedkfgdhaajaab
