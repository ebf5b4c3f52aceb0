/- Rows.PaintedSaid (P3, P5, P12, P13): the walk of the statement. -/
import Derived.Test.YtbedkfgdhaajaabPicture
import Derived.Deep.RegionHeld3
import Derived.Deep.CutRange
import Derived.Deep.DeepCutAuto
namespace Go.Proofs.Ytbedkfgdhaajaab
open Go.RowKit

/-- a server lies at g, all of it made since W; beside it the triangle in block b -/
def StT (W w : World) (g : Nat) (S : Nat → Option Gst) (b : Nat) (xa ya xb yb xc yc : Int) : Prop :=
  ∃ G, Sv w G g S ∧ Below W.heap.size W w ∧ (∀ b, G b → W.heap.size ≤ b) ∧ ¬ G b ∧ W.heap.size ≤ b ∧ TC w b xa ya xb yb xc yc ∧ ∀ j, w.frozen? ⟨b, j, none⟩ = false

section
variable {W w w' : World} {g : Nat} {S S' : Nat → Option Gst} {b : Nat} {xa ya xb yb xc yc : Int}
theorem StT.below (h : StT W w g S b xa ya xb yb xc yc) (hb : Below w.heap.size w w') : StT W w' g S b xa ya xb yb xc yc := by
  obtain ⟨G, h1, h2, h3, h4, h5, h6, h7⟩ := h
  exact ⟨G, h1.below hb, h2.trans (hb.mono h2.size), h3, h4, h5, h6.below hb, fun j => (hb.frozen (p := ⟨b, j, none⟩) h6.1).trans (h7 j)⟩
theorem StT.alloc (h : StT W w g S b xa ya xb yb xc yc) (o : Obj) : StT W (w.alloc o) g S b xa ya xb yb xc yc := h.below ((Below.refl _ _).alloc (Nat.le_refl _) o)
theorem StT.drew (h : StT W w g S b xa ya xb yb xc yc) : StT W w.drew g S b xa ya xb yb xc yc := h.below ⟨rfl, rfl, rfl, Nat.le_refl _, fun _ _ => rfl⟩
theorem StT.tc (h : StT W w g S b xa ya xb yb xc yc) : TC w b xa ya xb yb xc yc := by obtain ⟨_, _, _, _, _, _, h, _⟩ := h; exact h
theorem StT.fz (h : StT W w g S b xa ya xb yb xc yc) (j : Nat) : w.frozen? ⟨b, j, none⟩ = false := by obtain ⟨_, _, _, _, _, _, _, h⟩ := h; exact h j
theorem StT.done (h : StT W w g S b xa ya xb yb xc yc) : Below W.heap.size W w := by obtain ⟨_, _, h, _⟩ := h; exact h
theorem StT.call {f : Nat} {args : Array Value} {Q : Ending → Prop} (h : StT W w g S b xa ya xb yb xc yc) (k : ∀ G, Sv w G g S → Calls Try.prog f args w fun e w' => Q e ∧ SGoes G w w' g S') :
    Calls Try.prog f args w fun e w' => Q e ∧ StT W w' g S' b xa ya xb yb xc yc := by
  obtain ⟨G, h1, h2, h3, h4, h5, h6, h7⟩ := h
  refine (k G h1).mono fun e w' ⟨a, q⟩ => ⟨a, ?_⟩
  obtain ⟨k1, G', k2, k3⟩ := q
  have hlt := h6.1
  refine ⟨G', k2, h2.trans (k1.below h2.size h3), fun b hb => ?_, fun q => ?_, h5, h6.only k1 h4, fun j => (k1.frozen hlt h4 j).trans (h7 j)⟩
  · rcases k3 b hb with q | q
    · exact h3 b q
    · have := h2.size; omega
  · rcases k3 b q with q | q
    · exact h4 q
    · omega
theorem StT.start {o : TypeId} {G : Nat → Prop} (hb : Below (W.alloc (.cells #[.int .i64 xa, .int .i64 ya, .int .i64 xb, .int .i64 yb, .int .i64 xc, .int .i64 yc] o)).heap.size (W.alloc (.cells #[.int .i64 xa, .int .i64 ya, .int .i64 xb, .int .i64 yb, .int .i64 xc, .int .i64 yc] o)) w) (hs : Sv w G g S) (hf : ∀ b, G b → (W.alloc (.cells #[.int .i64 xa, .int .i64 ya, .int .i64 xb, .int .i64 yb, .int .i64 xc, .int .i64 yc] o)).heap.size ≤ b) :
    StT W w g S W.heap.size xa ya xb yb xc yc := by
  rw [World.size_alloc] at hf
  refine ⟨G, hs, ((Below.refl _ _).alloc (Nat.le_refl _) _).trans (hb.mono (by simp)), fun b q => by have := hf b q; omega, fun q => by have := hf _ q; omega, Nat.le_refl _, (TC.new W o _ _ _ _ _ _).below hb, fun j => ?_⟩
  rw [hb.frozen (p := ⟨W.heap.size, j, none⟩) (by simp)]
  simp [go_sem]
/-- another triangle is laid there -/
theorem StT.lay (h : StT W w g S b xa ya xb yb xc yc) (p q r s t u : Int) :
    StT W ((((((w.setCell ⟨b, 0, none⟩ (.int .i64 p)).setCell ⟨b, 1, none⟩ (.int .i64 q)).setCell ⟨b, 2, none⟩ (.int .i64 r)).setCell ⟨b, 3, none⟩ (.int .i64 s)).setCell ⟨b, 4, none⟩ (.int .i64 t)).setCell ⟨b, 5, none⟩ (.int .i64 u)) g S b p q r s t u := by
  obtain ⟨G, h1, h2, h3, h4, h5, ⟨z, k0, k1, k2, k3, k4, k5⟩, h7⟩ := h
  have ho : Only (fun x => x = b) w ((((((w.setCell ⟨b, 0, none⟩ (.int .i64 p)).setCell ⟨b, 1, none⟩ (.int .i64 q)).setCell ⟨b, 2, none⟩ (.int .i64 r)).setCell ⟨b, 3, none⟩ (.int .i64 s)).setCell ⟨b, 4, none⟩ (.int .i64 t)).setCell ⟨b, 5, none⟩ (.int .i64 u)) :=
    ((((((Only.refl (fun x => x = b) w).setCell (.inl rfl) _).setCell (.inl rfl) _).setCell (.inl rfl) _).setCell (.inl rfl) _).setCell (.inl rfl) _).setCell (.inl rfl) _
  refine ⟨G, h1.only ho (fun _ hb e => h4 (e ▸ hb)), h2.trans (ho.below h2.size (fun x hx => by rw [hx]; exact h5)), h3, h4, h5, ⟨by simp only [sz_setCell]; exact z, ?_, ?_, ?_, ?_, ?_, ?_⟩, fun j => by simp only [World.frozen?_setCell]; exact h7 j⟩
  · rw [World.cell?_setCell_other _ _ _ _ (addr_ne (by omega)), World.cell?_setCell_other _ _ _ _ (addr_ne (by omega)), World.cell?_setCell_other _ _ _ _ (addr_ne (by omega)), World.cell?_setCell_other _ _ _ _ (addr_ne (by omega)), World.cell?_setCell_other _ _ _ _ (addr_ne (by omega))]
    exact World.cell?_setCell_same _ _ _ k0
  · rw [World.cell?_setCell_other _ _ _ _ (addr_ne (by omega)), World.cell?_setCell_other _ _ _ _ (addr_ne (by omega)), World.cell?_setCell_other _ _ _ _ (addr_ne (by omega)), World.cell?_setCell_other _ _ _ _ (addr_ne (by omega))]
    exact World.cell?_setCell_same _ _ _ ((World.cell?_setCell_other _ _ _ _ (addr_ne (by omega))).trans k1)
  · rw [World.cell?_setCell_other _ _ _ _ (addr_ne (by omega)), World.cell?_setCell_other _ _ _ _ (addr_ne (by omega)), World.cell?_setCell_other _ _ _ _ (addr_ne (by omega))]
    exact World.cell?_setCell_same _ _ _ (by rw [World.cell?_setCell_other _ _ _ _ (addr_ne (by omega)), World.cell?_setCell_other _ _ _ _ (addr_ne (by omega))]; exact k2)
  · rw [World.cell?_setCell_other _ _ _ _ (addr_ne (by omega)), World.cell?_setCell_other _ _ _ _ (addr_ne (by omega))]
    exact World.cell?_setCell_same _ _ _ (by rw [World.cell?_setCell_other _ _ _ _ (addr_ne (by omega)), World.cell?_setCell_other _ _ _ _ (addr_ne (by omega)), World.cell?_setCell_other _ _ _ _ (addr_ne (by omega))]; exact k3)
  · rw [World.cell?_setCell_other _ _ _ _ (addr_ne (by omega))]
    exact World.cell?_setCell_same _ _ _ (by rw [World.cell?_setCell_other _ _ _ _ (addr_ne (by omega)), World.cell?_setCell_other _ _ _ _ (addr_ne (by omega)), World.cell?_setCell_other _ _ _ _ (addr_ne (by omega)), World.cell?_setCell_other _ _ _ _ (addr_ne (by omega))]; exact k4)
  · exact World.cell?_setCell_same _ _ _ (by rw [World.cell?_setCell_other _ _ _ _ (addr_ne (by omega)), World.cell?_setCell_other _ _ _ _ (addr_ne (by omega)), World.cell?_setCell_other _ _ _ _ (addr_ne (by omega)), World.cell?_setCell_other _ _ _ _ (addr_ne (by omega)), World.cell?_setCell_other _ _ _ _ (addr_ne (by omega))]; exact k5)
end

theorem zeros_getD (k i : Nat) : (zeros k).getD i 0 = 0 := by
  unfold zeros
  rw [List.getD_eq_getElem?_getD, List.getElem?_replicate]
  split <;> rfl

theorem wrt_pad {sl : List UInt8} {n : Nat} (h : sl.length + n = 24) : wrt (zeros 24) 0 sl = sl ++ zeros n := by
  refine List.ext_getElem (by rw [wrt_length]; simp [zeros]; omega) (fun i h1 h2 => ?_)
  rw [wrt_length] at h1
  rw [wrt_get _ _ _ h1, List.getElem_append]
  by_cases q : i < sl.length
  · rw [if_pos ⟨by omega, by omega⟩, dif_pos q, Nat.sub_zero]
    simp [List.getD, q]
  · rw [if_neg (by omega), dif_neg q, zeros_getD]
    unfold zeros
    rw [List.getElem_replicate]

def i64r (x : Int) : Prop := -9223372036854775808 ≤ x ∧ x ≤ 9223372036854775807

theorem text3 (x y u : Int) (t : TypeId) (w : World) (b : Nat) (hbw : b = w.heap.size) (h : 0 ≤ x ∧ x ≤ 255) (k : 0 ≤ y ∧ y ≤ 255) (h' : 0 ≤ u ∧ u ≤ 255) :
    Calls Try.prog 8 #[.slice (some ⟨b, 0, none⟩) 3 3] (w.alloc (.cells #[.int .i64 x, .int .i64 y, .int .i64 u] t)) fun e w' => e = .returned (.string (str (byts [x, y, u]))) ∧ Below w.heap.size w w' := by
  subst hbw
  refine (text_any w.heap.size 3 [x, y, u] (w.alloc (.cells #[.int .i64 x, .int .i64 y, .int .i64 u] t)) (by simp) (by simp) (fun j hj => ?_) (fun j hj => ?_)).mono ?_
  · rcases (by simp at hj; omega : j = 0 ∨ j = 1 ∨ j = 2) with rfl | rfl | rfl <;> (rw [World.cell?_alloc_at _ _ _ _ rfl]; rfl)
  · rcases (by simp at hj; omega : j = 0 ∨ j = 1 ∨ j = 2) with rfl | rfl | rfl
    · exact h
    · exact k
    · exact h'
  · rintro e w' ⟨rfl, hb⟩
    exact ⟨rfl, ((Below.refl _ _).alloc (Nat.le_refl _) _).trans (hb.mono (by simp))⟩

theorem text5d (x y u v z : Int) (t : TypeId) (w : World) (b : Nat) (tv : ByteArray) (hbw : b = w.heap.size) (h : 0 ≤ x ∧ x ≤ 255) (k : 0 ≤ y ∧ y ≤ 255) (h' : 0 ≤ u ∧ u ≤ 255) (k' : 0 ≤ v ∧ v ≤ 255) (k2 : 0 ≤ z ∧ z ≤ 255) (htv : str (byts [x, y, u, v, z]) = tv) :
    Calls Try.prog 8 #[.slice (some ⟨b, 0, none⟩) 5 5] (w.alloc (.cells #[.int .i64 x, .int .i64 y, .int .i64 u, .int .i64 v, .int .i64 z] t)).drew fun e w' => e = .returned (.string tv) ∧ Below w.heap.size w w' := by
  subst hbw htv
  refine (text_any w.heap.size 5 [x, y, u, v, z] (w.alloc (.cells #[.int .i64 x, .int .i64 y, .int .i64 u, .int .i64 v, .int .i64 z] t)).drew (by simp) (by simp) (fun j hj => ?_) (fun j hj => ?_)).mono ?_
  · rw [World.cell?_drew]
    rcases (by simp at hj; omega : j = 0 ∨ j = 1 ∨ j = 2 ∨ j = 3 ∨ j = 4) with rfl | rfl | rfl | rfl | rfl <;> (rw [World.cell?_alloc_at _ _ _ _ rfl]; rfl)
  · rcases (by simp at hj; omega : j = 0 ∨ j = 1 ∨ j = 2 ∨ j = 3 ∨ j = 4) with rfl | rfl | rfl | rfl | rfl
    · exact h
    · exact k
    · exact h'
    · exact k'
    · exact k2
  · rintro e w' ⟨rfl, hb⟩
    exact ⟨rfl, (((Below.refl _ _).alloc (Nat.le_refl _) _).drew).trans (hb.mono (by simp))⟩

set_option maxHeartbeats 400000 in
theorem tverify_at (s : ByteArray) (a b : Int) (w : World) (hs : s.size ≤ maxLen) (ha : (ver s).1 = a) (hb : (ver s).2 = b) :
    Calls Try.prog 20 #[.string s] w fun e w' => e = .returned (.tuple #[.int .i64 a, .int .i64 b]) ∧ Below w.heap.size w w' := by
  subst ha hb
  have HS : Hid (s.size ≤ maxLen) := hs
  clear hs
  go_enter Try.func20, Try.ntmps20
  go_wp2_with (go_at_call 29; refine (verify_in _ _ HS.out).mono ?_; rintro e w1 ⟨rfl, hb1⟩)
  go_ret2
  exact ⟨rfl, hb1⟩

/-- the Draw's bytes, part by part -/
theorem dcmd_str (K Xa Ya Xb Yb Xc Yc : Int) (sA sB sC v5 : ByteArray) (h5 : str (byts [7, 1, 3, 2, K]) = v5) (hA : str (c4 Xa Ya) = sA) (hB : str (c4 Xb Yb) = sB) (hC : str (c4 Xc Yc) = sC) : str (dcmd K Xa Ya Xb Yb Xc Yc) = v5 ++ sA ++ sB ++ sC := by
  subst h5 hA hB hC
  unfold dcmd
  rw [← str_app, ← str_app, ← str_app]

/-- commands that are asked -/
theorem asked_create (G : Nat → Prop) (g : Nat) (x : Int) (R : Rm) (h a b k : Int) (H A B : Nat) (mv want : ByteArray) (w : World) (hS : Sv w G g (one (gI R))) (hR : okR R) (hx : x = 0) (hmv : str (byts [1, h, a, b]) = mv) (hw : str [0] = want) (hh : h = H) (ha : a = A) (hb : b = B) (hH : H < 8) (hA : 1 ≤ A ∧ A ≤ 24) (hB : 1 ≤ B ∧ B ≤ 24) (hc : can R.bs H A B = 0) (hk : k = 1 + a * b) :
    Calls Try.prog 9 #[.pointer (some ⟨g, 0, none⟩), .int .i64 x, .string mv, .string want, .int .i64 k] w fun e w' => e = .returned (.bool true) ∧ SGoes G w w' g (one (gI (rCreate R H A B))) := by
  obtain ⟨r1, r2, r3, r4⟩ := create_as (R := R) hh ha hb hH hA hB hc
  have := ask_one G g x R _ mv want k w hS hR hx hmv r1 r2 r3 (by rw [r4]; exact hw) (by rw [r4, hk, ha, hb])
  rw [r4] at this
  exact this

theorem kwrite (G : Nat → Prop) (g : Nat) (x : Int) (R : Rm) (n k : Int) (l X : List UInt8) (mv want : ByteArray) (w : World) (hS : Sv w G g (one (gI R))) (hR : okR R) (hx : x = 0) (hmv : str (byts [3, 2, 0, 0, n] ++ l) = mv) (hn : n = l.length) (hN : l.length ≤ 255) (ht : 0 < (R.bs 2).length) (hX : wrt (R.bs 2) 0 l = X)
    (hw : str [0] = want) (hk : k = 1 + (l.length : Int)) :
    Calls Try.prog 9 #[.pointer (some ⟨g, 0, none⟩), .int .i64 x, .string mv, .string want, .int .i64 k] w fun e w' => e = .returned (.bool true) ∧ SGoes G w w' g (one (gI (rBytes R 2 X))) := by
  obtain ⟨r1, r2, r3, r4⟩ := write_as (R := R) (h := 2) (c := 0) (d := 0) (H := 2) rfl hn (by omega) (by omega) (by omega) hN ht
  have := ask_one G g x R _ mv want k w hS hR hx hmv r1 r2 r3 (by rw [r4]; exact hw) (by rw [r4, hk])
  rw [r4] at this
  simp only [show ((0 : Int) + 256 * 0).toNat = 0 from rfl, hX] at this
  exact this

theorem kcode_ok (G : Nat → Prop) (g : Nat) (x : Int) (R : Rm) (k : Int) (code : List UInt8) (mv want : ByteArray) (w : World) (hS : Sv w G g (one (gI R))) (hR : okR R) (hx : x = 0) (hmv : str (ccmd code) = mv) (h4 : code.length % 4 = 0) (hl : code.length ≤ 128) (hv : (ver (str code)).1 = 0) (hw : str [0] = want) (hk : k = 1 + (code.length : Int) / 4) :
    Calls Try.prog 9 #[.pointer (some ⟨g, 0, none⟩), .int .i64 x, .string mv, .string want, .int .i64 k] w fun e w' => e = .returned (.bool true) ∧ SGoes G w w' g (one (gI (rCode R 3 code))) := by
  obtain ⟨r1, r2, r3, r4⟩ := code_as (R := R) h4 hl
  rw [if_pos hv] at r4
  have := ask_one G g x R _ mv want k w hS hR hx hmv r1 r2 r3 (by rw [r4]; exact hw) (by rw [r4, hk])
  rw [r4] at this
  exact this

theorem kcode_bad (G : Nat → Prop) (g : Nat) (x : Int) (R : Rm) (k : Int) (code : List UInt8) (mv want : ByteArray) (w : World) (hS : Sv w G g (one (gI R))) (hR : okR R) (hx : x = 0) (hmv : str (ccmd code) = mv) (h4 : code.length % 4 = 0) (hl : code.length ≤ 128) (hv : ¬ (ver (str code)).1 = 0) (hw : str [7] = want) (hk : k = 1) :
    Calls Try.prog 9 #[.pointer (some ⟨g, 0, none⟩), .int .i64 x, .string mv, .string want, .int .i64 k] w fun e w' => e = .returned (.bool true) ∧ SGoes G w w' g (one (gI R)) := by
  obtain ⟨r1, r2, r3, r4⟩ := code_as (R := R) h4 hl
  rw [if_neg hv] at r4
  have := ask_one G g x R _ mv want k w hS hR hx hmv r1 r2 r3 (by rw [r4]; exact hw) (by rw [r4, hk])
  rw [r4] at this
  exact this

theorem kdraw (G : Nat → Prop) (g : Nat) (x : Int) (R R' : Rm) (k : Int) (e : UInt8) (col xa ya xb yb xc yc : Int) (mv want : ByteArray) (w : World) (hS : Sv w G g (one (gI R))) (hR : okR R) (hx : x = 0) (hc : 0 ≤ col ∧ col ≤ 255) (hmv : str (dcmd col xa ya xb yb xc yc) = mv) (he : eb (der R (dcmd col xa ya xb yb xc yc)) = e) (hw : str [e] = want) (hk : dwC R (dcmd col xa ya xb yb xc yc) = k) (hR' : dwR R (dcmd col xa ya xb yb xc yc) = R') :
    Calls Try.prog 9 #[.pointer (some ⟨g, 0, none⟩), .int .i64 x, .string mv, .string want, .int .i64 k] w fun e w' => e = .returned (.bool true) ∧ SGoes G w w' g (one (gI R')) := by
  obtain ⟨r1, r2, r3, r4⟩ := draw_as (R := R) (xa := xa) (ya := ya) (xb := xb) (yb := yb) (xc := xc) (yc := yc) hc
  rw [he, hk, hR'] at r4
  have := ask_one G g x R _ mv want k w hS hR hx hmv r1 r2 r3 (by rw [r4]; exact hw) (by rw [r4])
  rw [r4] at this
  exact this

section
variable {A B : Nat} {sl code : List UInt8} {K Xa Ya Xb Yb Xc Yc : Int}
def inn6 (Xa Ya Xb Yb Xc Yc : Int) : Prop := (-2048 ≤ Xa ∧ Xa ≤ 2047) ∧ (-2048 ≤ Ya ∧ Ya ≤ 2047) ∧ (-2048 ≤ Xb ∧ Xb ≤ 2047) ∧ (-2048 ≤ Yb ∧ Yb ≤ 2047) ∧ (-2048 ≤ Xc ∧ Xc ≤ 2047) ∧ (-2048 ≤ Yc ∧ Yc ≤ 2047)

theorem thr1 (hA : 1 ≤ A ∧ A ≤ 15) (hB : 1 ≤ B ∧ B ≤ 15) : thr (R3 A B sl) 1 = true := decide_eq_true ⟨by omega, by rw [R3_bs1]; unfold zeros; rw [List.length_replicate]; exact (mul15 hA hB).1⟩
theorem thr2 : thr (R3 A B sl) 2 = true := decide_eq_true ⟨by omega, by rw [R3_bs2, wrt_length]; simp [zeros]⟩

theorem der3 (hc : 0 ≤ K ∧ K ≤ 255) (hA : 1 ≤ A ∧ A ≤ 15) (hB : 1 ≤ B ∧ B ≤ 15) : der (R3 A B sl) (dcmd K Xa Ya Xb Yb Xc Yc) = 6 := by
  obtain ⟨_, _, b1, b2, b3, _⟩ := dcmd_bytes (xa := Xa) (ya := Ya) (xb := Xb) (yb := Yb) (xc := Xc) (yc := Yc) hc
  unfold der
  rw [b1, b2, thr1 hA hB, if_neg (by simp), if_pos (.inr (R3_has A B sl))]

theorem der4 (hc : 0 ≤ K ∧ K ≤ 255) (hA : 1 ≤ A ∧ A ≤ 15) (hB : 1 ≤ B ∧ B ≤ 15) (hi : inn6 Xa Ya Xb Yb Xc Yc) : der (R4 A B sl code) (dcmd K Xa Ya Xb Yb Xc Yc) = 0 := by
  obtain ⟨_, _, b1, b2, b3, _⟩ := dcmd_bytes (xa := Xa) (ya := Ya) (xb := Xb) (yb := Yb) (xc := Xc) (yc := Yc) hc
  obtain ⟨i1, i2, i3, i4, i5, i6⟩ := hi
  obtain ⟨c5, c7, c9, c11, c13, c15⟩ := dcmd_corners (col := K) i1 i2 i3 i4 i5 i6
  have t1 : thr (R4 A B sl code) 1 = true := thr1 (sl := sl) hA hB
  have t2 : thr (R4 A B sl code) 2 = true := thr2 (A := A) (B := B) (sl := sl)
  unfold der
  rw [b1, b2, b3, t1, t2, if_neg (by simp), if_neg, if_neg (by simp), c5, c7, c9, c11, c13, c15, if_pos]
  · exact ⟨decide_eq_true (by omega), decide_eq_true (by omega), decide_eq_true (by omega)⟩
  · rw [R4_has]; simp

theorem pic4 (hc : 0 ≤ K ∧ K ≤ 255) (hA : 1 ≤ A ∧ A ≤ 15) (hB : 1 ≤ B ∧ B ≤ 15) (hi : inn6 Xa Ya Xb Yb Xc Yc) (hv : (ver (str code)).1 = 0) : PicOk (R4 A B sl code) (dcmd K Xa Ya Xb Yb Xc Yc) A B Xa Ya Xb Yb Xc Yc K (str code) (str (wrt (zeros 24) 0 sl)) := by
  obtain ⟨_, _, b1, b2, b3, b4⟩ := dcmd_bytes (xa := Xa) (ya := Ya) (xb := Xb) (yb := Yb) (xc := Xc) (yc := Yc) hc
  obtain ⟨i1, i2, i3, i4, i5, i6⟩ := hi
  obtain ⟨c5, c7, c9, c11, c13, c15⟩ := dcmd_corners (col := K) i1 i2 i3 i4 i5 i6
  refine ⟨hA, hB, ?_, ?_, ?_, ?_, ?_, ?_, hv, b4, c5, c7, c9, c11, c13, c15, decide_eq_true (by omega), decide_eq_true (by omega), decide_eq_true (by omega)⟩
  · rw [b1]; rfl
  · rw [b1]; rfl
  · rw [b1, b3]; omega
  · rw [b2]; rfl
  · rw [b3]; rfl
  · rw [str_size, wrt_length]; simp [zeros]
end

theorem dst_length4 {A B : Nat} {sl code m : List UInt8} (h1 : bn m 1 = 1) (k : Nat) : (dst (R4 A B sl code) m k).1.length = A * B := by
  rw [dst_len, h1]
  show (zeros (A * B)).length = A * B
  unfold zeros
  rw [List.length_replicate]

theorem rdb_whole (L : List UInt8) : rdb L 0 L.length = L := by
  unfold rdb
  refine List.ext_getElem (by simp) (fun i h1 h2 => ?_)
  simp [List.getD, h2]

theorem picture_at (R : Rm) (m : List UInt8) (wd hg : Nat) (wI hI xa ya xb yb xc yc col : Int) (code tx want : ByteArray) (cost : Int) (w : World) (h : PicOk R m wd hg xa ya xb yb xc yc col code tx) (hw : wI = wd) (hh : hI = hg) (h1 : str (dst R m (wd * hg)).1 = want) (h2 : (dst R m (wd * hg)).2 = cost) :
    Calls Try.prog 21 #[.int .i64 wI, .int .i64 hI, .agg #[.int .i64 xa, .int .i64 ya, .int .i64 xb, .int .i64 yb, .int .i64 xc, .int .i64 yc], .string code, .int .i64 col, .string tx] w fun e w' =>
      e = .returned (.tuple #[.string want, .int .i64 cost, .bool true]) ∧ Below w.heap.size w w' := by
  subst hw hh h1 h2
  exact picture_any R m wd hg xa ya xb yb xc yc col code tx w h

theorem rB1 (R : Rm) (L : List UInt8) : (rBytes R 1 L).bs 1 = L := by
  show updA R.bs 1 L 1 = L
  exact updA_same R.bs 1 L

end Go.Proofs.Ytbedkfgdhaajaab
