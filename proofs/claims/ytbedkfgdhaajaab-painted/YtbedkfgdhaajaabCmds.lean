/- Commands that are asked: Create, Read, Write (package tenantskeep). -/
import Derived.Test.YtbedkfgdhaajaabBook
import Derived.Sort.AtCall
namespace Go.Proofs.Ytbedkfgdhaajaab
open Go.RowKit

theorem text5 (x y u v z : Int) (t : TypeId) (w : World) (b : Nat) (hbw : b = w.heap.size) (h : 0 ≤ x ∧ x ≤ 255) (k : 0 ≤ y ∧ y ≤ 255) (h' : 0 ≤ u ∧ u ≤ 255) (k' : 0 ≤ v ∧ v ≤ 255) (k2 : 0 ≤ z ∧ z ≤ 255) :
    Calls Try.prog 8 #[.slice (some ⟨b, 0, none⟩) 5 5] (w.alloc (.cells #[.int .i64 x, .int .i64 y, .int .i64 u, .int .i64 v, .int .i64 z] t)) fun e w' => e = .returned (.string (str (byts [x, y, u, v, z]))) ∧ Below w.heap.size w w' := by
  subst hbw
  refine (text_any w.heap.size 5 [x, y, u, v, z] (w.alloc (.cells #[.int .i64 x, .int .i64 y, .int .i64 u, .int .i64 v, .int .i64 z] t)) (by simp) (by simp) (fun j hj => ?_) (fun j hj => ?_)).mono ?_
  · rcases (by simp at hj; omega : j = 0 ∨ j = 1 ∨ j = 2 ∨ j = 3 ∨ j = 4) with rfl | rfl | rfl | rfl | rfl <;> (rw [World.cell?_alloc_at _ _ _ _ rfl]; rfl)
  · rcases (by simp at hj; omega : j = 0 ∨ j = 1 ∨ j = 2 ∨ j = 3 ∨ j = 4) with rfl | rfl | rfl | rfl | rfl
    · exact h
    · exact k
    · exact h'
    · exact k'
    · exact k2
  · rintro e w' ⟨rfl, hb⟩
    exact ⟨rfl, ((Below.refl _ _).alloc (Nat.le_refl _) _).trans (hb.mono (by simp))⟩

theorem ofNat_toNat {x : Int} (h : 0 ≤ x ∧ x ≤ 255) : ((UInt8.ofNat x.toNat).toNat : Int) = x := by simp; omega

/-- the bytes of five numbers -/
theorem bn5 {a b c d e : Int} (ha : 0 ≤ a ∧ a ≤ 255) (hb : 0 ≤ b ∧ b ≤ 255) (hc : 0 ≤ c ∧ c ≤ 255) (hd : 0 ≤ d ∧ d ≤ 255) (he : 0 ≤ e ∧ e ≤ 255) (l : List UInt8) :
    (bn (byts [a, b, c, d, e] ++ l) 0 : Int) = a ∧ (bn (byts [a, b, c, d, e] ++ l) 1 : Int) = b ∧ (bn (byts [a, b, c, d, e] ++ l) 2 : Int) = c ∧ (bn (byts [a, b, c, d, e] ++ l) 3 : Int) = d ∧ (bn (byts [a, b, c, d, e] ++ l) 4 : Int) = e ∧ (byts [a, b, c, d, e] ++ l).length = 5 + l.length ∧ (byts [a, b, c, d, e] ++ l).drop 5 = l :=
  ⟨ofNat_toNat ha, ofNat_toNat hb, ofNat_toNat hc, ofNat_toNat hd, ofNat_toNat he, by show l.length + 5 = _; omega, rfl⟩

theorem bn4i {a b c d : Int} (ha : 0 ≤ a ∧ a ≤ 255) (hb : 0 ≤ b ∧ b ≤ 255) (hc : 0 ≤ c ∧ c ≤ 255) (hd : 0 ≤ d ∧ d ≤ 255) :
    (bn (byts [a, b, c, d]) 0 : Int) = a ∧ (bn (byts [a, b, c, d]) 1 : Int) = b ∧ (bn (byts [a, b, c, d]) 2 : Int) = c ∧ (bn (byts [a, b, c, d]) 3 : Int) = d ∧ (byts [a, b, c, d]).length = 4 :=
  ⟨ofNat_toNat ha, ofNat_toNat hb, ofNat_toNat hc, ofNat_toNat hd, rfl⟩

/-- a Create that must succeed -/
theorem create_as {R : Rm} {h a b : Int} {H A B : Nat} (hh : h = H) (ha : a = A) (hb : b = B) (hH : H < 8) (hA : 1 ≤ A ∧ A ≤ 24) (hB : 1 ≤ B ∧ B ≤ 24) (hc : can R.bs H A B = 0) :
    (byts [1, h, a, b]).length = pz (byts [1, h, a, b]) ∧ 0 < (byts [1, h, a, b]).length ∧ (byts [1, h, a, b]).length ≤ 1024 ∧ pd R (byts [1, h, a, b]) = ([0], 1 + (A : Int) * B, rCreate R H A B) := by
  subst hh ha hb
  obtain ⟨b0, b1, b2, b3, bl⟩ := bn4i (a := 1) (b := (H : Int)) (c := (A : Int)) (d := (B : Int)) (by omega) (by omega) (by omega) (by omega)
  have c0 : bn (byts [1, (H : Int), (A : Int), (B : Int)]) 0 = 1 := by omega
  have c1 : bn (byts [1, (H : Int), (A : Int), (B : Int)]) 1 = H := by omega
  have c2 : bn (byts [1, (H : Int), (A : Int), (B : Int)]) 2 = A := by omega
  have c3 : bn (byts [1, (H : Int), (A : Int), (B : Int)]) 3 = B := by omega
  refine ⟨?_, by omega, by omega, ?_⟩
  · rw [bl, pz_n7 (by omega)]; unfold dsz; rw [bl, c0]; rfl
  · rw [pd_1 c0, c1, c2, c3, hc]; rfl

/-- a Read of an object that is there -/
theorem read_as {R : Rm} {h c d n : Int} {H N : Nat} (hh : h = H) (hn : n = N) (hH : H < 8) (hc : 0 ≤ c ∧ c ≤ 255) (hd : 0 ≤ d ∧ d ≤ 255) (hN : N ≤ 255) (ht : 0 < (R.bs H).length) :
    (byts [4, h, c, d, n]).length = pz (byts [4, h, c, d, n]) ∧ 0 < (byts [4, h, c, d, n]).length ∧ (byts [4, h, c, d, n]).length ≤ 1024 ∧ pd R (byts [4, h, c, d, n]) = (0 :: rdb (R.bs H) (c + 256 * d).toNat N, 1 + (N : Int), R) := by
  subst hh hn
  obtain ⟨b0, b1, b2, b3, b4, bl, _⟩ := bn5 (a := 4) (b := (H : Int)) (c := c) (d := d) (e := (N : Int)) (by omega) (by omega) hc hd (by omega) []
  rw [List.append_nil] at *
  have c0 : bn (byts [4, (H : Int), c, d, (N : Int)]) 0 = 4 := by omega
  have c1 : bn (byts [4, (H : Int), c, d, (N : Int)]) 1 = H := by omega
  have c4 : bn (byts [4, (H : Int), c, d, (N : Int)]) 4 = N := by omega
  have cw : wrd (byts [4, (H : Int), c, d, (N : Int)]) 2 = (c + 256 * d).toNat := by unfold wrd; rw [show 2 + 1 = 3 from rfl]; omega
  have bl' : (byts [4, (H : Int), c, d, (N : Int)]).length = 5 := bl
  refine ⟨?_, by omega, by omega, ?_⟩
  · rw [bl', pz_n7 (by omega)]; unfold dsz; rw [bl', c0]; rfl
  · rw [pd_4 c0 (by rw [c1]; exact decide_eq_true ⟨hH, ht⟩), c1, c4, cw]

/-- a Write into an object that is there -/
theorem write_as {R : Rm} {h c d n : Int} {H : Nat} {l : List UInt8} (hh : h = H) (hn : n = l.length) (hH : H < 8) (hc : 0 ≤ c ∧ c ≤ 255) (hd : 0 ≤ d ∧ d ≤ 255) (hN : l.length ≤ 255) (ht : 0 < (R.bs H).length) :
    (byts [3, h, c, d, n] ++ l).length = pz (byts [3, h, c, d, n] ++ l) ∧ 0 < (byts [3, h, c, d, n] ++ l).length ∧ (byts [3, h, c, d, n] ++ l).length ≤ 1024 ∧ pd R (byts [3, h, c, d, n] ++ l) = ([0], 1 + (l.length : Int), rBytes R H (wrt (R.bs H) (c + 256 * d).toNat l)) := by
  subst hh hn
  obtain ⟨b0, b1, b2, b3, b4, bl, bd⟩ := bn5 (a := 3) (b := (H : Int)) (c := c) (d := d) (e := (l.length : Int)) (by omega) (by omega) hc hd (by omega) l
  generalize byts [3, (H : Int), c, d, (l.length : Int)] ++ l = m at *
  have c0 : bn m 0 = 3 := by omega
  have c1 : bn m 1 = H := by omega
  have c4 : bn m 4 = l.length := by omega
  have cw : wrd m 2 = (c + 256 * d).toNat := by unfold wrd; rw [show 2 + 1 = 3 from rfl]; omega
  refine ⟨?_, by omega, by omega, ?_⟩
  · rw [bl, pz_n7 (by omega)]; unfold dsz; rw [if_neg (by omega), if_neg (by omega), if_neg (by omega), if_pos c0, if_neg (by omega), c4]
  · rw [pd_3 c0 (by rw [c1]; exact decide_eq_true ⟨hH, ht⟩), c1, c4, cw, bd]

theorem rdb_zeros (N a n : Nat) : rdb (zeros N) a n = zeros n := by
  unfold rdb zeros
  refine List.ext_getElem (by simp) (fun i h1 h2 => ?_)
  simp [List.getD, List.getElem?_replicate]
  split <;> rfl

theorem asked_read (G : Nat → Prop) (g : Nat) (x : Int) (R : Rm) (h c d n k : Int) (H N : Nat) (mv want : ByteArray) (w : World) (hS : Sv w G g (one (gI R))) (hR : okR R) (hx : x = 0) (hmv : str (byts [4, h, c, d, n]) = mv) (hh : h = H) (hn : n = N) (hH : H < 8) (hc : 0 ≤ c ∧ c ≤ 255) (hd : 0 ≤ d ∧ d ≤ 255) (hN : N ≤ 255) (ht : 0 < (R.bs H).length)
    (hw : str (0 :: rdb (R.bs H) (c + 256 * d).toNat N) = want) (hk : k = 1 + (N : Int)) :
    Calls Try.prog 9 #[.pointer (some ⟨g, 0, none⟩), .int .i64 x, .string mv, .string want, .int .i64 k] w fun e w' => e = .returned (.bool true) ∧ SGoes G w w' g (one (gI R)) := by
  obtain ⟨r1, r2, r3, r4⟩ := read_as (R := R) hh hn hH hc hd hN ht
  have := ask_one G g x R _ mv want k w hS hR hx hmv r1 r2 r3 (by rw [r4]; exact hw) (by rw [r4, hk])
  rw [r4] at this
  exact this

end Go.Proofs.Ytbedkfgdhaajaab
