/- Walks: the document's answer: Draw (P13). -/
import Derived.Test.YtbedkfgdhaajaabRefPlain
import Derived.Test.YtbedkfgdhaajaabRefCover
import Derived.Test.YtbedkfgdhaajaabRefShade
import Derived.Test.YtbedkfgdhaajaabDocDraw
import Derived.Sort.AtCall
namespace Go.Proofs.Ytbedkfgdhaajaab
open Go.RowKit

set_option maxRecDepth 10000 in
set_option maxHeartbeats 1000000 in
theorem rcorner_any (sv : ByteArray) (s : List UInt8) (x : Int) (i : Nat) (w : World) (hs : str s = sv) (hx : x = i) (h : i + 3 < s.length) (hl : s.length ≤ 2000) :
    Calls Try.prog 111 #[.string sv, .int .i64 x] w fun e w' => e = .returned (.agg #[.int .i64 (crn s i), .int .i64 (crn s (i + 2))]) ∧ Below w.heap.size w w' := by
  subst hx
  have HS : Hid (str s = sv) := hs
  have e2 : ((i : Int) + 2) = ((i + 2 : Nat) : Int) := by omega
  have E2 : Hid (((i : Int) + 2) = ((i + 2 : Nat) : Int)) := e2
  have w0 : (wrd s i : Int) ≤ 65535 := by have := wrd_le s i; omega
  have w1 : (wrd s (i + 2) : Int) ≤ 65535 := by have := wrd_le s (i + 2); omega
  clear hs e2
  by_cases h1 : 32768 ≤ wrd s i
  · have e1 : crn s i = (wrd s i : Int) - 65536 := if_pos h1
    have h1' : (32768 : Int) ≤ wrd s i := by omega
    by_cases h2 : 32768 ≤ wrd s (i + 2)
    · have e2 : crn s (i + 2) = (wrd s (i + 2) : Int) - 65536 := if_pos h2
      have h2' : (32768 : Int) ≤ wrd s (i + 2) := by omega
      rw [e1, e2]
      clear e1 e2 h1 h2
      go_enter Try.func111, Try.ntmps111
      go_wp2_with (first | (go_at_call 116; refine (word_of sv s _ i _ HS.out (by omega) (by omega) (by omega)).mono ?_; rintro e w2 ⟨rfl, n2, rfl⟩) | (go_at_call 116; refine (word_of sv s _ (i + 2) _ HS.out E2.out (by omega) (by omega)).mono ?_; rintro e w3 ⟨rfl, n3, rfl⟩))
      refine bodyPost_ret (v := .agg #[.int .i64 ((wrd s i : Int) - 65536), .int .i64 ((wrd s (i + 2) : Int) - 65536)]) (by simp [results, Try.results111, go_sem]) rfl ⟨rfl, ?_⟩
      exact ((belowDrewN ((Below.refl _ _).alloc (Nat.le_refl _) _)).setCell (Nat.le_refl _) _).setCell (Nat.le_refl _) _
    · have e2 : crn s (i + 2) = (wrd s (i + 2) : Int) := if_neg h2
      have h2' : decide ((32768 : Int) ≤ wrd s (i + 2)) = false := decide_eq_false (by omega)
      rw [e1, e2]
      clear e1 e2 h1 h2
      go_enter Try.func111, Try.ntmps111
      go_wp2_with (first | (go_at_call 116; refine (word_of sv s _ i _ HS.out (by omega) (by omega) (by omega)).mono ?_; rintro e w2 ⟨rfl, n2, rfl⟩) | (go_at_call 116; refine (word_of sv s _ (i + 2) _ HS.out E2.out (by omega) (by omega)).mono ?_; rintro e w3 ⟨rfl, n3, rfl⟩))
      refine bodyPost_ret (v := .agg #[.int .i64 ((wrd s i : Int) - 65536), .int .i64 (wrd s (i + 2) : Int)]) (by simp [results, Try.results111, go_sem]) rfl ⟨rfl, ?_⟩
      exact ((belowDrewN ((Below.refl _ _).alloc (Nat.le_refl _) _)).setCell (Nat.le_refl _) _).setCell (Nat.le_refl _) _
  · have e1 : crn s i = (wrd s i : Int) := if_neg h1
    have h1' : decide ((32768 : Int) ≤ wrd s i) = false := decide_eq_false (by omega)
    by_cases h2 : 32768 ≤ wrd s (i + 2)
    · have e2 : crn s (i + 2) = (wrd s (i + 2) : Int) - 65536 := if_pos h2
      have h2' : (32768 : Int) ≤ wrd s (i + 2) := by omega
      rw [e1, e2]
      clear e1 e2 h1 h2
      go_enter Try.func111, Try.ntmps111
      go_wp2_with (first | (go_at_call 116; refine (word_of sv s _ i _ HS.out (by omega) (by omega) (by omega)).mono ?_; rintro e w2 ⟨rfl, n2, rfl⟩) | (go_at_call 116; refine (word_of sv s _ (i + 2) _ HS.out E2.out (by omega) (by omega)).mono ?_; rintro e w3 ⟨rfl, n3, rfl⟩))
      refine bodyPost_ret (v := .agg #[.int .i64 (wrd s i : Int), .int .i64 ((wrd s (i + 2) : Int) - 65536)]) (by simp [results, Try.results111, go_sem]) rfl ⟨rfl, ?_⟩
      exact ((belowDrewN ((Below.refl _ _).alloc (Nat.le_refl _) _)).setCell (Nat.le_refl _) _).setCell (Nat.le_refl _) _
    · have e2 : crn s (i + 2) = (wrd s (i + 2) : Int) := if_neg h2
      have h2' : decide ((32768 : Int) ≤ wrd s (i + 2)) = false := decide_eq_false (by omega)
      rw [e1, e2]
      clear e1 e2 h1 h2
      go_enter Try.func111, Try.ntmps111
      go_wp2_with (first | (go_at_call 116; refine (word_of sv s _ i _ HS.out (by omega) (by omega) (by omega)).mono ?_; rintro e w2 ⟨rfl, n2, rfl⟩) | (go_at_call 116; refine (word_of sv s _ (i + 2) _ HS.out E2.out (by omega) (by omega)).mono ?_; rintro e w3 ⟨rfl, n3, rfl⟩))
      refine bodyPost_ret (v := .agg #[.int .i64 (wrd s i : Int), .int .i64 (wrd s (i + 2) : Int)]) (by simp [results, Try.results111, go_sem]) rfl ⟨rfl, ?_⟩
      exact ((belowDrewN ((Below.refl _ _).alloc (Nat.le_refl _) _)).setCell (Nat.le_refl _) _).setCell (Nat.le_refl _) _

set_option maxRecDepth 4000 in
set_option maxHeartbeats 1000000 in
theorem draw_no1 (b0 : Nat) (s : List UInt8) (R : Rm) (w : World) (hR : RoomAt w b0 0 R) (hk : okR R) (hl : s.length = 17) (h1 : thr R (bn s 1) = false) :
    Calls Try.prog 105 #[.pointer (some ⟨b0, 0, none⟩), .string (str s)] w fun x w' => x = .returned (.tuple #[.int .i64 2, .int .i64 1]) ∧ w' = w := by
  obtain ⟨sv, hsv⟩ : ∃ sv, str s = sv := ⟨_, rfl⟩
  have hz : sv.size = s.length := by rw [← hsv, str_size]
  have HSV : Hid (str s = sv) := hsv
  have HR : Hid (RoomAt w b0 0 R) := hR
  have HK : Hid (okR R) := hk
  have z1 : 1 < sv.size := by omega
  have z2 : 2 < sv.size := by omega
  have z3 : 3 < sv.size := by omega
  have z4 : 4 < sv.size := by omega
  have e1 : (sv[1]'z1).toNat = bn s 1 := by subst hsv; exact str_byte s 1 _
  have e2 : (sv[2]'z2).toNat = bn s 2 := by subst hsv; exact str_byte s 2 _
  have e3 : (sv[3]'z3).toNat = bn s 3 := by subst hsv; exact str_byte s 3 _
  have e4 : (sv[4]'z4).toNat = bn s 4 := by subst hsv; exact str_byte s 4 _
  have c1 : (bn s 1 : Int) ≤ 255 := by have := bn_le s 1; omega
  have c2 : (bn s 2 : Int) ≤ 255 := by have := bn_le s 2; omega
  have c3 : (bn s 3 : Int) ≤ 255 := by have := bn_le s 3; omega
  have c4 : (bn s 4 : Int) ≤ 255 := by have := bn_le s 4; omega
  have n1 : (0 : Int) ≤ bn s 1 := by omega
  have n2 : (0 : Int) ≤ bn s 2 := by omega
  have n3 : (0 : Int) ≤ bn s 3 := by omega
  have HL : Hid (s.length = 17) := hl
  have ql := hR.lt
  rw [hsv]
  clear hR hk hsv hl
  go_enter Try.func105, Try.ntmps105
  go_wp2_with (first | (go_at_call 102; refine (rthere_any b0 0 _ R _ HR.out HK.out).mono ?_; rintro e w1 ⟨rfl, hw1⟩; subst w1))
  go_ret2
  exact ⟨rfl, rfl⟩

set_option maxRecDepth 4000 in
set_option maxHeartbeats 1000000 in
theorem draw_no2 (b0 : Nat) (s : List UInt8) (R : Rm) (w : World) (hR : RoomAt w b0 0 R) (hk : okR R) (hl : s.length = 17) (h1 : thr R (bn s 1) = true) (h2 : 4 ≤ bn s 2) :
    Calls Try.prog 105 #[.pointer (some ⟨b0, 0, none⟩), .string (str s)] w fun x w' => x = .returned (.tuple #[.int .i64 6, .int .i64 1]) ∧ w' = w := by
  obtain ⟨sv, hsv⟩ : ∃ sv, str s = sv := ⟨_, rfl⟩
  have hz : sv.size = s.length := by rw [← hsv, str_size]
  have HSV : Hid (str s = sv) := hsv
  have HR : Hid (RoomAt w b0 0 R) := hR
  have HK : Hid (okR R) := hk
  have z1 : 1 < sv.size := by omega
  have z2 : 2 < sv.size := by omega
  have z3 : 3 < sv.size := by omega
  have z4 : 4 < sv.size := by omega
  have e1 : (sv[1]'z1).toNat = bn s 1 := by subst hsv; exact str_byte s 1 _
  have e2 : (sv[2]'z2).toNat = bn s 2 := by subst hsv; exact str_byte s 2 _
  have e3 : (sv[3]'z3).toNat = bn s 3 := by subst hsv; exact str_byte s 3 _
  have e4 : (sv[4]'z4).toNat = bn s 4 := by subst hsv; exact str_byte s 4 _
  have c1 : (bn s 1 : Int) ≤ 255 := by have := bn_le s 1; omega
  have c2 : (bn s 2 : Int) ≤ 255 := by have := bn_le s 2; omega
  have c3 : (bn s 3 : Int) ≤ 255 := by have := bn_le s 3; omega
  have c4 : (bn s 4 : Int) ≤ 255 := by have := bn_le s 4; omega
  have n1 : (0 : Int) ≤ bn s 1 := by omega
  have n2 : (0 : Int) ≤ bn s 2 := by omega
  have n3 : (0 : Int) ≤ bn s 3 := by omega
  have HL : Hid (s.length = 17) := hl
  have ql := hR.lt
  rw [hsv]
  clear hR hk hsv hl
  have h2' : (4 : Int) ≤ bn s 2 := by omega
  go_enter Try.func105, Try.ntmps105
  go_wp2_with (first | (go_at_call 102; refine (rthere_any b0 0 _ R _ HR.out HK.out).mono ?_; rintro e w1 ⟨rfl, hw1⟩; subst w1))
  go_ret2
  exact ⟨rfl, rfl⟩

set_option maxRecDepth 4000 in
set_option maxHeartbeats 1000000 in
theorem draw_no3 (b0 : Nat) (s : List UInt8) (R : Rm) (w : World) (hR : RoomAt w b0 0 R) (hk : okR R) (hl : s.length = 17) (h1 : thr R (bn s 1) = true) (h2 : ¬ 4 ≤ bn s 2) (h3 : R.has (bn s 2) = false) :
    Calls Try.prog 105 #[.pointer (some ⟨b0, 0, none⟩), .string (str s)] w fun x w' => x = .returned (.tuple #[.int .i64 6, .int .i64 1]) ∧ w' = w := by
  obtain ⟨sv, hsv⟩ : ∃ sv, str s = sv := ⟨_, rfl⟩
  have hz : sv.size = s.length := by rw [← hsv, str_size]
  have HSV : Hid (str s = sv) := hsv
  have HR : Hid (RoomAt w b0 0 R) := hR
  have HK : Hid (okR R) := hk
  have z1 : 1 < sv.size := by omega
  have z2 : 2 < sv.size := by omega
  have z3 : 3 < sv.size := by omega
  have z4 : 4 < sv.size := by omega
  have e1 : (sv[1]'z1).toNat = bn s 1 := by subst hsv; exact str_byte s 1 _
  have e2 : (sv[2]'z2).toNat = bn s 2 := by subst hsv; exact str_byte s 2 _
  have e3 : (sv[3]'z3).toNat = bn s 3 := by subst hsv; exact str_byte s 3 _
  have e4 : (sv[4]'z4).toNat = bn s 4 := by subst hsv; exact str_byte s 4 _
  have c1 : (bn s 1 : Int) ≤ 255 := by have := bn_le s 1; omega
  have c2 : (bn s 2 : Int) ≤ 255 := by have := bn_le s 2; omega
  have c3 : (bn s 3 : Int) ≤ 255 := by have := bn_le s 3; omega
  have c4 : (bn s 4 : Int) ≤ 255 := by have := bn_le s 4; omega
  have n1 : (0 : Int) ≤ bn s 1 := by omega
  have n2 : (0 : Int) ≤ bn s 2 := by omega
  have n3 : (0 : Int) ≤ bn s 3 := by omega
  have HL : Hid (s.length = 17) := hl
  have ql := hR.lt
  rw [hsv]
  clear hR hk hsv hl
  have h2' : ¬ (4 : Int) ≤ bn s 2 := by omega
  have h2'' : (bn s 2 : Int) < 4 := by omega
  have q := HR.out.has (bn s 2) (by omega)
  rw [Nat.zero_add] at q
  go_enter Try.func105, Try.ntmps105
  go_wp2_with (first | (go_at_call 102; refine (rthere_any b0 0 _ R _ HR.out HK.out).mono ?_; rintro e w1 ⟨rfl, hw1⟩; subst w1))
  go_ret2
  exact ⟨rfl, rfl⟩

set_option maxRecDepth 4000 in
set_option maxHeartbeats 1000000 in
theorem draw_no4 (b0 : Nat) (s : List UInt8) (R : Rm) (w : World) (hR : RoomAt w b0 0 R) (hk : okR R) (hl : s.length = 17) (h1 : thr R (bn s 1) = true) (h2 : ¬ 4 ≤ bn s 2) (h3 : R.has (bn s 2) = true) (h4 : thr R (bn s 3) = false) :
    Calls Try.prog 105 #[.pointer (some ⟨b0, 0, none⟩), .string (str s)] w fun x w' => x = .returned (.tuple #[.int .i64 2, .int .i64 1]) ∧ w' = w := by
  obtain ⟨sv, hsv⟩ : ∃ sv, str s = sv := ⟨_, rfl⟩
  have hz : sv.size = s.length := by rw [← hsv, str_size]
  have HSV : Hid (str s = sv) := hsv
  have HR : Hid (RoomAt w b0 0 R) := hR
  have HK : Hid (okR R) := hk
  have z1 : 1 < sv.size := by omega
  have z2 : 2 < sv.size := by omega
  have z3 : 3 < sv.size := by omega
  have z4 : 4 < sv.size := by omega
  have e1 : (sv[1]'z1).toNat = bn s 1 := by subst hsv; exact str_byte s 1 _
  have e2 : (sv[2]'z2).toNat = bn s 2 := by subst hsv; exact str_byte s 2 _
  have e3 : (sv[3]'z3).toNat = bn s 3 := by subst hsv; exact str_byte s 3 _
  have e4 : (sv[4]'z4).toNat = bn s 4 := by subst hsv; exact str_byte s 4 _
  have c1 : (bn s 1 : Int) ≤ 255 := by have := bn_le s 1; omega
  have c2 : (bn s 2 : Int) ≤ 255 := by have := bn_le s 2; omega
  have c3 : (bn s 3 : Int) ≤ 255 := by have := bn_le s 3; omega
  have c4 : (bn s 4 : Int) ≤ 255 := by have := bn_le s 4; omega
  have n1 : (0 : Int) ≤ bn s 1 := by omega
  have n2 : (0 : Int) ≤ bn s 2 := by omega
  have n3 : (0 : Int) ≤ bn s 3 := by omega
  have HL : Hid (s.length = 17) := hl
  have ql := hR.lt
  rw [hsv]
  clear hR hk hsv hl
  have h2' : ¬ (4 : Int) ≤ bn s 2 := by omega
  have h2'' : (bn s 2 : Int) < 4 := by omega
  have q := HR.out.has (bn s 2) (by omega)
  rw [Nat.zero_add] at q
  go_enter Try.func105, Try.ntmps105
  go_wp2_with (first | (go_at_call 102; refine (rthere_any b0 0 _ R _ HR.out HK.out).mono ?_; rintro e w1 ⟨rfl, hw1⟩; subst w1))
  go_ret2
  exact ⟨rfl, rfl⟩

/-- a point lies at block p -/
structure Pt2 (W : World) (p : Nat) (x y : Int) : Prop where
  c0 : W.cell? ⟨p, 0, none⟩ = some (.int .i64 x)
  c1 : W.cell? ⟨p, 1, none⟩ = some (.int .i64 y)
  lt : p < W.heap.size

theorem Pt2.made (W : World) (t : TypeId) (x y : Int) : Pt2 (W.alloc (.cells #[.int .i64 x, .int .i64 y] t)) W.heap.size x y :=
  ⟨by rw [World.cell?_alloc_at _ _ _ _ rfl]; rfl, by rw [World.cell?_alloc_at _ _ _ _ rfl]; rfl, by simp⟩
theorem Pt2.only {F : Nat → Prop} {W W' : World} {p : Nat} {x y : Int} (h : Pt2 W p x y) (ho : Only F W W') (hn : ¬ F p) : Pt2 W' p x y :=
  ⟨(ho.cell h.lt hn 0).trans h.c0, (ho.cell h.lt hn 1).trans h.c1, Nat.lt_of_lt_of_le h.lt ho.size⟩
theorem Pt2.below {W W' : World} {p : Nat} {x y : Int} (h : Pt2 W p x y) (hb : Below W.heap.size W W') : Pt2 W' p x y := h.only (F := fun _ => False) (Only.of_below hb) id
theorem Pt2.alloc {W : World} {p : Nat} {x y : Int} (h : Pt2 W p x y) (o : Obj) : Pt2 (W.alloc o) p x y := h.below ((Below.refl _ _).alloc (Nat.le_refl _) o)

set_option maxRecDepth 8000 in
set_option maxHeartbeats 2000000 in
theorem draw_far1 (b0 : Nat) (s : List UInt8) (R : Rm) (w : World) (hR : RoomAt w b0 0 R) (hk : okR R) (hl : s.length = 17) (h1 : thr R (bn s 1) = true) (h2 : ¬ 4 ≤ bn s 2) (h3 : R.has (bn s 2) = true) (h4 : thr R (bn s 3) = true) (g1 : near (crn s 5) (crn s 7) = false) :
    Calls Try.prog 105 #[.pointer (some ⟨b0, 0, none⟩), .string (str s)] w fun x w' => x = .returned (.tuple #[.int .i64 8, .int .i64 1]) ∧ Below w.heap.size w w' := by
  obtain ⟨sv, hsv⟩ : ∃ sv, str s = sv := ⟨_, rfl⟩
  have hz : sv.size = s.length := by rw [← hsv, str_size]
  have HSV : Hid (str s = sv) := hsv
  have HR : Hid (RoomAt w b0 0 R) := hR
  have HK : Hid (okR R) := hk
  have z1 : 1 < sv.size := by omega
  have z2 : 2 < sv.size := by omega
  have z3 : 3 < sv.size := by omega
  have z4 : 4 < sv.size := by omega
  have e1 : (sv[1]'z1).toNat = bn s 1 := by subst hsv; exact str_byte s 1 _
  have e2 : (sv[2]'z2).toNat = bn s 2 := by subst hsv; exact str_byte s 2 _
  have e3 : (sv[3]'z3).toNat = bn s 3 := by subst hsv; exact str_byte s 3 _
  have e4 : (sv[4]'z4).toNat = bn s 4 := by subst hsv; exact str_byte s 4 _
  have c1 : (bn s 1 : Int) ≤ 255 := by have := bn_le s 1; omega
  have c2 : (bn s 2 : Int) ≤ 255 := by have := bn_le s 2; omega
  have c3 : (bn s 3 : Int) ≤ 255 := by have := bn_le s 3; omega
  have c4 : (bn s 4 : Int) ≤ 255 := by have := bn_le s 4; omega
  have n1 : (0 : Int) ≤ bn s 1 := by omega
  have n2 : (0 : Int) ≤ bn s 2 := by omega
  have n3 : (0 : Int) ≤ bn s 3 := by omega
  have HL : Hid (s.length = 17) := hl
  have ql := hR.lt
  rw [hsv]
  clear hR hk hsv hl
  have h2' : ¬ (4 : Int) ≤ bn s 2 := by omega
  have h2'' : (bn s 2 : Int) < 4 := by omega
  have q := HR.out.has (bn s 2) (by omega)
  rw [Nat.zero_add] at q
  go_enter Try.func105, Try.ntmps105
  go_wp2_with (first | (go_at_call 102; refine (rthere_any b0 0 _ R _ HR.out HK.out).mono ?_; rintro e w1 ⟨rfl, hw1⟩; subst w1) | (go_at_call 111; refine (rcorner_any sv s _ 5 _ HSV.out (by omega) (by have := HL.out; omega) (by have := HL.out; omega)).mono ?_; rintro e w1 ⟨rfl, hb1⟩; have B1 : Hid (Below w.heap.size w w1) := hb1; have z1' := hb1.size; clear hb1) | (go_at_call 111; refine (rcorner_any sv s _ 9 _ HSV.out (by omega) (by have := HL.out; omega) (by have := HL.out; omega)).mono ?_; rintro e w2 ⟨rfl, hb2⟩; have pa := (Pt2.made w1 48 (crn s 5) (crn s 7)).below hb2; have PA2 : Hid (Pt2 w2 w1.heap.size (crn s 5) (crn s 7)) := pa; have B2 : Hid (Below w.heap.size w w2) := (B1.out.alloc z1' _).trans (hb2.mono (by simp; omega)); have z2' := pa.lt; clear hb2 pa) | (go_at_call 111; refine (rcorner_any sv s _ 13 _ HSV.out (by omega) (by have := HL.out; omega) (by have := HL.out; omega)).mono ?_; rintro e w3 ⟨rfl, hb3⟩; have pb := (Pt2.made w2 48 (crn s 9) (crn s 11)).below hb3; have PA3 : Hid (Pt2 w3 w1.heap.size (crn s 5) (crn s 7)) := (PA2.out.alloc _).below hb3; have PB3 : Hid (Pt2 w3 w2.heap.size (crn s 9) (crn s 11)) := pb; have B3 : Hid (Below w.heap.size w w3) := (B2.out.alloc (by omega) _).trans (hb3.mono (by simp; omega)); have z3' := pb.lt; have a30 := PA3.out.c0; have a31 := PA3.out.c1; have zA3 := PA3.out.lt; clear hb3 pb) | (go_at_call_has 112 (crn s 5); refine (far_any _ _ _).mono ?_; rintro e w4 ⟨rfl, hb4⟩; have pc := (Pt2.made w3 48 (crn s 13) (crn s 15)).below hb4; have PA4 : Hid (Pt2 w4 w1.heap.size (crn s 5) (crn s 7)) := (PA3.out.alloc _).below hb4; have PB4 : Hid (Pt2 w4 w2.heap.size (crn s 9) (crn s 11)) := (PB3.out.alloc _).below hb4; have PC4 : Hid (Pt2 w4 w3.heap.size (crn s 13) (crn s 15)) := pc; have B4 : Hid (Below w.heap.size w w4) := (B3.out.alloc (by omega) _).trans (hb4.mono (by simp; omega)); have z4' := pc.lt; have b40 := PB4.out.c0; have b41 := PB4.out.c1; clear hb4 pc) | (go_at_call_has 112 (crn s 9); refine (far_any _ _ _).mono ?_; rintro e w5 ⟨rfl, hb5⟩; have pc := PC4.out.below hb5; have PA5 : Hid (Pt2 w5 w1.heap.size (crn s 5) (crn s 7)) := PA4.out.below hb5; have PB5 : Hid (Pt2 w5 w2.heap.size (crn s 9) (crn s 11)) := PB4.out.below hb5; have PC5 : Hid (Pt2 w5 w3.heap.size (crn s 13) (crn s 15)) := pc; have B5 : Hid (Below w.heap.size w w5) := B4.out.trans (hb5.mono (by omega)); have z5' := pc.lt; have c50 := pc.c0; have c51 := pc.c1; clear hb5 pc) | (go_at_call_has 112 (crn s 13); refine (far_any _ _ _).mono ?_; rintro e w6 ⟨rfl, hb6⟩; have pc := PC5.out.below hb6; have PA6 : Hid (Pt2 w6 w1.heap.size (crn s 5) (crn s 7)) := PA5.out.below hb6; have PB6 : Hid (Pt2 w6 w2.heap.size (crn s 9) (crn s 11)) := PB5.out.below hb6; have PC6 : Hid (Pt2 w6 w3.heap.size (crn s 13) (crn s 15)) := pc; have B6 : Hid (Below w.heap.size w w6) := B5.out.trans (hb6.mono (by omega)); have z6' := pc.lt; clear hb6 pc))
  go_ret2
  exact ⟨rfl, B6.out⟩

set_option maxRecDepth 8000 in
set_option maxHeartbeats 2000000 in
theorem draw_far2 (b0 : Nat) (s : List UInt8) (R : Rm) (w : World) (hR : RoomAt w b0 0 R) (hk : okR R) (hl : s.length = 17) (h1 : thr R (bn s 1) = true) (h2 : ¬ 4 ≤ bn s 2) (h3 : R.has (bn s 2) = true) (h4 : thr R (bn s 3) = true) (g1 : near (crn s 5) (crn s 7) = true) (g2 : near (crn s 9) (crn s 11) = false) :
    Calls Try.prog 105 #[.pointer (some ⟨b0, 0, none⟩), .string (str s)] w fun x w' => x = .returned (.tuple #[.int .i64 8, .int .i64 1]) ∧ Below w.heap.size w w' := by
  obtain ⟨sv, hsv⟩ : ∃ sv, str s = sv := ⟨_, rfl⟩
  have hz : sv.size = s.length := by rw [← hsv, str_size]
  have HSV : Hid (str s = sv) := hsv
  have HR : Hid (RoomAt w b0 0 R) := hR
  have HK : Hid (okR R) := hk
  have z1 : 1 < sv.size := by omega
  have z2 : 2 < sv.size := by omega
  have z3 : 3 < sv.size := by omega
  have z4 : 4 < sv.size := by omega
  have e1 : (sv[1]'z1).toNat = bn s 1 := by subst hsv; exact str_byte s 1 _
  have e2 : (sv[2]'z2).toNat = bn s 2 := by subst hsv; exact str_byte s 2 _
  have e3 : (sv[3]'z3).toNat = bn s 3 := by subst hsv; exact str_byte s 3 _
  have e4 : (sv[4]'z4).toNat = bn s 4 := by subst hsv; exact str_byte s 4 _
  have c1 : (bn s 1 : Int) ≤ 255 := by have := bn_le s 1; omega
  have c2 : (bn s 2 : Int) ≤ 255 := by have := bn_le s 2; omega
  have c3 : (bn s 3 : Int) ≤ 255 := by have := bn_le s 3; omega
  have c4 : (bn s 4 : Int) ≤ 255 := by have := bn_le s 4; omega
  have n1 : (0 : Int) ≤ bn s 1 := by omega
  have n2 : (0 : Int) ≤ bn s 2 := by omega
  have n3 : (0 : Int) ≤ bn s 3 := by omega
  have HL : Hid (s.length = 17) := hl
  have ql := hR.lt
  rw [hsv]
  clear hR hk hsv hl
  have h2' : ¬ (4 : Int) ≤ bn s 2 := by omega
  have h2'' : (bn s 2 : Int) < 4 := by omega
  have q := HR.out.has (bn s 2) (by omega)
  rw [Nat.zero_add] at q
  go_enter Try.func105, Try.ntmps105
  go_wp2_with (first | (go_at_call 102; refine (rthere_any b0 0 _ R _ HR.out HK.out).mono ?_; rintro e w1 ⟨rfl, hw1⟩; subst w1) | (go_at_call 111; refine (rcorner_any sv s _ 5 _ HSV.out (by omega) (by have := HL.out; omega) (by have := HL.out; omega)).mono ?_; rintro e w1 ⟨rfl, hb1⟩; have B1 : Hid (Below w.heap.size w w1) := hb1; have z1' := hb1.size; clear hb1) | (go_at_call 111; refine (rcorner_any sv s _ 9 _ HSV.out (by omega) (by have := HL.out; omega) (by have := HL.out; omega)).mono ?_; rintro e w2 ⟨rfl, hb2⟩; have pa := (Pt2.made w1 48 (crn s 5) (crn s 7)).below hb2; have PA2 : Hid (Pt2 w2 w1.heap.size (crn s 5) (crn s 7)) := pa; have B2 : Hid (Below w.heap.size w w2) := (B1.out.alloc z1' _).trans (hb2.mono (by simp; omega)); have z2' := pa.lt; clear hb2 pa) | (go_at_call 111; refine (rcorner_any sv s _ 13 _ HSV.out (by omega) (by have := HL.out; omega) (by have := HL.out; omega)).mono ?_; rintro e w3 ⟨rfl, hb3⟩; have pb := (Pt2.made w2 48 (crn s 9) (crn s 11)).below hb3; have PA3 : Hid (Pt2 w3 w1.heap.size (crn s 5) (crn s 7)) := (PA2.out.alloc _).below hb3; have PB3 : Hid (Pt2 w3 w2.heap.size (crn s 9) (crn s 11)) := pb; have B3 : Hid (Below w.heap.size w w3) := (B2.out.alloc (by omega) _).trans (hb3.mono (by simp; omega)); have z3' := pb.lt; have a30 := PA3.out.c0; have a31 := PA3.out.c1; have zA3 := PA3.out.lt; clear hb3 pb) | (go_at_call_has 112 (crn s 5); refine (far_any _ _ _).mono ?_; rintro e w4 ⟨rfl, hb4⟩; have pc := (Pt2.made w3 48 (crn s 13) (crn s 15)).below hb4; have PA4 : Hid (Pt2 w4 w1.heap.size (crn s 5) (crn s 7)) := (PA3.out.alloc _).below hb4; have PB4 : Hid (Pt2 w4 w2.heap.size (crn s 9) (crn s 11)) := (PB3.out.alloc _).below hb4; have PC4 : Hid (Pt2 w4 w3.heap.size (crn s 13) (crn s 15)) := pc; have B4 : Hid (Below w.heap.size w w4) := (B3.out.alloc (by omega) _).trans (hb4.mono (by simp; omega)); have z4' := pc.lt; have b40 := PB4.out.c0; have b41 := PB4.out.c1; clear hb4 pc) | (go_at_call_has 112 (crn s 9); refine (far_any _ _ _).mono ?_; rintro e w5 ⟨rfl, hb5⟩; have pc := PC4.out.below hb5; have PA5 : Hid (Pt2 w5 w1.heap.size (crn s 5) (crn s 7)) := PA4.out.below hb5; have PB5 : Hid (Pt2 w5 w2.heap.size (crn s 9) (crn s 11)) := PB4.out.below hb5; have PC5 : Hid (Pt2 w5 w3.heap.size (crn s 13) (crn s 15)) := pc; have B5 : Hid (Below w.heap.size w w5) := B4.out.trans (hb5.mono (by omega)); have z5' := pc.lt; have c50 := pc.c0; have c51 := pc.c1; clear hb5 pc) | (go_at_call_has 112 (crn s 13); refine (far_any _ _ _).mono ?_; rintro e w6 ⟨rfl, hb6⟩; have pc := PC5.out.below hb6; have PA6 : Hid (Pt2 w6 w1.heap.size (crn s 5) (crn s 7)) := PA5.out.below hb6; have PB6 : Hid (Pt2 w6 w2.heap.size (crn s 9) (crn s 11)) := PB5.out.below hb6; have PC6 : Hid (Pt2 w6 w3.heap.size (crn s 13) (crn s 15)) := pc; have B6 : Hid (Below w.heap.size w w6) := B5.out.trans (hb6.mono (by omega)); have z6' := pc.lt; clear hb6 pc))
  go_ret2
  exact ⟨rfl, B6.out⟩

set_option maxRecDepth 8000 in
set_option maxHeartbeats 2000000 in
theorem draw_far3 (b0 : Nat) (s : List UInt8) (R : Rm) (w : World) (hR : RoomAt w b0 0 R) (hk : okR R) (hl : s.length = 17) (h1 : thr R (bn s 1) = true) (h2 : ¬ 4 ≤ bn s 2) (h3 : R.has (bn s 2) = true) (h4 : thr R (bn s 3) = true) (g1 : near (crn s 5) (crn s 7) = true) (g2 : near (crn s 9) (crn s 11) = true) (g3 : near (crn s 13) (crn s 15) = false) :
    Calls Try.prog 105 #[.pointer (some ⟨b0, 0, none⟩), .string (str s)] w fun x w' => x = .returned (.tuple #[.int .i64 8, .int .i64 1]) ∧ Below w.heap.size w w' := by
  obtain ⟨sv, hsv⟩ : ∃ sv, str s = sv := ⟨_, rfl⟩
  have hz : sv.size = s.length := by rw [← hsv, str_size]
  have HSV : Hid (str s = sv) := hsv
  have HR : Hid (RoomAt w b0 0 R) := hR
  have HK : Hid (okR R) := hk
  have z1 : 1 < sv.size := by omega
  have z2 : 2 < sv.size := by omega
  have z3 : 3 < sv.size := by omega
  have z4 : 4 < sv.size := by omega
  have e1 : (sv[1]'z1).toNat = bn s 1 := by subst hsv; exact str_byte s 1 _
  have e2 : (sv[2]'z2).toNat = bn s 2 := by subst hsv; exact str_byte s 2 _
  have e3 : (sv[3]'z3).toNat = bn s 3 := by subst hsv; exact str_byte s 3 _
  have e4 : (sv[4]'z4).toNat = bn s 4 := by subst hsv; exact str_byte s 4 _
  have c1 : (bn s 1 : Int) ≤ 255 := by have := bn_le s 1; omega
  have c2 : (bn s 2 : Int) ≤ 255 := by have := bn_le s 2; omega
  have c3 : (bn s 3 : Int) ≤ 255 := by have := bn_le s 3; omega
  have c4 : (bn s 4 : Int) ≤ 255 := by have := bn_le s 4; omega
  have n1 : (0 : Int) ≤ bn s 1 := by omega
  have n2 : (0 : Int) ≤ bn s 2 := by omega
  have n3 : (0 : Int) ≤ bn s 3 := by omega
  have HL : Hid (s.length = 17) := hl
  have ql := hR.lt
  rw [hsv]
  clear hR hk hsv hl
  have h2' : ¬ (4 : Int) ≤ bn s 2 := by omega
  have h2'' : (bn s 2 : Int) < 4 := by omega
  have q := HR.out.has (bn s 2) (by omega)
  rw [Nat.zero_add] at q
  go_enter Try.func105, Try.ntmps105
  go_wp2_with (first | (go_at_call 102; refine (rthere_any b0 0 _ R _ HR.out HK.out).mono ?_; rintro e w1 ⟨rfl, hw1⟩; subst w1) | (go_at_call 111; refine (rcorner_any sv s _ 5 _ HSV.out (by omega) (by have := HL.out; omega) (by have := HL.out; omega)).mono ?_; rintro e w1 ⟨rfl, hb1⟩; have B1 : Hid (Below w.heap.size w w1) := hb1; have z1' := hb1.size; clear hb1) | (go_at_call 111; refine (rcorner_any sv s _ 9 _ HSV.out (by omega) (by have := HL.out; omega) (by have := HL.out; omega)).mono ?_; rintro e w2 ⟨rfl, hb2⟩; have pa := (Pt2.made w1 48 (crn s 5) (crn s 7)).below hb2; have PA2 : Hid (Pt2 w2 w1.heap.size (crn s 5) (crn s 7)) := pa; have B2 : Hid (Below w.heap.size w w2) := (B1.out.alloc z1' _).trans (hb2.mono (by simp; omega)); have z2' := pa.lt; clear hb2 pa) | (go_at_call 111; refine (rcorner_any sv s _ 13 _ HSV.out (by omega) (by have := HL.out; omega) (by have := HL.out; omega)).mono ?_; rintro e w3 ⟨rfl, hb3⟩; have pb := (Pt2.made w2 48 (crn s 9) (crn s 11)).below hb3; have PA3 : Hid (Pt2 w3 w1.heap.size (crn s 5) (crn s 7)) := (PA2.out.alloc _).below hb3; have PB3 : Hid (Pt2 w3 w2.heap.size (crn s 9) (crn s 11)) := pb; have B3 : Hid (Below w.heap.size w w3) := (B2.out.alloc (by omega) _).trans (hb3.mono (by simp; omega)); have z3' := pb.lt; have a30 := PA3.out.c0; have a31 := PA3.out.c1; have zA3 := PA3.out.lt; clear hb3 pb) | (go_at_call_has 112 (crn s 5); refine (far_any _ _ _).mono ?_; rintro e w4 ⟨rfl, hb4⟩; have pc := (Pt2.made w3 48 (crn s 13) (crn s 15)).below hb4; have PA4 : Hid (Pt2 w4 w1.heap.size (crn s 5) (crn s 7)) := (PA3.out.alloc _).below hb4; have PB4 : Hid (Pt2 w4 w2.heap.size (crn s 9) (crn s 11)) := (PB3.out.alloc _).below hb4; have PC4 : Hid (Pt2 w4 w3.heap.size (crn s 13) (crn s 15)) := pc; have B4 : Hid (Below w.heap.size w w4) := (B3.out.alloc (by omega) _).trans (hb4.mono (by simp; omega)); have z4' := pc.lt; have b40 := PB4.out.c0; have b41 := PB4.out.c1; clear hb4 pc) | (go_at_call_has 112 (crn s 9); refine (far_any _ _ _).mono ?_; rintro e w5 ⟨rfl, hb5⟩; have pc := PC4.out.below hb5; have PA5 : Hid (Pt2 w5 w1.heap.size (crn s 5) (crn s 7)) := PA4.out.below hb5; have PB5 : Hid (Pt2 w5 w2.heap.size (crn s 9) (crn s 11)) := PB4.out.below hb5; have PC5 : Hid (Pt2 w5 w3.heap.size (crn s 13) (crn s 15)) := pc; have B5 : Hid (Below w.heap.size w w5) := B4.out.trans (hb5.mono (by omega)); have z5' := pc.lt; have c50 := pc.c0; have c51 := pc.c1; clear hb5 pc) | (go_at_call_has 112 (crn s 13); refine (far_any _ _ _).mono ?_; rintro e w6 ⟨rfl, hb6⟩; have pc := PC5.out.below hb6; have PA6 : Hid (Pt2 w6 w1.heap.size (crn s 5) (crn s 7)) := PA5.out.below hb6; have PB6 : Hid (Pt2 w6 w2.heap.size (crn s 9) (crn s 11)) := PB5.out.below hb6; have PC6 : Hid (Pt2 w6 w3.heap.size (crn s 13) (crn s 15)) := pc; have B6 : Hid (Below w.heap.size w w6) := B5.out.trans (hb6.mono (by omega)); have z6' := pc.lt; clear hb6 pc))
  go_ret2
  exact ⟨rfl, B6.out⟩

end Go.Proofs.Ytbedkfgdhaajaab
