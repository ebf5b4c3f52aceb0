/- Walks: the document's answer: Drop, Write, Read, Clear (P10, P11). -/
import Derived.Test.YtbedkfgdhaajaabRefDoes
namespace Go.Proofs.Ytbedkfgdhaajaab
open Go.RowKit

theorem str_extract (l : List UInt8) (a b : Nat) (h : b ≤ l.length) : (str l).extract a b = str ((l.take b).drop a) := by
  unfold str
  apply ByteArray.ext
  rw [ByteArray.data_extract]
  apply Array.ext'
  simp only [Array.toList_extract, List.take_drop]
  by_cases hab : a ≤ b
  · rw [Nat.add_sub_cancel' hab]
  · rw [List.drop_eq_nil_of_le (by rw [List.length_take]; omega), List.drop_eq_nil_of_le (by rw [List.length_take]; omega)]

theorem word_of (sv : ByteArray) (s : List UInt8) (x : Int) (i : Nat) (w : World) (hs : str s = sv) (hx : x = i) (h : i + 1 < s.length) (hl : s.length ≤ 2000) :
    Calls Try.prog 116 #[.string sv, .int .i64 x] w fun e w' => e = .returned (.int .i64 (wrd s i)) ∧ ∃ n, w' = w.drewN n := by
  subst hs hx; exact word_any s i w h hl

theorem rwrite_of (b h a : Nat) (x y : Int) (s : List UInt8) (sv : ByteArray) (R : Rm) (w : World) (hx : x = h) (hy : y = a) (hsv : str s = sv) (hR : RoomAt w b 0 R) (h8 : h < 8) (hb : (R.bs h).length ≤ 576) (ha : a ≤ 70000) (hs : s.length ≤ 2000) :
    Calls Try.prog 115 #[.pointer (some ⟨b, 0, none⟩), .int .i64 x, .int .i64 y, .string sv] w fun e w' => e = .returned (.tuple #[]) ∧ RGoes b 0 w w' (rBytes R h (wrt (R.bs h) a s)) := by
  subst hx hy hsv; exact rwrite_any b h a s R w hR h8 hb ha hs

theorem RoomAt.drewN {W : World} {b o : Nat} {R : Rm} (h : RoomAt W b o R) (n : Nat) : RoomAt (W.drewN n) b o R := h.only (H := fun _ => False) ((Only.refl _ _).drewN n) id
theorem RGoes.of_drewN {b o n : Nat} {w w' : World} {R : Rm} (h : RGoes b o (w.drewN n) w' R) : RGoes b o w w' R := ⟨⟨h.1.os, h.1.tape, h.1.output, h.1.size, h.1.block⟩, h.2⟩
theorem RGoes.drewN {b o n : Nat} {w w' : World} {R : Rm} (h : RGoes b o w w' R) : RGoes b o w (w'.drewN n) R := ⟨h.1.drewN n, h.2.drewN n⟩
theorem RGoes.drew {b o : Nat} {w w' : World} {R : Rm} (h : RGoes b o w w' R) : RGoes b o w w'.drew R := ⟨h.1.drew, h.2.drewN 1⟩
theorem below_drewN' {B n : Nat} {a w : World} (h : Below B (a.drewN n) w) : Below B a w := ⟨h.os, h.tape, h.output, h.size, h.block⟩
theorem belowDrewN {B n : Nat} {a w : World} (h : Below B a w) : Below B a (w.drewN n) := ⟨h.os, h.tape, h.output, h.size, h.block⟩

theorem wrap_byte (l : List UInt8) (k : Nat) : IntKind.i64.wrap (bn l k : Int) = bn l k := by
  have := bn_le l k
  rw [IntKind.wrap_i64]; omega

theorem tupS {a c : ByteArray} {b d : Int} (h : a = c) (k : b = d) : Ending.returned (.tuple #[.string a, .int .i64 b]) = .returned (.tuple #[.string c, .int .i64 d]) := by rw [h, k]

set_option maxRecDepth 4000 in
set_option maxHeartbeats 1000000 in
theorem pln_drop (b0 : Nat) (s : List UInt8) (R : Rm) (w : World) (hR : RoomAt w b0 0 R) (hk : okR R) (h0 : bn s 0 = 2) (hl : s.length = 2) (h8 : bn s 1 < 8) :
    Calls Try.prog 106 #[.pointer (some ⟨b0, 0, none⟩), .string (str s)] w fun x w' => x = .returned (.tuple #[.string (str []), .int .i64 1]) ∧ RGoes b0 0 w w' (rDrop R (bn s 1)) := by
  have q7 := hR.wd _ h8
  rw [Nat.zero_add] at q7
  have q8 := hR.fz
  obtain ⟨sv, hsv⟩ : ∃ sv, str s = sv := ⟨_, rfl⟩
  have hz : sv.size = s.length := by rw [← hsv, str_size]
  have HSV : Hid (str s = sv) := hsv
  have HR : Hid (RoomAt w b0 0 R) := hR
  have HK : Hid (okR R) := hk
  have z0 : 0 < sv.size := by omega
  have z1 : 1 < sv.size := by omega
  have e0 : (sv[0]'z0).toNat = 2 := by rw [← h0]; subst hsv; exact str_byte s 0 _
  have e1 : (sv[1]'z1).toNat = bn s 1 := by subst hsv; exact str_byte s 1 _
  have c1 : (bn s 1 : Int) ≤ 255 := by have := bn_le s 1; omega
  have q := hR.bs _ h8
  rw [Nat.zero_add] at q
  have ql := hR.lt
  have n0 : (0 : Int) ≤ bn s 1 := by omega
  have n8 : (bn s 1 : Int) < 8 := by omega
  have esz := str_size (R.bs (bn s 1))
  rw [hsv]
  clear hR hk hsv
  go_enter Try.func106, Try.ntmps106
  go_wp2
  go_ret2
  have g1 := (HR.out.setWd (k := bn s 1) h8 0).setBs (k := bn s 1) h8 []
  rw [Nat.zero_add] at g1
  exact ⟨rfl, ((Only.refl (fun x => x = b0) w).setCell (p := ⟨b0, bn s 1 * 2, none⟩) (.inl rfl) _).setCell (p := ⟨b0, bn s 1 * 2 + 1, none⟩) (.inl rfl) _, g1⟩

set_option maxRecDepth 4000 in
set_option maxHeartbeats 1000000 in
theorem pln_write (b0 : Nat) (s : List UInt8) (R : Rm) (w : World) (hR : RoomAt w b0 0 R) (hk : okR R) (h0 : bn s 0 = 3) (hl : s.length = 5 + bn s 4) (h8 : bn s 1 < 8) :
    Calls Try.prog 106 #[.pointer (some ⟨b0, 0, none⟩), .string (str s)] w fun x w' => x = .returned (.tuple #[.string (str []), .int .i64 (1 + (bn s 4 : Int))]) ∧ RGoes b0 0 w w' (rBytes R (bn s 1) (wrt (R.bs (bn s 1)) (wrd s 2) (s.drop 5))) := by
  obtain ⟨sv, hsv⟩ : ∃ sv, str s = sv := ⟨_, rfl⟩
  have hz : sv.size = s.length := by rw [← hsv, str_size]
  have HSV : Hid (str s = sv) := hsv
  have HR : Hid (RoomAt w b0 0 R) := hR
  have HK : Hid (okR R) := hk
  have z0 : 0 < sv.size := by omega
  have z1 : 1 < sv.size := by omega
  have e0 : (sv[0]'z0).toNat = 3 := by rw [← h0]; subst hsv; exact str_byte s 0 _
  have e1 : (sv[1]'z1).toNat = bn s 1 := by subst hsv; exact str_byte s 1 _
  have c1 : (bn s 1 : Int) ≤ 255 := by have := bn_le s 1; omega
  have b4 := bn_le s 4
  have z4 : 4 < sv.size := by omega
  have e4 : (sv[4]'z4).toNat = bn s 4 := by subst hsv; exact str_byte s 4 _
  have c4 : (bn s 4 : Int) ≤ 255 := by omega
  have hx5 : (5 : Int) ≤ sv.size := by omega
  have w4 := wrap_byte s 4
  have q := hR.bs _ h8
  rw [Nat.zero_add] at q
  have ql := hR.lt
  have n0 : (0 : Int) ≤ bn s 1 := by omega
  have n8 : (bn s 1 : Int) < 8 := by omega
  have esz := str_size (R.bs (bn s 1))
  rw [hsv]
  clear hR hk hsv
  go_enter Try.func106, Try.ntmps106
  go_wp2
  go_region_with (first | (go_at_call 116; refine (word_of sv s _ 2 _ HSV.out (by rfl) (by omega) (by omega)).mono ?_; rintro e w2 ⟨rfl, n2, rfl⟩) | (go_at_call 115; refine (rwrite_of b0 (bn s 1) (wrd s 2) _ _ (s.drop 5) _ R _ rfl rfl (by rw [← HSV.out, str_extract _ _ _ (by omega), ← hl, List.take_length]) (HR.out.drewN _) h8 (HK.out.len _ h8) (by have := wrd_le s 2; omega) (by rw [List.length_drop]; omega)).mono ?_; rintro e w3 ⟨rfl, hg3⟩; have G3 : Hid _ := hg3; clear hg3))
  all_goals
    go_wp2
    go_quiet (fail)
    go_wp2
    go_ret2
    exact ⟨rfl, (RGoes.of_drewN G3.out).drewN⟩

set_option maxRecDepth 4000 in
set_option maxHeartbeats 1000000 in
theorem pln_read (b0 : Nat) (s : List UInt8) (R : Rm) (w : World) (hR : RoomAt w b0 0 R) (hk : okR R) (h0 : bn s 0 = 4) (hl : s.length = 5) (h8 : bn s 1 < 8) :
    Calls Try.prog 106 #[.pointer (some ⟨b0, 0, none⟩), .string (str s)] w fun x w' => x = .returned (.tuple #[.string (str (rdb (R.bs (bn s 1)) (wrd s 2) (bn s 4))), .int .i64 (1 + (bn s 4 : Int))]) ∧ Below w.heap.size w w' := by
  obtain ⟨sv, hsv⟩ : ∃ sv, str s = sv := ⟨_, rfl⟩
  have hz : sv.size = s.length := by rw [← hsv, str_size]
  have HSV : Hid (str s = sv) := hsv
  have HR : Hid (RoomAt w b0 0 R) := hR
  have HK : Hid (okR R) := hk
  have z0 : 0 < sv.size := by omega
  have z1 : 1 < sv.size := by omega
  have e0 : (sv[0]'z0).toNat = 4 := by rw [← h0]; subst hsv; exact str_byte s 0 _
  have e1 : (sv[1]'z1).toNat = bn s 1 := by subst hsv; exact str_byte s 1 _
  have c1 : (bn s 1 : Int) ≤ 255 := by have := bn_le s 1; omega
  have b4 := bn_le s 4
  have z4 : 4 < sv.size := by omega
  have e4 : (sv[4]'z4).toNat = bn s 4 := by subst hsv; exact str_byte s 4 _
  have c4 : (bn s 4 : Int) ≤ 255 := by omega
  have hx5 : (5 : Int) ≤ sv.size := by omega
  have w4 := wrap_byte s 4
  have q := hR.bs _ h8
  rw [Nat.zero_add] at q
  have ql := hR.lt
  have n0 : (0 : Int) ≤ bn s 1 := by omega
  have n8 : (bn s 1 : Int) < 8 := by omega
  have esz := str_size (R.bs (bn s 1))
  rw [hsv]
  clear hR hk hsv
  go_enter Try.func106, Try.ntmps106
  go_wp2
  go_region_with (first | (go_at_call 116; refine (word_of sv s _ 2 _ HSV.out (by rfl) (by omega) (by omega)).mono ?_; rintro e w2 ⟨rfl, n2, rfl⟩) | (go_at_call 117; refine (rread_any b0 (bn s 1) (wrd s 2) (bn s 4) R _ (HR.out.drewN _) h8 (HK.out.len _ h8) (by have := wrd_le s 2; omega) (by omega)).mono ?_; rintro e w3 ⟨rfl, hg3⟩; have G3 : Hid _ := hg3; clear hg3))
  all_goals
    go_wp2
    go_quiet (fail)
    go_wp2
    go_ret2
    exact ⟨tupS rfl (by first | rfl | (rw [IntKind.wrap_i64]; omega)), belowDrewN (below_drewN' G3.out)⟩

set_option maxRecDepth 4000 in
set_option maxHeartbeats 1000000 in
theorem pln_clear (b0 : Nat) (s : List UInt8) (R : Rm) (w : World) (hR : RoomAt w b0 0 R) (hk : okR R) (h0 : bn s 0 = 6) (hl : s.length = 3) (h8 : bn s 1 < 8) :
    Calls Try.prog 106 #[.pointer (some ⟨b0, 0, none⟩), .string (str s)] w fun x w' => x = .returned (.tuple #[.string (str []), .int .i64 (1 + ((R.bs (bn s 1)).length : Int))]) ∧ RGoes b0 0 w w' (rBytes R (bn s 1) (List.replicate (R.bs (bn s 1)).length (s.getD 2 0))) := by
  have hlen := hk.len _ h8
  obtain ⟨v, hv⟩ : ∃ v, s.getD 2 0 = v := ⟨_, rfl⟩
  have HV : Hid ((bn s 2 : Int) = v.toNat) := by rw [← hv]; rfl
  rw [hv]
  clear hv
  obtain ⟨sv, hsv⟩ : ∃ sv, str s = sv := ⟨_, rfl⟩
  have hz : sv.size = s.length := by rw [← hsv, str_size]
  have HSV : Hid (str s = sv) := hsv
  have HR : Hid (RoomAt w b0 0 R) := hR
  have HK : Hid (okR R) := hk
  have z0 : 0 < sv.size := by omega
  have z1 : 1 < sv.size := by omega
  have e0 : (sv[0]'z0).toNat = 6 := by rw [← h0]; subst hsv; exact str_byte s 0 _
  have e1 : (sv[1]'z1).toNat = bn s 1 := by subst hsv; exact str_byte s 1 _
  have c1 : (bn s 1 : Int) ≤ 255 := by have := bn_le s 1; omega
  have z2 : 2 < sv.size := by omega
  have e2 : (sv[2]'z2).toNat = bn s 2 := by subst hsv; exact str_byte s 2 _
  have c2 : (bn s 2 : Int) ≤ 255 := by have := bn_le s 2; omega
  have q := hR.bs _ h8
  rw [Nat.zero_add] at q
  have ql := hR.lt
  have n0 : (0 : Int) ≤ bn s 1 := by omega
  have n8 : (bn s 1 : Int) < 8 := by omega
  have esz := str_size (R.bs (bn s 1))
  rw [hsv]
  clear hR hk hsv
  go_enter Try.func106, Try.ntmps106
  go_wp2
  go_region_with (go_at_call 109; refine (many_any (R.bs (bn s 1)).length v _ _ (by omega) HV.out).mono ?_; rintro e w3 ⟨rfl, hb3⟩; have B3 : Hid (Below w.heap.size w w3) := ⟨hb3.os, hb3.tape, hb3.output, hb3.size, hb3.block⟩; have h3 := (HR.out.drewN _).below hb3; have q3 := h3.bs _ h8; rw [Nat.zero_add] at q3; have q4 := h3.fz; have q5 := h3.lt; have HR3 : Hid (RoomAt w3 b0 0 R) := h3; clear h3 hb3)
  all_goals
    go_wp2
    go_ret2
    have g1 := HR3.out.setBs (k := bn s 1) h8 (List.replicate (R.bs (bn s 1)).length v)
    rw [Nat.zero_add] at g1
    exact ⟨rfl, RGoes.of_below B3.out ⟨(Only.refl (fun x => x = b0) w3).setCell (p := ⟨b0, bn s 1 * 2 + 1, none⟩) (.inl rfl) _, g1⟩⟩

end Go.Proofs.Ytbedkfgdhaajaab
