/- Walks: the document's answer: any command, kind by kind (P8, P10 to P13). Walks: the document's answer: any command, and how long it is (P8). -/
import Derived.Test.YtbedkfgdhaajaabRefDo
namespace Go.Proofs.Ytbedkfgdhaajaab
open Go.RowKit

/-- string([]byte{v}) -/
theorem one_string (W : World) (v : Int) (h0 : 0 ≤ v) (h1 : v ≤ 255) : (convert 51 9 (.slice (some ⟨W.heap.size, 0, none⟩) 1 1)).run Try.prog (W.alloc (.cells #[.int .u8 v] 5)) = .ok (.string (str [eb v])) (W.alloc (.cells #[.int .u8 v] 5)) := by
  have := run_string_bs (P := Try.prog) (bs_one W 5 (eb v) v (by unfold eb; simp; omega)) 51 9 5 Try.underlying51 Try.underlying5 Try.underlying9
  exact this

theorem str_nil : str [] = ({ data := #[] } : ByteArray) := rfl

theorem str_app_nil (l : List UInt8) : str l ++ ({ data := #[] } : ByteArray) = str l := by
  unfold str
  apply ByteArray.ext
  simp [ByteArray.data_append]
theorem str_app_one (e : Int) (l : List UInt8) : str [eb e] ++ str l = str (eb e :: l) := str_cons _ _
theorem RGoes.alloc {b o : Nat} {w w' : World} {R : Rm} (h : RGoes b o w w' R) (x : Obj) : RGoes b o w (w'.alloc x) R := ⟨h.1.alloc x, h.2.alloc x⟩
theorem RGoes.made {b o : Nat} {w : World} {R : Rm} (h : RoomAt w b o R) (x : Obj) : RGoes b o w (w.alloc x) R := RGoes.stay h ((Below.refl _ _).alloc (Nat.le_refl _) x)

def rcdC (k n : Nat) (s : List UInt8) : Int := if cer k n s = 0 then 1 + (n : Int) else 1
def cdR (R : Rm) (k n : Nat) (s : List UInt8) : Rm := if cer k n s = 0 then rCode R k s else R

theorem plR_len (R : Rm) (s : List UInt8) : (plR R s).1.length ≤ 255 := by
  have := bn_le s 4
  unfold plR
  split
  · simp
  · split
    · simp
    · split
      · simp only [rdb_length]; omega
      · simp

theorem ext_drop (s : List UInt8) (a b : Nat) (h : b = (str s).size) : str (s.drop a) = (str s).extract a b := by
  rw [str_size] at h
  rw [h, str_extract _ _ _ (Nat.le_refl _), List.take_length]
theorem rcode_of (b0 k n : Nat) (s : List UInt8) (sv : ByteArray) (R : Rm) (w : World) (hs : str s = sv) (hR : RoomAt w b0 0 R) (hl : s.length ≤ 2000) :
    Calls Try.prog 104 #[.pointer (some ⟨b0, 0, none⟩), .int .i64 k, .int .i64 n, .string sv] w fun x w' => x = .returned (.tuple #[.int .i64 (cer k n s), .int .i64 (rcdC k n s)]) ∧ RGoes b0 0 w w' (cdR R k n s) := by
  subst hs; exact rcode_any b0 k n s R w hR hl
theorem draw_of (HD : DrawsRight) (b0 : Nat) (s : List UInt8) (sv : ByteArray) (R : Rm) (w : World) (hs : str s = sv) (hR : RoomAt w b0 0 R) (hk : okR R) (hl : s.length = 17) :
    Calls Try.prog 105 #[.pointer (some ⟨b0, 0, none⟩), .string sv] w fun x w' => x = .returned (.tuple #[.int .i64 (der R s), .int .i64 (dwC R s)]) ∧ RGoes b0 0 w w' (dwR R s) := by
  subst hs; exact HD b0 s R w hR hk hl
theorem plain_of (b0 : Nat) (s : List UInt8) (sv : ByteArray) (R : Rm) (w : World) (hs : str s = sv) (hR : RoomAt w b0 0 R) (hk : okR R) (hl : s.length = dsz s) (ho : bn s 0 = 2 ∨ bn s 0 = 3 ∨ bn s 0 = 4 ∨ bn s 0 = 6) (h8 : bn s 1 < 8) (hp : 0 < s.length) :
    Calls Try.prog 106 #[.pointer (some ⟨b0, 0, none⟩), .string sv] w fun x w' => x = .returned (.tuple #[.string (str (plR R s).1), .int .i64 (plR R s).2.1]) ∧ RGoes b0 0 w w' (plR R s).2.2 := by
  subst hs; exact plain_any b0 s R w hR hk hl ho h8 hp

set_option maxRecDepth 8000 in
set_option maxHeartbeats 2000000 in
theorem does_other (b0 : Nat) (s : List UInt8) (R : Rm) (w : World) (hR : RoomAt w b0 0 R) (hk : okR R) (ho : bn s 0 = 0 ∨ 7 < bn s 0) (hl : s.length = 1) :
    Calls Try.prog 87 #[.pointer (some ⟨b0, 0, none⟩), .string (str s)] w fun x w' => x = .returned (.tuple #[.string (str ([1])), .int .i64 (1)]) ∧ RGoes b0 0 w w' (R) := by
  obtain ⟨sv, hsv⟩ : ∃ sv, str s = sv := ⟨_, rfl⟩
  have hz : sv.size = s.length := by rw [← hsv, str_size]
  have HSV : Hid (str s = sv) := hsv
  have HR : Hid (RoomAt w b0 0 R) := hR
  have HK : Hid (okR R) := hk
  have z0 : 0 < sv.size := by omega
  have e0 : (sv[0]'z0).toNat = bn s 0 := by subst hsv; exact str_byte s 0 _
  have c0 : (bn s 0 : Int) ≤ 255 := by have := bn_le s 0; omega
  have hone := one_string
  have ql := hR.lt
  have hl1 : ¬ (1 : Int) < sv.size := by omega
  have d1 : ((bn s 0 : Int) == 1) = false := beq_false_of_ne (by omega)
  have d5 : ((bn s 0 : Int) == 5) = false := beq_false_of_ne (by omega)
  have d7 : ((bn s 0 : Int) == 7) = false := beq_false_of_ne (by omega)
  rw [hsv]
  clear hR hk hsv
  by_cases h0 : bn s 0 = 0
  · have d0 : ((bn s 0 : Int) == 0) = true := by rw [beq_iff_eq]; omega
    clear ho h0
    go_enter Try.func87, Try.ntmps87
    go_wp2
    go_ret2
    exact ⟨tupS (str_app_nil [eb 1]) rfl, RGoes.made HR.out _⟩
  · have d0 : ((bn s 0 : Int) == 0) = false := beq_false_of_ne (by omega)
    have d8 : (7 : Int) < bn s 0 := by omega
    clear ho h0
    go_enter Try.func87, Try.ntmps87
    go_wp2
    go_ret2
    exact ⟨tupS (str_app_nil [eb 1]) rfl, RGoes.made HR.out _⟩

set_option maxRecDepth 8000 in
set_option maxHeartbeats 2000000 in
theorem does_create (b0 : Nat) (s : List UInt8) (R : Rm) (w : World) (hR : RoomAt w b0 0 R) (hk : okR R) (ho : bn s 0 = 1) (hl : s.length = 4) :
    Calls Try.prog 87 #[.pointer (some ⟨b0, 0, none⟩), .string (str s)] w fun x w' => x = .returned (.tuple #[.string (str ([eb (can R.bs (bn s 1) (bn s 2) (bn s 3))])), .int .i64 (crC R (bn s 1) (bn s 2) (bn s 3))]) ∧ RGoes b0 0 w w' (crR R (bn s 1) (bn s 2) (bn s 3)) := by
  obtain ⟨sv, hsv⟩ : ∃ sv, str s = sv := ⟨_, rfl⟩
  have hz : sv.size = s.length := by rw [← hsv, str_size]
  have HSV : Hid (str s = sv) := hsv
  have HR : Hid (RoomAt w b0 0 R) := hR
  have HK : Hid (okR R) := hk
  have z0 : 0 < sv.size := by omega
  have e0 : (sv[0]'z0).toNat = bn s 0 := by subst hsv; exact str_byte s 0 _
  have c0 : (bn s 0 : Int) ≤ 255 := by have := bn_le s 0; omega
  have hone := one_string
  have ql := hR.lt
  have z1 : 1 < sv.size := by omega
  have e1 : (sv[1]'z1).toNat = bn s 1 := by subst hsv; exact str_byte s 1 _
  have c1 : (bn s 1 : Int) ≤ 255 := by have := bn_le s 1; omega
  have wb1 := wrap_byte s 1
  have z2 : 2 < sv.size := by omega
  have e2 : (sv[2]'z2).toNat = bn s 2 := by subst hsv; exact str_byte s 2 _
  have c2 : (bn s 2 : Int) ≤ 255 := by have := bn_le s 2; omega
  have wb2 := wrap_byte s 2
  have z3 : 3 < sv.size := by omega
  have e3 : (sv[3]'z3).toNat = bn s 3 := by subst hsv; exact str_byte s 3 _
  have c3 : (bn s 3 : Int) ≤ 255 := by have := bn_le s 3; omega
  have wb3 := wrap_byte s 3
  have hl1 : (1 : Int) < sv.size := by omega
  obtain ⟨k0, k1⟩ := can_bd R.bs (bn s 1) (bn s 2) (bn s 3)
  have k2 : can R.bs (bn s 1) (bn s 2) (bn s 3) ≤ 255 := by omega
  have d1 : ((bn s 0 : Int) == 1) = true := by rw [beq_iff_eq]; omega
  rw [hsv]
  clear hR hk hsv
  clear ho
  go_enter Try.func87, Try.ntmps87
  go_wp2_with (first | (go_at_call 102; refine (rthere_any b0 0 _ R _ HR.out HK.out).mono ?_; rintro e w1 ⟨rfl, hw1⟩; subst w1))
  go_region_with (first | (go_at_call 103; refine (rcreate_any b0 _ _ _ R _ (HR.out.drewN _) HK.out).mono ?_; rintro e w2 ⟨rfl, hg2⟩; have G2 : Hid _ := hg2; clear hg2))
  all_goals
    go_wp2
    go_ret2
    exact ⟨tupS (str_app_nil _) rfl, (RGoes.of_drewN G2.out).alloc _⟩

set_option maxRecDepth 8000 in
set_option maxHeartbeats 2000000 in
theorem does_code (b0 : Nat) (s : List UInt8) (R : Rm) (w : World) (hR : RoomAt w b0 0 R) (hk : okR R) (ho : bn s 0 = 5) (hl : s.length = 3 + 4 * bn s 2) :
    Calls Try.prog 87 #[.pointer (some ⟨b0, 0, none⟩), .string (str s)] w fun x w' => x = .returned (.tuple #[.string (str ([eb (cer (bn s 1) (bn s 2) (s.drop 3))])), .int .i64 (rcdC (bn s 1) (bn s 2) (s.drop 3))]) ∧ RGoes b0 0 w w' (cdR R (bn s 1) (bn s 2) (s.drop 3)) := by
  obtain ⟨sv, hsv⟩ : ∃ sv, str s = sv := ⟨_, rfl⟩
  have hz : sv.size = s.length := by rw [← hsv, str_size]
  have HSV : Hid (str s = sv) := hsv
  have HR : Hid (RoomAt w b0 0 R) := hR
  have HK : Hid (okR R) := hk
  have z0 : 0 < sv.size := by omega
  have e0 : (sv[0]'z0).toNat = bn s 0 := by subst hsv; exact str_byte s 0 _
  have c0 : (bn s 0 : Int) ≤ 255 := by have := bn_le s 0; omega
  have hone := one_string
  have ql := hR.lt
  have z1 : 1 < sv.size := by omega
  have e1 : (sv[1]'z1).toNat = bn s 1 := by subst hsv; exact str_byte s 1 _
  have c1 : (bn s 1 : Int) ≤ 255 := by have := bn_le s 1; omega
  have wb1 := wrap_byte s 1
  have z2 : 2 < sv.size := by omega
  have e2 : (sv[2]'z2).toNat = bn s 2 := by subst hsv; exact str_byte s 2 _
  have c2 : (bn s 2 : Int) ≤ 255 := by have := bn_le s 2; omega
  have wb2 := wrap_byte s 2
  have hl1 : (1 : Int) < sv.size := by omega
  have hx3 : (3 : Int) ≤ sv.size := by omega
  obtain ⟨k0, k2⟩ : 0 ≤ cer (bn s 1) (bn s 2) (s.drop 3) ∧ cer (bn s 1) (bn s 2) (s.drop 3) ≤ 255 := by unfold cer; split <;> (try split) <;> (try split) <;> omega
  have hs2 : s.length ≤ 2000 := by have := bn_le s 2; omega
  have HL : Hid (s.length = 3 + 4 * bn s 2) := hl
  have d1 : ((bn s 0 : Int) == 1) = false := beq_false_of_ne (by omega)
  have d5 : ((bn s 0 : Int) == 5) = true := by rw [beq_iff_eq]; omega
  rw [hsv]
  clear hR hk hsv
  clear ho hl
  go_enter Try.func87, Try.ntmps87
  go_wp2_with (first | (go_at_call 102; refine (rthere_any b0 0 _ R _ HR.out HK.out).mono ?_; rintro e w1 ⟨rfl, hw1⟩; subst w1))
  go_region_with (first | (go_at_call 104; refine (rcode_of b0 _ _ (s.drop 3) _ R _ (by rw [← HSV.out]; exact ext_drop s 3 _ (by rw [HSV.out]; omega)) (HR.out.drewN _) (by rw [List.length_drop]; omega)).mono ?_; rintro e w2 ⟨rfl, hg2⟩; have G2 : Hid _ := hg2; clear hg2))
  all_goals
    go_wp2
    go_ret2
    exact ⟨tupS (str_app_nil _) rfl, (RGoes.of_drewN G2.out).alloc _⟩

set_option maxRecDepth 8000 in
set_option maxHeartbeats 2000000 in
theorem does_draw (b0 : Nat) (s : List UInt8) (R : Rm) (w : World) (hR : RoomAt w b0 0 R) (hk : okR R) (HD : DrawsRight) (ho : bn s 0 = 7) (hl : s.length = 17) :
    Calls Try.prog 87 #[.pointer (some ⟨b0, 0, none⟩), .string (str s)] w fun x w' => x = .returned (.tuple #[.string (str ([eb (der R s)])), .int .i64 (dwC R s)]) ∧ RGoes b0 0 w w' (dwR R s) := by
  obtain ⟨sv, hsv⟩ : ∃ sv, str s = sv := ⟨_, rfl⟩
  have hz : sv.size = s.length := by rw [← hsv, str_size]
  have HSV : Hid (str s = sv) := hsv
  have HR : Hid (RoomAt w b0 0 R) := hR
  have HK : Hid (okR R) := hk
  have z0 : 0 < sv.size := by omega
  have e0 : (sv[0]'z0).toNat = bn s 0 := by subst hsv; exact str_byte s 0 _
  have c0 : (bn s 0 : Int) ≤ 255 := by have := bn_le s 0; omega
  have hone := one_string
  have ql := hR.lt
  have z1 : 1 < sv.size := by omega
  have e1 : (sv[1]'z1).toNat = bn s 1 := by subst hsv; exact str_byte s 1 _
  have c1 : (bn s 1 : Int) ≤ 255 := by have := bn_le s 1; omega
  have wb1 := wrap_byte s 1
  have hl1 : (1 : Int) < sv.size := by omega
  obtain ⟨k0, k2⟩ : 0 ≤ der R s ∧ der R s ≤ 255 := by unfold der; split <;> (try split) <;> (try split) <;> (try split) <;> omega
  have HD' : Hid DrawsRight := HD
  have d1 : ((bn s 0 : Int) == 1) = false := beq_false_of_ne (by omega)
  have d5 : ((bn s 0 : Int) == 5) = false := beq_false_of_ne (by omega)
  have d7 : ((bn s 0 : Int) == 7) = true := by rw [beq_iff_eq]; omega
  rw [hsv]
  clear hR hk hsv
  clear ho HD
  go_enter Try.func87, Try.ntmps87
  go_wp2_with (first | (go_at_call 102; refine (rthere_any b0 0 _ R _ HR.out HK.out).mono ?_; rintro e w1 ⟨rfl, hw1⟩; subst w1) | (go_at_call 105; refine (draw_of HD'.out b0 s sv R _ HSV.out HR.out HK.out hl).mono ?_; rintro e w2 ⟨rfl, hg2⟩; have G2 : Hid (RGoes b0 0 w w2 (dwR R s)) := hg2; clear hg2))
  go_ret2
  exact ⟨tupS (str_app_nil _) rfl, G2.out.alloc _⟩

set_option maxRecDepth 8000 in
set_option maxHeartbeats 2000000 in
theorem does_none (b0 : Nat) (s : List UInt8) (R : Rm) (w : World) (hR : RoomAt w b0 0 R) (hk : okR R) (ho : bn s 0 = 2 ∨ bn s 0 = 3 ∨ bn s 0 = 4 ∨ bn s 0 = 6) (hl : 2 ≤ s.length) (ht : thr R (bn s 1) = false) :
    Calls Try.prog 87 #[.pointer (some ⟨b0, 0, none⟩), .string (str s)] w fun x w' => x = .returned (.tuple #[.string (str ([2])), .int .i64 (1)]) ∧ RGoes b0 0 w w' (R) := by
  obtain ⟨sv, hsv⟩ : ∃ sv, str s = sv := ⟨_, rfl⟩
  have hz : sv.size = s.length := by rw [← hsv, str_size]
  have HSV : Hid (str s = sv) := hsv
  have HR : Hid (RoomAt w b0 0 R) := hR
  have HK : Hid (okR R) := hk
  have z0 : 0 < sv.size := by omega
  have e0 : (sv[0]'z0).toNat = bn s 0 := by subst hsv; exact str_byte s 0 _
  have c0 : (bn s 0 : Int) ≤ 255 := by have := bn_le s 0; omega
  have hone := one_string
  have ql := hR.lt
  have z1 : 1 < sv.size := by omega
  have e1 : (sv[1]'z1).toNat = bn s 1 := by subst hsv; exact str_byte s 1 _
  have c1 : (bn s 1 : Int) ≤ 255 := by have := bn_le s 1; omega
  have wb1 := wrap_byte s 1
  have hl1 : (1 : Int) < sv.size := by omega
  have d1 : ((bn s 0 : Int) == 1) = false := beq_false_of_ne (by omega)
  have d5 : ((bn s 0 : Int) == 5) = false := beq_false_of_ne (by omega)
  have d7 : ((bn s 0 : Int) == 7) = false := beq_false_of_ne (by omega)
  have d0 : ((bn s 0 : Int) == 0) = false := beq_false_of_ne (by omega)
  have d8 : decide ((7 : Int) < bn s 0) = false := decide_eq_false (by omega)
  rw [hsv]
  clear hR hk hsv
  clear ho
  go_enter Try.func87, Try.ntmps87
  go_wp2_with (first | (go_at_call 102; refine (rthere_any b0 0 _ R _ HR.out HK.out).mono ?_; rintro e w1 ⟨rfl, hw1⟩; subst w1))
  go_ret2
  exact ⟨tupS (str_app_nil [eb 2]) rfl, RGoes.made HR.out _⟩

set_option maxRecDepth 8000 in
set_option maxHeartbeats 2000000 in
theorem does_plain (b0 : Nat) (s : List UInt8) (R : Rm) (w : World) (hR : RoomAt w b0 0 R) (hk : okR R) (ho : bn s 0 = 2 ∨ bn s 0 = 3 ∨ bn s 0 = 4 ∨ bn s 0 = 6) (hl : 2 ≤ s.length) (hd : s.length = dsz s) (ht : thr R (bn s 1) = true) :
    Calls Try.prog 87 #[.pointer (some ⟨b0, 0, none⟩), .string (str s)] w fun x w' => x = .returned (.tuple #[.string (str (0 :: (plR R s).1)), .int .i64 ((plR R s).2.1)]) ∧ RGoes b0 0 w w' ((plR R s).2.2) := by
  obtain ⟨sv, hsv⟩ : ∃ sv, str s = sv := ⟨_, rfl⟩
  have hz : sv.size = s.length := by rw [← hsv, str_size]
  have HSV : Hid (str s = sv) := hsv
  have HR : Hid (RoomAt w b0 0 R) := hR
  have HK : Hid (okR R) := hk
  have z0 : 0 < sv.size := by omega
  have e0 : (sv[0]'z0).toNat = bn s 0 := by subst hsv; exact str_byte s 0 _
  have c0 : (bn s 0 : Int) ≤ 255 := by have := bn_le s 0; omega
  have hone := one_string
  have ql := hR.lt
  have z1 : 1 < sv.size := by omega
  have e1 : (sv[1]'z1).toNat = bn s 1 := by subst hsv; exact str_byte s 1 _
  have c1 : (bn s 1 : Int) ≤ 255 := by have := bn_le s 1; omega
  have wb1 := wrap_byte s 1
  have hl1 : (1 : Int) < sv.size := by omega
  have h8 : bn s 1 < 8 := (of_decide_eq_true ht : _ ∧ _).1
  have hpz : (str (plR R s).1).size ≤ 255 := by rw [str_size]; exact plR_len R s
  have hp1 : (str [eb 0]).size = 1 := rfl
  have hpz' : ((str (plR R s).1).size : Int) ≤ 255 := by omega
  have HO : Hid (bn s 0 = 2 ∨ bn s 0 = 3 ∨ bn s 0 = 4 ∨ bn s 0 = 6) := ho
  have HD : Hid (s.length = dsz s) := hd
  have d1 : ((bn s 0 : Int) == 1) = false := beq_false_of_ne (by omega)
  have d5 : ((bn s 0 : Int) == 5) = false := beq_false_of_ne (by omega)
  have d7 : ((bn s 0 : Int) == 7) = false := beq_false_of_ne (by omega)
  have d0 : ((bn s 0 : Int) == 0) = false := beq_false_of_ne (by omega)
  have d8 : decide ((7 : Int) < bn s 0) = false := decide_eq_false (by omega)
  rw [hsv]
  clear hR hk hsv
  clear ho hd
  go_enter Try.func87, Try.ntmps87
  go_wp2_with (first | (go_at_call 102; refine (rthere_any b0 0 _ R _ HR.out HK.out).mono ?_; rintro e w1 ⟨rfl, hw1⟩; subst w1) | (go_at_call 106; refine (plain_of b0 s sv R _ HSV.out HR.out HK.out HD.out HO.out h8 (by omega)).mono ?_; rintro e w2 ⟨rfl, hg2⟩; have G2 : Hid (RGoes b0 0 w w2 (plR R s).2.2) := hg2; clear hg2))
  go_ret2
  exact ⟨tupS (str_app_one 0 _) rfl, G2.out.alloc _⟩

end Go.Proofs.Ytbedkfgdhaajaab

namespace Go.Proofs.Ytbedkfgdhaajaab
open Go.RowKit

/-- a whole command: not empty, and just as long as it says -/
def whole (s : List UInt8) : Prop := 0 < s.length ∧ s.length = dsz s

theorem does_any (HD : DrawsRight) (b0 : Nat) (s : List UInt8) (R : Rm) (w : World) (hR : RoomAt w b0 0 R) (hk : okR R) (hw : whole s) :
    Calls Try.prog 87 #[.pointer (some ⟨b0, 0, none⟩), .string (str s)] w fun x w' => x = .returned (.tuple #[.string (str (ddo R s).1), .int .i64 (ddo R s).2.1]) ∧ RGoes b0 0 w w' (ddo R s).2.2 := by
  obtain ⟨hp, hd⟩ := hw
  have hne : ¬ s.length = 0 := by omega
  have hd' := hd
  unfold dsz at hd'
  rw [if_neg hne] at hd'
  by_cases h1 : bn s 0 = 1
  · rw [if_pos h1] at hd'
    have e : ddo R s = ([eb (can R.bs (bn s 1) (bn s 2) (bn s 3))], crC R (bn s 1) (bn s 2) (bn s 3), crR R (bn s 1) (bn s 2) (bn s 3)) := by unfold ddo crC crR; rw [if_pos h1]
    rw [e]
    exact does_create b0 s R w hR hk h1 hd'
  · rw [if_neg h1] at hd'
    by_cases h5 : bn s 0 = 5
    · rw [if_neg (by omega), if_neg (by omega), if_neg (by omega), if_pos h5] at hd'
      have hl : s.length = 3 + 4 * bn s 2 := by split at hd'; omega; exact hd'
      have e : ddo R s = ([eb (cer (bn s 1) (bn s 2) (s.drop 3))], rcdC (bn s 1) (bn s 2) (s.drop 3), cdR R (bn s 1) (bn s 2) (s.drop 3)) := by unfold ddo rcdC cdR; rw [if_neg h1, if_pos h5]
      rw [e]
      exact does_code b0 s R w hR hk h5 hl
    · by_cases h7 : bn s 0 = 7
      · rw [if_neg (by omega), if_neg (by omega), if_neg (by omega), if_neg (by omega), if_neg (by omega), if_pos h7] at hd'
        have e : ddo R s = ([eb (der R s)], dwC R s, dwR R s) := by unfold ddo; rw [if_neg h1, if_neg h5, if_pos h7]
        rw [e]
        exact does_draw b0 s R w hR hk HD h7 hd'
      · by_cases ho : bn s 0 = 0 ∨ 7 < bn s 0
        · rw [if_neg (by omega), if_neg (by omega), if_neg (by omega), if_neg (by omega), if_neg (by omega), if_neg (by omega)] at hd'
          have e : ddo R s = ([1], 1, R) := by unfold ddo; rw [if_neg h1, if_neg h5, if_neg h7, if_pos ho]
          rw [e]
          exact does_other b0 s R w hR hk ho hd'
        · have h2346 : bn s 0 = 2 ∨ bn s 0 = 3 ∨ bn s 0 = 4 ∨ bn s 0 = 6 := by omega
          have hl2 : 2 ≤ s.length := by
            rcases h2346 with h | h | h | h
            · rw [if_pos h] at hd'; omega
            · rw [if_neg (by omega), if_pos h] at hd'; split at hd' <;> omega
            · rw [if_neg (by omega), if_neg (by omega), if_pos h] at hd'; omega
            · rw [if_neg (by omega), if_neg (by omega), if_neg (by omega), if_neg (by omega), if_pos h] at hd'; omega
          by_cases ht : thr R (bn s 1) = true
          · have e : ddo R s = (0 :: (plR R s).1, (plR R s).2.1, (plR R s).2.2) := by
              unfold ddo plR
              rw [if_neg h1, if_neg h5, if_neg h7, if_neg ho, if_neg (by rw [ht]; simp)]
              rcases h2346 with h | h | h | h
              · rw [if_pos h, if_pos h]
              · rw [if_neg (by omega), if_pos h, if_neg (by omega), if_pos h]
              · rw [if_neg (by omega), if_neg (by omega), if_pos h, if_neg (by omega), if_neg (by omega), if_pos h]
              · rw [if_neg (by omega), if_neg (by omega), if_neg (by omega), if_neg (by omega), if_neg (by omega), if_neg (by omega)]
            rw [e]
            exact does_plain b0 s R w hR hk h2346 hl2 hd ht
          · have ht' : thr R (bn s 1) = false := by simpa using ht
            have e : ddo R s = ([2], 1, R) := by unfold ddo; rw [if_neg h1, if_neg h5, if_neg h7, if_neg ho, if_pos ht']
            rw [e]
            exact does_none b0 s R w hR hk h2346 hl2 ht'

set_option maxRecDepth 4000 in
set_option maxHeartbeats 2000000 in
theorem rsize_any (s : List UInt8) (w : World) (hl : s.length ≤ 2000) :
    Calls Try.prog 86 #[.string (str s)] w fun x w' => x = .returned (.int .i64 (dsz s)) ∧ w' = w := by
  obtain ⟨sv, hsv⟩ : ∃ sv, str s = sv := ⟨_, rfl⟩
  have hz : sv.size = s.length := by rw [← hsv, str_size]
  by_cases h0 : s.length = 0
  · have e : dsz s = 0 := by unfold dsz; rw [if_pos h0]
    have es : s = [] := List.eq_nil_of_length_eq_zero h0
    subst es
    rw [e]
    have hem : str [] = ({ data := #[] } : ByteArray) := rfl
    rw [hem]
    clear hsv hz e h0 hem
    go_enter Try.func86, Try.ntmps86
    go_wp2
    go_ret
    exact ⟨rfl, rfl⟩
  · have z0 : 0 < sv.size := by omega
    have e0 : (sv[0]'z0).toNat = bn s 0 := by subst hsv; exact str_byte s 0 _
    have c0 : (bn s 0 : Int) ≤ 255 := by have := bn_le s 0; omega
    have hem : sv.toList.isEmpty = false := by
      rw [ByteArray.toList_eq, ← hsv, str_data]
      cases s with
      | nil => exact absurd rfl h0
      | cons _ _ => rfl
    rw [hsv]
    by_cases h1 : bn s 0 = 1
    · have d1 : ((bn s 0 : Int) == 1) = true := by rw [beq_iff_eq]; omega
      have e : dsz s = 4 := by unfold dsz; rw [if_neg h0, if_pos h1]
      rw [e]
      clear e hsv h0
      go_enter Try.func86, Try.ntmps86
      go_wp2
      go_ret
      exact ⟨rfl, rfl⟩
    · have d1 : ((bn s 0 : Int) == 1) = false := beq_false_of_ne (by omega)
      by_cases h2 : bn s 0 = 2
      · have d2 : ((bn s 0 : Int) == 2) = true := by rw [beq_iff_eq]; omega
        have e : dsz s = 2 := by unfold dsz; rw [if_neg h0, if_neg h1, if_pos h2]
        rw [e]
        clear e hsv h0
        go_enter Try.func86, Try.ntmps86
        go_wp2
        go_ret
        exact ⟨rfl, rfl⟩
      · have d2 : ((bn s 0 : Int) == 2) = false := beq_false_of_ne (by omega)
        by_cases h3 : bn s 0 = 3
        · have d3 : ((bn s 0 : Int) == 3) = true := by rw [beq_iff_eq]; omega
          by_cases hm : s.length < 5
          · have hm' : (sv.size : Int) < 5 := by omega
            have e : dsz s = 0 := by unfold dsz; rw [if_neg h0, if_neg h1, if_neg h2, if_pos h3, if_pos hm]
            rw [e]
            clear e hsv h0
            go_enter Try.func86, Try.ntmps86
            go_wp2
            go_ret
            exact ⟨rfl, rfl⟩
          · have hm' : ¬ (sv.size : Int) < 5 := by omega
            have zx : 4 < sv.size := by omega
            have ex : (sv[4]'zx).toNat = bn s 4 := by subst hsv; exact str_byte s 4 _
            have cx : (bn s 4 : Int) ≤ 255 := by have := bn_le s 4; omega
            have e : dsz s = 5 + bn s 4 := by unfold dsz; rw [if_neg h0, if_neg h1, if_neg h2, if_pos h3, if_neg hm]
            rw [e]
            clear e hsv h0
            go_enter Try.func86, Try.ntmps86
            go_wp2
            go_ret
            exact ⟨retI (by omega), rfl⟩
        · have d3 : ((bn s 0 : Int) == 3) = false := beq_false_of_ne (by omega)
          by_cases h4 : bn s 0 = 4
          · have d4 : ((bn s 0 : Int) == 4) = true := by rw [beq_iff_eq]; omega
            have e : dsz s = 5 := by unfold dsz; rw [if_neg h0, if_neg h1, if_neg h2, if_neg h3, if_pos h4]
            rw [e]
            clear e hsv h0
            go_enter Try.func86, Try.ntmps86
            go_wp2
            go_ret
            exact ⟨rfl, rfl⟩
          · have d4 : ((bn s 0 : Int) == 4) = false := beq_false_of_ne (by omega)
            by_cases h5 : bn s 0 = 5
            · have d5 : ((bn s 0 : Int) == 5) = true := by rw [beq_iff_eq]; omega
              by_cases hm : s.length < 3
              · have hm' : (sv.size : Int) < 3 := by omega
                have e : dsz s = 0 := by unfold dsz; rw [if_neg h0, if_neg h1, if_neg h2, if_neg h3, if_neg h4, if_pos h5, if_pos hm]
                rw [e]
                clear e hsv h0
                go_enter Try.func86, Try.ntmps86
                go_wp2
                go_ret
                exact ⟨rfl, rfl⟩
              · have hm' : ¬ (sv.size : Int) < 3 := by omega
                have zx : 2 < sv.size := by omega
                have ex : (sv[2]'zx).toNat = bn s 2 := by subst hsv; exact str_byte s 2 _
                have cx : (bn s 2 : Int) ≤ 255 := by have := bn_le s 2; omega
                have e : dsz s = 3 + 4 * bn s 2 := by unfold dsz; rw [if_neg h0, if_neg h1, if_neg h2, if_neg h3, if_neg h4, if_pos h5, if_neg hm]
                rw [e]
                clear e hsv h0
                go_enter Try.func86, Try.ntmps86
                go_wp2
                go_ret
                exact ⟨retI (by omega), rfl⟩
            · have d5 : ((bn s 0 : Int) == 5) = false := beq_false_of_ne (by omega)
              by_cases h6 : bn s 0 = 6
              · have d6 : ((bn s 0 : Int) == 6) = true := by rw [beq_iff_eq]; omega
                have e : dsz s = 3 := by unfold dsz; rw [if_neg h0, if_neg h1, if_neg h2, if_neg h3, if_neg h4, if_neg h5, if_pos h6]
                rw [e]
                clear e hsv h0
                go_enter Try.func86, Try.ntmps86
                go_wp2
                go_ret
                exact ⟨rfl, rfl⟩
              · have d6 : ((bn s 0 : Int) == 6) = false := beq_false_of_ne (by omega)
                by_cases h7 : bn s 0 = 7
                · have d7 : ((bn s 0 : Int) == 7) = true := by rw [beq_iff_eq]; omega
                  have e : dsz s = 17 := by unfold dsz; rw [if_neg h0, if_neg h1, if_neg h2, if_neg h3, if_neg h4, if_neg h5, if_neg h6, if_pos h7]
                  rw [e]
                  clear e hsv h0
                  go_enter Try.func86, Try.ntmps86
                  go_wp2
                  go_ret
                  exact ⟨rfl, rfl⟩
                · have d7 : ((bn s 0 : Int) == 7) = false := beq_false_of_ne (by omega)
                  have e : dsz s = 1 := by unfold dsz; rw [if_neg h0, if_neg h1, if_neg h2, if_neg h3, if_neg h4, if_neg h5, if_neg h6, if_neg h7]
                  rw [e]
                  clear e hsv h0
                  go_enter Try.func86, Try.ntmps86
                  go_wp2
                  go_ret
                  exact ⟨rfl, rfl⟩

end Go.Proofs.Ytbedkfgdhaajaab
