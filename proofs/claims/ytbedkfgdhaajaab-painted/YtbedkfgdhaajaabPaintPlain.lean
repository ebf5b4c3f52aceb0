/- What the commands of Painted are and do (P10 to P13), as plain facts; what a Draw makes of an object of noughts. -/
import Derived.Test.YtbedkfgdhaajaabCmds
import Derived.Test.YtbedkfgdhaajaabPic
import Derived.Test.YtbedkfgdhaajaabStKit
namespace Go.Proofs.Ytbedkfgdhaajaab
open Go.RowKit

/-- numbers as bytes, whatever they are -/
def bytw (xs : List Int) : List UInt8 := xs.map fun x => UInt8.ofNat (x % 256).toNat

theorem bytw_val (x : Int) : ((UInt8.ofNat (x % 256).toNat).toNat : Int) = x % 256 := by simp; omega

theorem bytw_small {xs : List Int} (h : ∀ x ∈ xs, 0 ≤ x ∧ x ≤ 255) : bytw xs = byts xs := by
  unfold bytw byts
  refine List.map_congr_left (fun x hx => ?_)
  have := h x hx
  rw [Int.emod_eq_of_lt (by omega) (by omega)]

/-- a corner's four bytes -/
def c4 (x y : Int) : List UInt8 := bytw [x, x / 256, y, y / 256]

theorem c4_length (x y : Int) : (c4 x y).length = 4 := rfl

/-- a Draw of object 1 by program 3, with object 2 -/
def dcmd (col xa ya xb yb xc yc : Int) : List UInt8 := byts [7, 1, 3, 2, col] ++ c4 xa ya ++ c4 xb yb ++ c4 xc yc

theorem crn_of {m : List UInt8} {k : Nat} {x : Int} (h : -2048 ≤ x ∧ x ≤ 2047) (h0 : (bn m k : Int) = x % 256) (h1 : (bn m (k + 1) : Int) = x / 256 % 256) : crn m k = x := by
  unfold crn wrd
  split <;> omega

theorem dcmd_bytes {col xa ya xb yb xc yc : Int} (hc : 0 ≤ col ∧ col ≤ 255) :
    (dcmd col xa ya xb yb xc yc).length = 17 ∧ bn (dcmd col xa ya xb yb xc yc) 0 = 7 ∧ bn (dcmd col xa ya xb yb xc yc) 1 = 1 ∧ bn (dcmd col xa ya xb yb xc yc) 2 = 3 ∧ bn (dcmd col xa ya xb yb xc yc) 3 = 2 ∧ (bn (dcmd col xa ya xb yb xc yc) 4 : Int) = col :=
  ⟨rfl, rfl, rfl, rfl, rfl, ofNat_toNat hc⟩

theorem dcmd_corners {col xa ya xb yb xc yc : Int} (h1 : -2048 ≤ xa ∧ xa ≤ 2047) (h2 : -2048 ≤ ya ∧ ya ≤ 2047) (h3 : -2048 ≤ xb ∧ xb ≤ 2047) (h4 : -2048 ≤ yb ∧ yb ≤ 2047) (h5 : -2048 ≤ xc ∧ xc ≤ 2047) (h6 : -2048 ≤ yc ∧ yc ≤ 2047) :
    crn (dcmd col xa ya xb yb xc yc) 5 = xa ∧ crn (dcmd col xa ya xb yb xc yc) 7 = ya ∧ crn (dcmd col xa ya xb yb xc yc) 9 = xb ∧ crn (dcmd col xa ya xb yb xc yc) 11 = yb ∧ crn (dcmd col xa ya xb yb xc yc) 13 = xc ∧ crn (dcmd col xa ya xb yb xc yc) 15 = yc :=
  ⟨crn_of h1 (bytw_val _) (bytw_val _), crn_of h2 (bytw_val _) (bytw_val _), crn_of h3 (bytw_val _) (bytw_val _), crn_of h4 (bytw_val _) (bytw_val _), crn_of h5 (bytw_val _) (bytw_val _), crn_of h6 (bytw_val _) (bytw_val _)⟩

/-- the room in which Painted draws: object 1 of noughts, object 2 the texture -/
def R2 (A B : Nat) : Rm := rCreate (rCreate gNew.rm 1 A B) 2 24 1
def R3 (A B : Nat) (sl : List UInt8) : Rm := rBytes (R2 A B) 2 (wrt (zeros 24) 0 sl)
def R4 (A B : Nat) (sl code : List UInt8) : Rm := rCode (R3 A B sl) 3 code

section
variable {A B : Nat} {sl code : List UInt8} (hA : 1 ≤ A ∧ A ≤ 15) (hB : 1 ≤ B ∧ B ≤ 15)
include hA hB
theorem mul15 : 1 ≤ A * B ∧ A * B ≤ 225 := ⟨Nat.mul_pos (by omega) (by omega), Nat.le_trans (Nat.mul_le_mul hA.2 hB.2) (by omega)⟩
theorem can_two : can (rCreate gNew.rm 1 A B).bs 2 24 1 = 0 := by
  have hm := mul15 hA hB
  have hz : ((rCreate gNew.rm 1 A B).bs 1).length = A * B := by show (zeros (A * B)).length = A * B; simp [zeros]
  have ht : tot (rCreate gNew.rm 1 A B).bs 8 = pg (A * B : Int) := by
    show tot (updA gNew.rm.bs 1 (zeros (A * B))) 8 = _
    rw [tot_upd (by omega), tot_new]
    simp [gNew, pg, zeros]
  unfold can
  rw [if_neg (by omega), if_neg (by show ¬ 0 < ([] : List UInt8).length; simp), if_pos ⟨by decide, by decide⟩, if_neg]
  rw [ht]
  have : (A : Int) * B ≤ 225 := by rw [← Int.natCast_mul]; omega
  unfold pg
  omega
theorem ok1 : okR (rCreate gNew.rm 1 A B) := okR_new.create (can_first (by omega) (by omega) 1 (by omega))
theorem ok2 : okR (R2 A B) := (ok1 hA hB).create (can_two hA hB)
theorem ok3 : okR (R3 A B sl) := (ok2 hA hB).bytes (by rw [wrt_length]; rfl)
theorem ok4 (hv : (ver (str code)).1 = 0) (hl : code.length ≤ 128) : okR (R4 A B sl code) := (ok3 hA hB).code hv hl
end

theorem R3_bs1 (A B : Nat) (sl : List UInt8) : (R3 A B sl).bs 1 = zeros (A * B) := rfl
theorem R3_bs2 (A B : Nat) (sl : List UInt8) : (R3 A B sl).bs 2 = wrt (zeros 24) 0 sl := rfl
theorem R2_bs2 (A B : Nat) : (R2 A B).bs 2 = zeros 24 := rfl
theorem R3_has (A B : Nat) (sl : List UInt8) : (R3 A B sl).has 3 = false := rfl
theorem R4_has (A B : Nat) (sl code : List UInt8) : (R4 A B sl code).has 3 = true := rfl
theorem R4_cd (A B : Nat) (sl code : List UInt8) : (R4 A B sl code).cd 3 = code := rfl
theorem R4_wd (A B : Nat) (sl code : List UInt8) : (R4 A B sl code).wd 1 = A := rfl

/-- a Code of program 3 -/
def ccmd (code : List UInt8) : List UInt8 := byts [5, 3, (code.length : Int) / 4] ++ code

theorem ccmd_bytes {code : List UInt8} (h4 : code.length % 4 = 0) (hl : code.length ≤ 128) :
    (ccmd code).length = 3 + code.length ∧ bn (ccmd code) 0 = 5 ∧ bn (ccmd code) 1 = 3 ∧ bn (ccmd code) 2 = code.length / 4 ∧ (ccmd code).drop 3 = code := by
  refine ⟨by show code.length + 3 = _; omega, rfl, rfl, ?_, rfl⟩
  have : (bn (ccmd code) 2 : Int) = (code.length : Int) / 4 := ofNat_toNat (by omega)
  omega

theorem code_as {R : Rm} {code : List UInt8} (h4 : code.length % 4 = 0) (hl : code.length ≤ 128) :
    (ccmd code).length = pz (ccmd code) ∧ 0 < (ccmd code).length ∧ (ccmd code).length ≤ 1024 ∧ pd R (ccmd code) = if (ver (str code)).1 = 0 then ([0], 1 + (code.length : Int) / 4, rCode R 3 code) else ([7], 1, R) := by
  obtain ⟨bl, b0, b1, b2, bd⟩ := ccmd_bytes h4 hl
  have hc : cer 3 (code.length / 4) code = if (ver (str code)).1 = 0 then 0 else 7 := by
    unfold cer
    rw [if_neg (by omega), if_neg (by omega)]
  refine ⟨?_, by omega, by omega, ?_⟩
  · rw [bl]; unfold pz dsz; rw [if_neg (by omega), b0, if_neg (by omega), if_neg (by omega), if_neg (by omega), if_neg (by omega), if_pos rfl, if_neg (by omega), b2]; omega
  · rw [pd_5 b0, b1, b2, bd, hc]
    by_cases hv : (ver (str code)).1 = 0
    · rw [if_pos hv, if_pos hv, if_pos rfl, if_pos rfl]
      have e : ((code.length / 4 : Nat) : Int) = (code.length : Int) / 4 := by omega
      rw [e]; rfl
    · rw [if_neg hv, if_neg hv, if_neg (by omega), if_neg (by omega)]; rfl

/-- the Draw: what it makes -/
theorem draw_as {R : Rm} {col xa ya xb yb xc yc : Int} (hc : 0 ≤ col ∧ col ≤ 255) :
    (dcmd col xa ya xb yb xc yc).length = pz (dcmd col xa ya xb yb xc yc) ∧ 0 < (dcmd col xa ya xb yb xc yc).length ∧ (dcmd col xa ya xb yb xc yc).length ≤ 1024 ∧ pd R (dcmd col xa ya xb yb xc yc) = ([eb (der R (dcmd col xa ya xb yb xc yc))], dwC R (dcmd col xa ya xb yb xc yc), dwR R (dcmd col xa ya xb yb xc yc)) := by
  obtain ⟨bl, b0, _⟩ := dcmd_bytes (xa := xa) (ya := ya) (xb := xb) (yb := yb) (xc := xc) (yc := yc) hc
  refine ⟨by rw [bl, pz_7 b0], by omega, by omega, pd_7 b0⟩

/-- what picture is asked for, beside a room and a Draw in it -/
structure PicOk (R : Rm) (m : List UInt8) (wd hg : Nat) (xa ya xb yb xc yc col : Int) (code tx : ByteArray) : Prop where
  w1 : 1 ≤ wd ∧ wd ≤ 15
  h1 : 1 ≤ hg ∧ hg ≤ 15
  wid : R.wd (bn m 1) = wd
  bs : R.bs (bn m 1) = zeros (wd * hg)
  ne : ¬ bn m 3 = bn m 1
  cd : str (R.cd (bn m 2)) = code
  tex : str (R.bs (bn m 3)) = tx
  ts : tx.size ≤ 576
  vr : (ver code).1 = 0
  cl : (bn m 4 : Int) = col
  c5 : crn m 5 = xa
  c7 : crn m 7 = ya
  c9 : crn m 9 = xb
  c11 : crn m 11 = yb
  c13 : crn m 13 = xc
  c15 : crn m 15 = yc
  na : near xa ya = true
  nb : near xb yb = true
  nc : near xc yc = true

theorem PicOk.px {R : Rm} {m : List UInt8} {wd hg : Nat} {xa ya xb yb xc yc col : Int} {code tx : ByteArray} (h : PicOk R m wd hg xa ya xb yb xc yc col code tx) {x y : Nat} (hx : x < wd) :
    dpx R m (wd * y + x) = cov xa ya xb yb xc yc x y ∧ dsh R m (dst R m (wd * y + x)).1 (wd * y + x) = sh code tx 64 (reg0 x y 0 col) 0 := by
  obtain ⟨e1, e2⟩ := pix_at (y := y) hx
  have e3 : bn (dst R m (wd * y + x)).1 (wd * y + x) = 0 := by
    rw [dst_later R m _ _ (Nat.le_refl _), h.bs]
    unfold bn zeros
    rw [List.getD_eq_getElem?_getD, List.getElem?_replicate]
    split <;> rfl
  constructor
  · unfold dpx; rw [h.wid, e1, e2, h.c5, h.c7, h.c9, h.c11, h.c13, h.c15]
  · unfold dsh; rw [h.wid, e1, e2, h.cd, if_neg h.ne, h.tex, e3, h.cl]; rfl

end Go.Proofs.Ytbedkfgdhaajaab
