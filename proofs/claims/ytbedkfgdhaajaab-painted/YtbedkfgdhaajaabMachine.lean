/- Plain functions and facts on programs that run (P5): nothing of the dump is imported. -/
import Derived.Test.YtbedkfgdhaajaabPlain
namespace Go.Proofs.Ytbedkfgdhaajaab

/-- what an instruction of the kinds 0 to 6 makes of b and c (x and y are the registers of these numbers) -/
def vl (o b c x y : Int) (tx : ByteArray) : Int :=
  if o = 0 then b + 256 * c else if o = 1 then (x + y) % 65536 else if o = 2 then (x - y) % 65536 else if o = 3 then (x * y) % 65536
  else if o = 4 then x / y else if o = 5 then (if x < y then 1 else 0) else bt tx x.toNat

/-- a register's number -/
def wordy (v : Int) : Prop := 0 ≤ v ∧ v ≤ 65535
def bytey (v : Int) : Prop := 0 ≤ v ∧ v ≤ 255

theorem quot_bd {x y : Int} (h1 : wordy x) (h2 : wordy y) : wordy (x / y) := by
  unfold wordy at *
  by_cases h : 0 < y
  · exact ⟨Int.ediv_nonneg h1.1 h2.1, Int.le_trans (Int.ediv_le_self _ h1.1) h1.2⟩
  · have : y = 0 := by omega
    subst this
    simp

theorem vl_bd {o b c x y : Int} {tx : ByteArray} (h1 : bytey b) (h2 : bytey c) (h3 : wordy x) (h4 : wordy y) : wordy (vl o b c x y tx) := by
  have hq := quot_bd h3 h4
  have hb := bt_bd tx x.toNat
  unfold vl
  unfold wordy bytey at *
  split
  · omega
  · split
    · omega
    · split
      · omega
      · split
        · generalize x * y = z; omega
        · split
          · exact hq
          · split
            · split <;> omega
            · omega

def upd (r : Nat → Int) (k : Nat) (v : Int) : Nat → Int := fun j => if j = k then v else r j

theorem upd_same (r : Nat → Int) (k : Nat) (v : Int) : upd r k v k = v := by unfold upd; rw [if_pos rfl]
theorem upd_other (r : Nat → Int) {j k : Nat} (v : Int) (h : j ≠ k) : upd r k v j = r j := by unfold upd; rw [if_neg h]
theorem upd_bd {r : Nat → Int} {k : Nat} {v : Int} (h : ∀ j, wordy (r j)) (hv : wordy v) : ∀ j, wordy (upd r k v j) := by
  intro j
  unfold upd
  split
  · exact hv
  · exact h j

/-- the registers, and the next instruction's number, behind one instruction -/
def stR (o a b c : Int) (tx : ByteArray) (r : Nat → Int) : Nat → Int :=
  if o ≤ 6 then upd r (a % 8).toNat (vl o b c (r (b % 8).toNat) (r (c % 8).toNat) tx) else r
def stN (o a b : Int) (r : Nat → Int) (n : Nat) : Nat := if o = 7 ∧ r (a % 8).toNat ≠ 0 then b.toNat else n + 1

theorem stR_bd {o a b c : Int} {tx : ByteArray} {r : Nat → Int} (h : ∀ j, wordy (r j)) (hb : bytey b) (hc : bytey c) : ∀ j, wordy (stR o a b c tx r j) := by
  unfold stR
  split
  · exact upd_bd h (vl_bd hb hc (h _) (h _))
  · exact h

/-- P5 of a program, f instructions more being allowed: the answer, and how many instructions were done -/
def sh (s tx : ByteArray) : Nat → (Nat → Int) → Nat → Int × Int
  | 0, r, n => if s.size / 4 ≤ n then (r 0 % 256, 64) else (170, 64)
  | f + 1, r, n =>
    if s.size / 4 ≤ n then (r 0 % 256, 64 - ((f + 1 : Nat) : Int))
    else if bt s (4 * n) = 8 then (r 0 % 256, 64 - (f : Int))
    else sh s tx f (stR (bt s (4 * n)) (bt s (4 * n + 1)) (bt s (4 * n + 2)) (bt s (4 * n + 3)) tx r) (stN (bt s (4 * n)) (bt s (4 * n + 1)) (bt s (4 * n + 2)) r n)

theorem sh_out {s tx : ByteArray} {f : Nat} {r : Nat → Int} {n : Nat} (h : s.size / 4 ≤ n) : sh s tx f r n = (r 0 % 256, 64 - (f : Int)) := by
  cases f with
  | zero => unfold sh; rw [if_pos h]; rfl
  | succ f => unfold sh; rw [if_pos h]

theorem sh_stuck {s tx : ByteArray} {r : Nat → Int} {n : Nat} (h : ¬ s.size / 4 ≤ n) : sh s tx 0 r n = (170, 64) := by
  unfold sh; rw [if_neg h]

theorem sh_end {s tx : ByteArray} {f : Nat} {r : Nat → Int} {n : Nat} (h : ¬ s.size / 4 ≤ n) (h8 : bt s (4 * n) = 8) : sh s tx (f + 1) r n = (r 0 % 256, 64 - (f : Int)) := by
  rw [sh, if_neg h, if_pos h8]

theorem sh_step {s tx : ByteArray} {f : Nat} {r : Nat → Int} {n : Nat} (h : ¬ s.size / 4 ≤ n) (h8 : ¬ bt s (4 * n) = 8) :
    sh s tx (f + 1) r n = sh s tx f (stR (bt s (4 * n)) (bt s (4 * n + 1)) (bt s (4 * n + 2)) (bt s (4 * n + 3)) tx r) (stN (bt s (4 * n)) (bt s (4 * n + 1)) (bt s (4 * n + 2)) r n) := by
  rw [sh, if_neg h, if_neg h8]

/-- the registers as a pixel lays them -/
def reg0 (x y old col : Int) : Nat → Int := fun j => if j = 0 then x else if j = 1 then y else if j = 2 then old else if j = 3 then col else 0

theorem reg0_bd {x y old col : Int} (h1 : bytey x) (h2 : bytey y) (h3 : bytey old) (h4 : bytey col) : ∀ j, wordy (reg0 x y old col j) := by
  intro j
  unfold reg0 bytey wordy at *
  split
  · omega
  · split
    · omega
    · split
      · omega
      · split <;> omega

def inb (v : Int) : Bool := decide (0 ≤ v ∧ v ≤ 255)

/-- P5 -/
def shd (s : ByteArray) (x y old col : Int) (tx : ByteArray) : Int × Int × Int :=
  if (ver s).1 = 0 then
    if 576 < tx.size then (0, 0, 12)
    else if (inb x && inb y && inb old && inb col) = true then ((sh s tx 64 (reg0 x y old col) 0).1, (sh s tx 64 (reg0 x y old col) 0).2, 0)
    else (0, 0, 13)
  else (0, 0, (ver s).1)

theorem ver_good {s : ByteArray} (h : (ver s).1 = 0) : s.size ≤ 128 ∧ ∀ k, k < s.size / 4 → bt s (4 * k) ≤ 8 := by
  unfold ver at h
  split at h
  · simp at h
  · refine ⟨by omega, ?_⟩
    split at h
    · simp at h
    · rename_i hb
      unfold bad at hb
      rw [List.find?_eq_none] at hb
      intro k hk
      have := hb k (by simpa using hk)
      simp at this
      unfold okI vld at this
      split at this
      · omega
      · exact of_decide_eq_true this

end Go.Proofs.Ytbedkfgdhaajaab
