/- The document's Draw, and any command, as plain functions (P8, P13). Nothing of the dump's is walked here. -/
import Derived.Test.YtbedkfgdhaajaabDoc
import Derived.Test.YtbedkfgdhaajaabPlane
import Derived.Test.YtbedkfgdhaajaabMachine
namespace Go.Proofs.Ytbedkfgdhaajaab

/-- a coordinate that stands in the command -/
def crn (s : List UInt8) (i : Nat) : Int := if 32768 ≤ wrd s i then (wrd s i : Int) - 65536 else wrd s i

/-- P13: the error of Draw -/
def der (R : Rm) (s : List UInt8) : Int :=
  if thr R (bn s 1) = false then 2
  else if 4 ≤ bn s 2 ∨ R.has (bn s 2) = false then 6
  else if thr R (bn s 3) = false then 2
  else if near (crn s 5) (crn s 7) = true ∧ near (crn s 9) (crn s 11) = true ∧ near (crn s 13) (crn s 15) = true then 0
  else 8

/-- does the triangle cover pixel number i? -/
def dpx (R : Rm) (s : List UInt8) (i : Nat) : Bool := cov (crn s 5) (crn s 7) (crn s 9) (crn s 11) (crn s 13) (crn s 15) ((i : Int) % R.wd (bn s 1)) ((i : Int) / R.wd (bn s 1))

/-- what the program makes of pixel number i, b being the object's bytes by now -/
def dsh (R : Rm) (s : List UInt8) (b : List UInt8) (i : Nat) : Int × Int :=
  sh (str (R.cd (bn s 2))) (str (if bn s 3 = bn s 1 then b else R.bs (bn s 3))) 64 (reg0 ((i : Int) % R.wd (bn s 1)) ((i : Int) / R.wd (bn s 1)) (bn b i) (bn s 4)) 0

/-- the object's bytes and the cost, the first i pixels being drawn -/
def dst (R : Rm) (s : List UInt8) : Nat → List UInt8 × Int
  | 0 => (R.bs (bn s 1), 1)
  | i + 1 => if dpx R s i = true then ((dst R s i).1.set i (UInt8.ofNat (dsh R s (dst R s i).1 i).1.toNat), (dst R s i).2 + 1 + (dsh R s (dst R s i).1 i).2) else dst R s i

theorem dst_yes {R : Rm} {s : List UInt8} {i : Nat} (h : dpx R s i = true) : dst R s (i + 1) = ((dst R s i).1.set i (UInt8.ofNat (dsh R s (dst R s i).1 i).1.toNat), (dst R s i).2 + 1 + (dsh R s (dst R s i).1 i).2) := by rw [dst, if_pos h]
theorem dst_no {R : Rm} {s : List UInt8} {i : Nat} (h : ¬ dpx R s i = true) : dst R s (i + 1) = dst R s i := by rw [dst, if_neg h]

theorem dst_len (R : Rm) (s : List UInt8) (i : Nat) : (dst R s i).1.length = (R.bs (bn s 1)).length := by
  induction i with
  | zero => rfl
  | succ i ih =>
    by_cases h : dpx R s i = true
    · rw [dst_yes h]; simp only [List.length_set]; exact ih
    · rw [dst_no h]; exact ih

theorem sh_bd (s tx : ByteArray) : ∀ (f : Nat) (r : Nat → Int) (n : Nat), f ≤ 64 → 0 ≤ (sh s tx f r n).1 ∧ (sh s tx f r n).1 ≤ 255 ∧ 0 ≤ (sh s tx f r n).2 ∧ (sh s tx f r n).2 ≤ 64
  | 0, r, n, _ => by
    unfold sh
    split
    · simp only; omega
    · simp only; omega
  | f + 1, r, n, hf => by
    rw [sh]
    split
    · simp only; omega
    · split
      · simp only; omega
      · exact sh_bd s tx f _ _ (by omega)

theorem dsh_bd (R : Rm) (s b : List UInt8) (i : Nat) : 0 ≤ (dsh R s b i).1 ∧ (dsh R s b i).1 ≤ 255 ∧ 0 ≤ (dsh R s b i).2 ∧ (dsh R s b i).2 ≤ 64 := sh_bd _ _ 64 _ _ (Nat.le_refl _)

theorem dst_bd (R : Rm) (s : List UInt8) (i : Nat) : 1 ≤ (dst R s i).2 ∧ (dst R s i).2 ≤ 1 + 65 * i := by
  induction i with
  | zero => simp [dst]
  | succ i ih =>
    have hb := dsh_bd R s (dst R s i).1 i
    by_cases h : dpx R s i = true
    · rw [dst_yes h]; simp only; omega
    · rw [dst_no h]; omega

/-- Draw: the cost, and the room behind it -/
def dwC (R : Rm) (s : List UInt8) : Int := if der R s = 0 then (dst R s (R.bs (bn s 1)).length).2 else 1
def dwR (R : Rm) (s : List UInt8) : Rm := if der R s = 0 then rBytes R (bn s 1) (dst R s (R.bs (bn s 1)).length).1 else R

/-- an error, as a byte -/
def eb (e : Int) : UInt8 := UInt8.ofNat e.toNat

/-- any command, whole: its reply, its cost, the room behind it -/
def ddo (R : Rm) (s : List UInt8) : List UInt8 × Int × Rm :=
  if bn s 0 = 1 then ([eb (can R.bs (bn s 1) (bn s 2) (bn s 3))], if can R.bs (bn s 1) (bn s 2) (bn s 3) = 0 then 1 + (bn s 2 : Int) * bn s 3 else 1, if can R.bs (bn s 1) (bn s 2) (bn s 3) = 0 then rCreate R (bn s 1) (bn s 2) (bn s 3) else R)
  else if bn s 0 = 5 then ([eb (cer (bn s 1) (bn s 2) (s.drop 3))], if cer (bn s 1) (bn s 2) (s.drop 3) = 0 then 1 + (bn s 2 : Int) else 1, if cer (bn s 1) (bn s 2) (s.drop 3) = 0 then rCode R (bn s 1) (s.drop 3) else R)
  else if bn s 0 = 7 then ([eb (der R s)], dwC R s, dwR R s)
  else if bn s 0 = 0 ∨ 7 < bn s 0 then ([1], 1, R)
  else if thr R (bn s 1) = false then ([2], 1, R)
  else if bn s 0 = 2 then ([0], 1, rDrop R (bn s 1))
  else if bn s 0 = 3 then ([0], 1 + (bn s 4 : Int), rBytes R (bn s 1) (wrt (R.bs (bn s 1)) (wrd s 2) (s.drop 5)))
  else if bn s 0 = 4 then (0 :: rdb (R.bs (bn s 1)) (wrd s 2) (bn s 4), 1 + (bn s 4 : Int), R)
  else ([0], 1 + ((R.bs (bn s 1)).length : Int), rBytes R (bn s 1) (List.replicate (R.bs (bn s 1)).length (s.getD 2 0)))

/-- a context: its room, the bytes that wait, what was spent on the first command, the replies that wait -/
structure Gst where
  op : Bool
  rm : Rm
  wait : List UInt8
  paid : Int
  out : List UInt8

/-- P8: may the first command be worked at, and how long is it? 0: no -/
def dnx (g : Gst) : Nat := if 1024 ≤ g.out.length then 0 else if g.wait.length < dsz g.wait then 0 else dsz g.wait

def dfin (g : Gst) : Gst := ⟨true, (ddo g.rm (g.wait.take (dnx g))).2.2, g.wait.drop (dnx g), 0, g.out ++ (ddo g.rm (g.wait.take (dnx g))).1⟩
def dcost (g : Gst) : Int := (ddo g.rm (g.wait.take (dnx g))).2.1

/-- P8 of one context: what it is behind a Run with this fuel, and how much of it is left -/
def dwork : Nat → Gst → Int → Gst × Int
  | 0, g, f => (g, f)
  | n + 1, g, f =>
    if dnx g = 0 then (g, f)
    else if f < dcost g - g.paid then ({ g with paid := g.paid + f }, 0)
    else dwork n (dfin g) (f - (dcost g - g.paid))

end Go.Proofs.Ytbedkfgdhaajaab
