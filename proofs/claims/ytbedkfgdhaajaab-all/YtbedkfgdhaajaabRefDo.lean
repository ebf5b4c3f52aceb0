/- Walks: the document's answer: any command, whole (P8, P10 to P13). -/
import Derived.Test.YtbedkfgdhaajaabRefPlain
import Derived.Test.YtbedkfgdhaajaabDocDraw
namespace Go.Proofs.Ytbedkfgdhaajaab
open Go.RowKit

/-- what is asked of Draw's walk (its own text shows it) -/
def DrawsRight : Prop := ∀ (b0 : Nat) (s : List UInt8) (R : Rm) (w : World), RoomAt w b0 0 R → okR R → s.length = 17 →
    Calls Try.prog 105 #[.pointer (some ⟨b0, 0, none⟩), .string (str s)] w fun x w' => x = .returned (.tuple #[.int .i64 (der R s), .int .i64 (dwC R s)]) ∧ RGoes b0 0 w w' (dwR R s)

/-- the plain commands, in one contract -/
def plR (R : Rm) (s : List UInt8) : List UInt8 × Int × Rm :=
  if bn s 0 = 2 then ([], 1, rDrop R (bn s 1))
  else if bn s 0 = 3 then ([], 1 + (bn s 4 : Int), rBytes R (bn s 1) (wrt (R.bs (bn s 1)) (wrd s 2) (s.drop 5)))
  else if bn s 0 = 4 then (rdb (R.bs (bn s 1)) (wrd s 2) (bn s 4), 1 + (bn s 4 : Int), R)
  else ([], 1 + ((R.bs (bn s 1)).length : Int), rBytes R (bn s 1) (List.replicate (R.bs (bn s 1)).length (s.getD 2 0)))

theorem plain_any (b0 : Nat) (s : List UInt8) (R : Rm) (w : World) (hR : RoomAt w b0 0 R) (hk : okR R) (hl : s.length = dsz s) (ho : bn s 0 = 2 ∨ bn s 0 = 3 ∨ bn s 0 = 4 ∨ bn s 0 = 6) (h8 : bn s 1 < 8) (hp : 0 < s.length) :
    Calls Try.prog 106 #[.pointer (some ⟨b0, 0, none⟩), .string (str s)] w fun x w' => x = .returned (.tuple #[.string (str (plR R s).1), .int .i64 (plR R s).2.1]) ∧ RGoes b0 0 w w' (plR R s).2.2 := by
  have hne : ¬ s.length = 0 := by omega
  rcases ho with h | h | h | h
  · have e : plR R s = ([], 1, rDrop R (bn s 1)) := by unfold plR; rw [if_pos h]
    have el : s.length = 2 := by rw [hl]; unfold dsz; rw [if_neg hne, if_neg (by omega), if_pos h]
    rw [e]
    exact pln_drop b0 s R w hR hk h el h8
  · have e : plR R s = ([], 1 + (bn s 4 : Int), rBytes R (bn s 1) (wrt (R.bs (bn s 1)) (wrd s 2) (s.drop 5))) := by unfold plR; rw [if_neg (by omega), if_pos h]
    have el : s.length = 5 + bn s 4 := by
      have := hl
      unfold dsz at this
      rw [if_neg hne, if_neg (by omega), if_neg (by omega), if_pos h] at this
      split at this
      · omega
      · exact this
    rw [e]
    exact pln_write b0 s R w hR hk h el h8
  · have e : plR R s = (rdb (R.bs (bn s 1)) (wrd s 2) (bn s 4), 1 + (bn s 4 : Int), R) := by unfold plR; rw [if_neg (by omega), if_neg (by omega), if_pos h]
    have el : s.length = 5 := by rw [hl]; unfold dsz; rw [if_neg hne, if_neg (by omega), if_neg (by omega), if_neg (by omega), if_pos h]
    rw [e]
    refine (pln_read b0 s R w hR hk h el h8).mono ?_
    rintro x w' ⟨h1, h2⟩
    exact ⟨h1, RGoes.stay hR h2⟩
  · have e : plR R s = ([], 1 + ((R.bs (bn s 1)).length : Int), rBytes R (bn s 1) (List.replicate (R.bs (bn s 1)).length (s.getD 2 0))) := by unfold plR; rw [if_neg (by omega), if_neg (by omega), if_neg (by omega)]
    have el : s.length = 3 := by rw [hl]; unfold dsz; rw [if_neg hne, if_neg (by omega), if_neg (by omega), if_neg (by omega), if_neg (by omega), if_neg (by omega), if_pos h]
    rw [e]
    exact pln_clear b0 s R w hR hk h el h8

theorem str_cons (x : UInt8) (l : List UInt8) : str [x] ++ str l = str (x :: l) := by
  unfold str
  apply ByteArray.ext
  simp [ByteArray.data_append]

end Go.Proofs.Ytbedkfgdhaajaab
