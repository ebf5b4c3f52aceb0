/- The document's context, as plain functions (P8, P10 to P12; Draw in a text of its own). Nothing of the dump is imported. -/
import Derived.Test.YtbedkfgdhaajaabBase
import Derived.Test.YtbedkfgdhaajaabPlain
namespace Go.Proofs.Ytbedkfgdhaajaab

/-- a context's objects and programs -/
structure Rm where
  wd : Nat → Int
  bs : Nat → List UInt8
  has : Nat → Bool
  cd : Nat → List UInt8

/-- what holds of every room that came about by commands -/
structure okR (R : Rm) : Prop where
  len : ∀ k, k < 8 → (R.bs k).length ≤ 576
  wde : ∀ k, k < 8 → 0 ≤ R.wd k ∧ R.wd k ≤ 24
  zer : ∀ k, k < 8 → (0 < R.wd k ↔ 0 < (R.bs k).length)
  hig : ∀ k, k < 8 → ((R.bs k).length : Int) ≤ 24 * R.wd k
  cde : ∀ k, k < 4 → R.has k = true → (ver (str (R.cd k))).1 = 0
  cln : ∀ k, k < 4 → (R.cd k).length ≤ 128

def wrd (s : List UInt8) (i : Nat) : Nat := bn s i + 256 * bn s (i + 1)

theorem wrd_le (s : List UInt8) (i : Nat) : wrd s i ≤ 65535 := by
  have := bn_le s i
  have := bn_le s (i + 1)
  unfold wrd
  omega

/-- how long the command is that begins the text; 0: that is not there to be seen yet -/
def dsz (s : List UInt8) : Nat :=
  if s.length = 0 then 0
  else if bn s 0 = 1 then 4
  else if bn s 0 = 2 then 2
  else if bn s 0 = 3 then (if s.length < 5 then 0 else 5 + bn s 4)
  else if bn s 0 = 4 then 5
  else if bn s 0 = 5 then (if s.length < 3 then 0 else 3 + 4 * bn s 2)
  else if bn s 0 = 6 then 3
  else if bn s 0 = 7 then 17
  else 1

/-- has the context an object of this handle? -/
def thr (R : Rm) (h : Nat) : Bool := decide (h < 8 ∧ 0 < (R.bs h).length)

/-- bytes b, from number a on written over with s -/
def wrt (b : List UInt8) (a : Nat) (s : List UInt8) : List UInt8 := (List.range b.length).map fun i => if a ≤ i ∧ i < a + s.length then s.getD (i - a) 0 else b.getD i 0

theorem wrt_length (b : List UInt8) (a : Nat) (s : List UInt8) : (wrt b a s).length = b.length := by simp [wrt]
theorem wrt_get (b : List UInt8) (a : Nat) (s : List UInt8) {i : Nat} (h : i < b.length) : (wrt b a s)[i]'(by rw [wrt_length]; exact h) = if a ≤ i ∧ i < a + s.length then s.getD (i - a) 0 else b.getD i 0 := by simp [wrt]

theorem wrt_nil (b : List UInt8) (a : Nat) : wrt b a [] = b := by
  refine List.ext_getElem (wrt_length _ _ _) (fun i h1 h2 => ?_)
  rw [wrt_get _ _ _ h2, if_neg (by simp)]
  simp [List.getD, List.getElem?_eq_getElem h2]

theorem wrt_in (b : List UInt8) (a : Nat) (s : List UInt8) (n : Nat) (hn : n < s.length) : wrt b a (s.take (n + 1)) = (wrt b a (s.take n)).set (a + n) s[n] := by
  refine List.ext_getElem (by rw [List.length_set, wrt_length, wrt_length]) (fun i h1 h2 => ?_)
  rw [wrt_length] at h1
  rw [wrt_get _ _ _ h1, List.getElem_set]
  have e1 : (s.take (n + 1)).length = n + 1 := List.length_take_of_le (by omega)
  have e2 : (s.take n).length = n := List.length_take_of_le (by omega)
  by_cases e : a + n = i
  · subst e
    rw [if_pos rfl, if_pos ⟨by omega, by omega⟩, Nat.add_sub_cancel_left]
    simp [List.getD, List.getElem?_eq_getElem hn]
  · rw [if_neg e, wrt_get _ _ _ h1, e1, e2]
    by_cases g : a ≤ i ∧ i < a + n
    · rw [if_pos ⟨g.1, by omega⟩, if_pos g]
      simp only [List.getD_eq_getElem?_getD, List.getElem?_take]
      rw [if_pos (by omega), if_pos (by omega)]
    · rw [if_neg (by omega), if_neg g]

theorem wrt_out (b : List UInt8) (a : Nat) (s : List UInt8) (n : Nat) (hn : n < s.length) (h : b.length ≤ a + n) : wrt b a (s.take (n + 1)) = wrt b a (s.take n) := by
  refine List.ext_getElem (by rw [wrt_length, wrt_length]) (fun i h1 h2 => ?_)
  rw [wrt_length] at h1
  rw [wrt_get _ _ _ h1, wrt_get _ _ _ h1]
  have e1 : (s.take (n + 1)).length = n + 1 := List.length_take_of_le (by omega)
  have e2 : (s.take n).length = n := List.length_take_of_le (by omega)
  rw [e1, e2]
  by_cases g : a ≤ i ∧ i < a + n
  · rw [if_pos ⟨g.1, by omega⟩, if_pos g]
    simp only [List.getD_eq_getElem?_getD, List.getElem?_take]
    rw [if_pos (by omega), if_pos (by omega)]
  · rw [if_neg (by omega), if_neg g]

/-- n bytes of b from number a on; 0 behind the end -/
def rdb (b : List UInt8) (a n : Nat) : List UInt8 := (List.range n).map fun i => b.getD (a + i) 0

theorem rdb_length (b : List UInt8) (a n : Nat) : (rdb b a n).length = n := by simp [rdb]

/-- the bytes read so far, noughts behind them -/
def rdp (b : List UInt8) (a n k : Nat) : List UInt8 := (List.range n).map fun i => if i < k then b.getD (a + i) 0 else 0

theorem rdp_length (b : List UInt8) (a n k : Nat) : (rdp b a n k).length = n := by simp [rdp]
theorem rdp_zero (b : List UInt8) (a n : Nat) : rdp b a n 0 = zeros n := by
  refine List.ext_getElem (by simp [rdp, zeros]) (fun i h1 h2 => by simp [rdp, zeros])
theorem rdp_all (b : List UInt8) (a n : Nat) : rdp b a n n = rdb b a n := by
  unfold rdp rdb
  refine List.map_congr_left (fun i hi => ?_)
  rw [if_pos (by simpa using hi)]
theorem rdp_in (b : List UInt8) (a n k : Nat) (h : a + k < b.length) : rdp b a n (k + 1) = (rdp b a n k).set k b[a + k] := by
  refine List.ext_getElem (by rw [List.length_set, rdp_length, rdp_length]) (fun i h1 h2 => ?_)
  rw [List.getElem_set]
  simp only [rdp, List.getElem_map, List.getElem_range]
  by_cases e : k = i
  · subst e
    rw [if_pos rfl, if_pos (by omega)]
    simp [List.getD, List.getElem?_eq_getElem h]
  · rw [if_neg e]
    by_cases g : i < k
    · rw [if_pos g, if_pos (by omega)]
    · rw [if_neg g, if_neg (by omega)]
theorem rdp_out (b : List UInt8) (a n k : Nat) (h : b.length ≤ a + k) : rdp b a n (k + 1) = rdp b a n k := by
  unfold rdp
  refine List.map_congr_left (fun i _ => ?_)
  by_cases g : i < k
  · rw [if_pos g, if_pos (by omega)]
  · rw [if_neg g]
    by_cases g2 : i < k + 1
    · rw [if_pos g2]
      have : b.length ≤ a + i := by omega
      simp [List.getD, List.getElem?_eq_none this]
    · rw [if_neg g2]

/-- P12: the error of Code -/
def cer (k n : Nat) (s : List UInt8) : Int := if 4 ≤ k then 6 else if 32 < n then 7 else if (ver (str s)).1 = 0 then 0 else 7

/-- Create, Drop, Write, Clear, Code: the room behind them -/
def rCreate (R : Rm) (h a b : Nat) : Rm := { R with wd := updA R.wd h a, bs := updA R.bs h (zeros (a * b)) }
def rDrop (R : Rm) (h : Nat) : Rm := { R with wd := updA R.wd h 0, bs := updA R.bs h [] }
def rBytes (R : Rm) (h : Nat) (l : List UInt8) : Rm := { R with bs := updA R.bs h l }
def rCode (R : Rm) (k : Nat) (s : List UInt8) : Rm := { R with has := updA R.has k true, cd := updA R.cd k s }

theorem okR.create {R : Rm} (h : okR R) {k a b : Nat} (hc : can R.bs k a b = 0) : okR (rCreate R k a b) := by
  obtain ⟨_, _, ha, hb, _⟩ := can_ok hc
  have hm := mul24 (a := (a : Int)) (b := (b : Int)) (by omega) (by omega)
  have hmb : (a : Int) * b ≤ (a : Int) * 24 := Int.mul_le_mul_of_nonneg_left (by omega) (by omega)
  refine ⟨fun j hj => ?_, fun j hj => ?_, fun j hj => ?_, fun j hj => ?_, h.cde, h.cln⟩
  · show (updA R.bs k (zeros (a * b)) j).length ≤ 576
    by_cases e : j = k
    · subst e; rw [updA_same]; simp only [zeros, List.length_replicate]; omega
    · rw [updA_other _ _ e]; exact h.len j hj
  · show 0 ≤ updA R.wd k a j ∧ updA R.wd k a j ≤ 24
    by_cases e : j = k
    · subst e; rw [updA_same]; omega
    · rw [updA_other _ _ e]; exact h.wde j hj
  · show 0 < updA R.wd k a j ↔ 0 < (updA R.bs k (zeros (a * b)) j).length
    by_cases e : j = k
    · subst e; rw [updA_same, updA_same]; simp only [zeros, List.length_replicate]; omega
    · rw [updA_other _ _ e, updA_other _ _ e]; exact h.zer j hj
  · show ((updA R.bs k (zeros (a * b)) j).length : Int) ≤ 24 * updA R.wd k a j
    by_cases e : j = k
    · subst e; rw [updA_same, updA_same]; simp only [zeros, List.length_replicate]; rw [Int.natCast_mul]; omega
    · rw [updA_other _ _ e, updA_other _ _ e]; exact h.hig j hj

theorem okR.drop {R : Rm} (h : okR R) {k : Nat} : okR (rDrop R k) := by
  refine ⟨fun j hj => ?_, fun j hj => ?_, fun j hj => ?_, fun j hj => ?_, h.cde, h.cln⟩
  · show (updA R.bs k [] j).length ≤ 576
    by_cases e : j = k
    · subst e; rw [updA_same]; simp
    · rw [updA_other _ _ e]; exact h.len j hj
  · show 0 ≤ updA R.wd k 0 j ∧ updA R.wd k 0 j ≤ 24
    by_cases e : j = k
    · subst e; rw [updA_same]; omega
    · rw [updA_other _ _ e]; exact h.wde j hj
  · show 0 < updA R.wd k 0 j ↔ 0 < (updA R.bs k [] j).length
    by_cases e : j = k
    · subst e; rw [updA_same, updA_same]; simp
    · rw [updA_other _ _ e, updA_other _ _ e]; exact h.zer j hj
  · show ((updA R.bs k [] j).length : Int) ≤ 24 * updA R.wd k 0 j
    by_cases e : j = k
    · subst e; rw [updA_same, updA_same]; simp
    · rw [updA_other _ _ e, updA_other _ _ e]; exact h.hig j hj

theorem okR.bytes {R : Rm} (h : okR R) {k : Nat} {l : List UInt8} (hl : l.length = (R.bs k).length) : okR (rBytes R k l) := by
  have e : ∀ j, (updA R.bs k l j).length = (R.bs j).length := by
    intro j
    by_cases e : j = k
    · subst e; rw [updA_same]; exact hl
    · rw [updA_other _ _ e]
  refine ⟨fun j hj => ?_, h.wde, fun j hj => ?_, fun j hj => ?_, h.cde, h.cln⟩
  · show (updA R.bs k l j).length ≤ 576
    rw [e]; exact h.len j hj
  · show 0 < R.wd j ↔ 0 < (updA R.bs k l j).length
    rw [e]; exact h.zer j hj
  · show ((updA R.bs k l j).length : Int) ≤ 24 * R.wd j
    rw [e]; exact h.hig j hj

theorem okR.code {R : Rm} (h : okR R) {k : Nat} {s : List UInt8} (hs : (ver (str s)).1 = 0) (hl : s.length ≤ 128) : okR (rCode R k s) := by
  refine ⟨h.len, h.wde, h.zer, h.hig, fun j hj => ?_, fun j hj => ?_⟩
  · show updA R.has k true j = true → (ver (str (updA R.cd k s j))).1 = 0
    by_cases e : j = k
    · subst e; rw [updA_same, updA_same]; exact fun _ => hs
    · rw [updA_other _ _ e, updA_other _ _ e]; exact h.cde j hj
  · show (updA R.cd k s j).length ≤ 128
    by_cases e : j = k
    · subst e; rw [updA_same]; exact hl
    · rw [updA_other _ _ e]; exact h.cln j hj

end Go.Proofs.Ytbedkfgdhaajaab
