/- Plain functions and facts on bytes and programs (P4): nothing of the dump is imported. -/
namespace Go.Proofs.Ytbedkfgdhaajaab

/-- byte number i of a text; 0, if there is none -/
def bt (s : ByteArray) (i : Nat) : Int := if h : i < s.size then (s[i].toNat : Int) else 0

theorem bt_of {s : ByteArray} {i : Nat} (h : i < s.size) : bt s i = (s[i].toNat : Int) := by
  unfold bt; rw [dif_pos h]

theorem bt_bd (s : ByteArray) (i : Nat) : 0 ≤ bt s i ∧ bt s i ≤ 255 := by
  unfold bt
  split
  · rename_i h
    have := UInt8.toNat_lt s[i]
    omega
  · omega

/-- is (o, .., b, ..) an instruction of a text of n fours? -/
def vld (o b n : Int) : Bool := if o = 7 then decide (b ≤ n) else decide (o ≤ 8)

def okI (s : ByteArray) (n k : Nat) : Bool := vld (bt s (4 * k)) (bt s (4 * k + 2)) n

theorem okI_eq (s : ByteArray) (k : Nat) : okI s (s.size / 4) k = vld (bt s (4 * k)) (bt s (4 * k + 2)) ((s.size : Int) / 4) := by
  unfold okI
  have e : ((s.size / 4 : Nat) : Int) = (s.size : Int) / 4 := by omega
  rw [e]

theorem okI_high {s : ByteArray} {n k : Nat} (h : 4 * k < s.size) (h8 : 8 < (s[4 * k].toNat : Int)) : okI s n k = false := by
  unfold okI vld
  rw [bt_of h, if_neg (by omega)]
  exact decide_eq_false (by omega)

theorem okI_low {s : ByteArray} {n k : Nat} (h : 4 * k < s.size) (h8 : (s[4 * k].toNat : Int) ≤ 8) (h7 : ¬ (s[4 * k].toNat : Int) = 7) : okI s n k = true := by
  unfold okI vld
  rw [bt_of h, if_neg h7]
  exact decide_eq_true h8

theorem okI_jump {s : ByteArray} {k : Nat} (h : 4 * k < s.size) (h7 : (s[4 * k].toNat : Int) = 7) : okI s (s.size / 4) k = decide (bt s (4 * k + 2) ≤ (s.size : Int) / 4) := by
  rw [okI_eq]
  unfold vld
  rw [bt_of h, if_pos h7]

/-- the first four bytes of n that are no instruction -/
def bad (s : ByteArray) (n : Nat) : Option Nat := (List.range n).find? fun k => !okI s n k

theorem bad_none {s : ByteArray} {n : Nat} (h : ∀ j, j < n → okI s n j = true) : bad s n = none := by
  unfold bad
  rw [List.find?_eq_none]
  intro x hx
  rw [List.mem_range] at hx
  simp [h x hx]

theorem bad_some {s : ByteArray} {n k : Nat} (hk : k < n) (h : ∀ j, j < k → okI s n j = true) (hb : okI s n k = false) : bad s n = some k := by
  unfold bad
  rw [List.find?_range_eq_some]
  refine ⟨by simp [hb], by simpa using hk, fun j hj => by simp [h j hj]⟩

theorem all_succ {p : Nat → Bool} {k : Nat} (h : ∀ j, j < k → p j = true) (hk : p k = true) : ∀ j, j < k + 1 → p j = true := by
  intro j hj
  by_cases e : j = k
  · rw [e]; exact hk
  · exact h j (by omega)

/-- P4 -/
def ver (s : ByteArray) : Int × Int :=
  if 128 < s.size then (12, 0)
  else match bad s (s.size / 4) with
    | some k => (7, k)
    | none => if s.size % 4 = 0 then (0, 0) else (7, (s.size / 4 : Nat))

theorem ver_long {s : ByteArray} (h : 128 < s.size) : ver s = (12, 0) := by unfold ver; rw [if_pos h]

theorem ver_bad {s : ByteArray} {n k : Nat} (h : ¬ 128 < s.size) (hn : n = s.size / 4) (hk : k < n) (ho : ∀ j, j < k → okI s n j = true) (hb : okI s n k = false) : ver s = (7, (k : Int)) := by
  subst hn
  unfold ver
  rw [if_neg h, bad_some hk ho hb]

theorem ver_odd {s : ByteArray} {n : Nat} (h : ¬ 128 < s.size) (hn : n = s.size / 4) (ho : ∀ j, j < n → okI s n j = true) (hr : s.size % 4 ≠ 0) : ver s = (7, (n : Int)) := by
  subst hn
  unfold ver
  rw [if_neg h, bad_none ho]
  simp [hr]

theorem ver_ok {s : ByteArray} {n : Nat} (h : ¬ 128 < s.size) (hn : n = s.size / 4) (ho : ∀ j, j < n → okI s n j = true) (hr : s.size % 4 = 0) : ver s = (0, 0) := by
  subst hn
  unfold ver
  rw [if_neg h, bad_none ho]
  simp [hr]

end Go.Proofs.Ytbedkfgdhaajaab
