/- Plain facts: bytes, pages, what Create refuses (P10). Nothing of the dump is imported. -/
import Derived.Test.YtbedkfgdhaajaabMem
import Derived.Deep.OwnRows
namespace Go.Proofs.Ytbedkfgdhaajaab
open Go.RowKit

def updA {α : Type} (f : Nat → α) (k : Nat) (v : α) : Nat → α := fun j => if j = k then v else f j

theorem updA_same {α : Type} (f : Nat → α) (k : Nat) (v : α) : updA f k v k = v := if_pos rfl

theorem updA_other {α : Type} (f : Nat → α) {j k : Nat} (v : α) (h : j ≠ k) : updA f k v j = f j := if_neg h

theorem addr_ne {b o o' : Nat} (h : o ≠ o') : (⟨b, o, none⟩ : Addr) ≠ ⟨b, o', none⟩ := by intro e; injection e with _ e2; exact h e2

theorem sz_setCell (W : World) (a : Addr) (v : Value) : (W.setCell a v).heap.size = W.heap.size := by simp [World.setCell]

theorem updA_updA {α : Type} (f : Nat → α) (k : Nat) (u v : α) : updA (updA f k u) k v = updA f k v := by
  funext j; unfold updA; split <;> rfl

theorem retI {k : IntKind} {a b : Int} (h : a = b) : Ending.returned (.int k a) = .returned (.int k b) := by rw [h]

def pg (n : Int) : Int := (n + 63) / 64

def tot (f : Nat → List UInt8) : Nat → Int
  | 0 => 0
  | k + 1 => tot f k + pg (f k).length

def side (a : Int) : Bool := decide (1 ≤ a ∧ a ≤ 24)

theorem tot_bd {f : Nat → List UInt8} {n : Nat} (h : ∀ k, k < n → (f k).length ≤ 576) : 0 ≤ tot f n ∧ tot f n ≤ 9 * n := by
  induction n with
  | zero => simp [tot]
  | succ n ih =>
    have := ih (fun k hk => h k (by omega))
    have := h n (by omega)
    simp only [tot]
    unfold pg
    omega

/-- P10: the error of Create -/
def can (f : Nat → List UInt8) (h a b : Nat) : Int :=
  if 8 ≤ h then 2 else if 0 < (f h).length then 3 else if side a = true ∧ side b = true then (if 12 < tot f 8 + pg (a * b : Int) then 5 else 0) else 4

theorem side_bd {a : Int} (h : side a = true) : 1 ≤ a ∧ a ≤ 24 := of_decide_eq_true h

theorem mul24 {a b : Int} (h : 1 ≤ a ∧ a ≤ 24) (k : 1 ≤ b ∧ b ≤ 24) : 1 ≤ a * b ∧ a * b ≤ 576 := by
  have h1 : 1 * 1 ≤ a * b := Int.mul_le_mul h.1 k.1 (by omega) (by omega)
  have h2 : a * b ≤ 24 * 24 := Int.mul_le_mul h.2 k.2 (by omega) (by omega)
  omega

theorem can_ok {f : Nat → List UInt8} {h a b : Nat} (hc : can f h a b = 0) : h < 8 ∧ (f h).length = 0 ∧ (1 ≤ a ∧ a ≤ 24) ∧ (1 ≤ b ∧ b ≤ 24) ∧ tot f 8 + pg (a * b : Int) ≤ 12 := by
  unfold can at hc
  split at hc
  · omega
  · split at hc
    · omega
    · split at hc
      · rename_i g
        have := side_bd g.1
        have := side_bd g.2
        split at hc
        · omega
        · omega
      · omega

/-- n noughts -/
def zeros (n : Nat) : List UInt8 := List.replicate n 0

theorem bs_made (W : World) (t : TypeId) (n : Nat) (hn : n ≤ maxLen) : BS (W.alloc (.cells (madeCells #[.int .u8 0] n) t)) (some ⟨W.heap.size, 0, none⟩) n (zeros n) := by
  have hsz : (madeCells #[Value.int .u8 0] n).size = n := size_madeCells _ _
  have hc : ∀ j, j < n → (W.alloc (.cells (madeCells #[.int .u8 0] n) t)).cell? ⟨W.heap.size, j, none⟩ = some (.int .u8 0) := by
    intro j hj
    unfold World.cell?
    have : (W.alloc (.cells (madeCells #[.int .u8 0] n) t)).heap[W.heap.size]? = some (.cells (madeCells #[.int .u8 0] n) t) := heap_alloc_new W _
    rw [this]
    simp only [Option.isSome_none, Bool.false_eq_true, if_false]
    rw [Array.getElem?_eq_getElem (by rw [hsz]; exact hj)]
    simp [madeCells, Nat.mod_one]
  refine ⟨by simp [zeros], hn, fun g => (by cases g), fun a g => (by cases g; exact ⟨rfl, by simp⟩), fun a g j hj => ?_, fun a g j hj => ?_⟩
  · cases g
    simp only [Nat.zero_add]
    rw [hc j (by simpa [zeros] using hj)]
    simp [zeros]
  · cases g
    simp only [Nat.zero_add]
    refine ⟨by rw [hc j hj]; rfl, ?_⟩
    unfold World.frozen?
    have : (W.alloc (.cells (madeCells #[.int .u8 0] n) t)).heap[W.heap.size]? = some (.cells (madeCells #[.int .u8 0] n) t) := heap_alloc_new W _
    rw [this]
    simp

theorem can_bd (f : Nat → List UInt8) (h a b : Nat) : 0 ≤ can f h a b ∧ can f h a b ≤ 5 := by unfold can; split <;> (try split) <;> (try split) <;> (try split) <;> omega

/-- byte number k, as a number -/
def bn (l : List UInt8) (k : Nat) : Nat := (l.getD k 0).toNat

theorem bn_le (l : List UInt8) (k : Nat) : bn l k ≤ 255 := by unfold bn; have := UInt8.toNat_lt (l.getD k 0); omega

theorem bn_of {l : List UInt8} {k : Nat} (h : k < l.length) : bn l k = l[k].toNat := by unfold bn; rw [List.getD_eq_getElem?_getD, List.getElem?_eq_getElem h]; rfl

theorem bn_out {l : List UInt8} {k : Nat} (h : l.length ≤ k) : bn l k = 0 := by unfold bn; rw [List.getD_eq_getElem?_getD, List.getElem?_eq_none h]; rfl

theorem mul255 {a b : Nat} (h : a ≤ 255) (k : b ≤ 255) : 0 ≤ (a : Int) * b ∧ (a : Int) * b ≤ 65025 := by
  have h2 : a * b ≤ 255 * 255 := Nat.mul_le_mul h k
  rw [← Int.natCast_mul]
  omega

theorem tot_congr {f g : Nat → List UInt8} {n : Nat} (h : ∀ k, k < n → f k = g k) : tot f n = tot g n := by
  induction n with
  | zero => rfl
  | succ n ih => simp only [tot]; rw [ih (fun k hk => h k (by omega)), h n (by omega)]

theorem tot_upd {f : Nat → List UInt8} {k : Nat} {l : List UInt8} {n : Nat} (h : k < n) : tot (updA f k l) n = tot f n - pg (f k).length + pg l.length := by
  induction n with
  | zero => omega
  | succ n ih =>
    simp only [tot]
    by_cases e : k = n
    · subst e
      rw [updA_same, tot_congr (f := updA f k l) (g := f) (fun j hj => updA_other _ _ (by omega))]
      omega
    · rw [ih (by omega), updA_other _ _ (fun q => e q.symm)]
      omega

theorem can_congr {f g : Nat → List UInt8} (hfg : ∀ k, k < 8 → f k = g k) (h a b : Nat) : can f h a b = can g h a b := by
  unfold can
  rw [tot_congr hfg]
  by_cases h8 : 8 ≤ h
  · rw [if_pos h8, if_pos h8]
  · rw [if_neg h8, if_neg h8, hfg h (by omega)]

theorem BS.set {W : World} {b off cap : Nat} {l : List UInt8} (h : BS W (some ⟨b, off, none⟩) cap l) {j : Nat} (hj : j < l.length) (u : UInt8) {v : Int} (hv : v = u.toNat) : BS (W.setCell ⟨b, off + j, none⟩ (.int .u8 v)) (some ⟨b, off, none⟩) cap (l.set j u) := by
  subst hv
  have hl := h.hle
  refine ⟨by rw [List.length_set]; exact h.hle, h.hmax, fun g => (by cases g), fun a g => (by cases g; exact ⟨rfl, by rw [sz_setCell]; exact (h.hpl _ rfl).2⟩), fun a g i hi => ?_, fun a g i hi => ?_⟩
  · cases g
    have hi' : i < l.length := by rwa [List.length_set] at hi
    simp only
    by_cases e : i = j
    · subst e
      rw [List.getElem_set_self]
      exact World.cell?_setCell_same _ _ _ (h.hce _ rfl i hi')
    · rw [World.cell?_setCell_other _ _ _ _ (addr_ne (by omega)), List.getElem_set_ne (fun q => e q.symm)]
      exact h.hce _ rfl i hi'
  · cases g
    have := h.hro _ rfl i hi
    simp only at this ⊢
    refine ⟨?_, by rw [World.frozen?_setCell]; exact this.2⟩
    by_cases e : i = j
    · subst e
      rw [World.cell?_setCell_same _ _ _ (h.hce _ rfl i hj)]; rfl
    · rw [World.cell?_setCell_other _ _ _ _ (addr_ne (by omega))]; exact this.1

end Go.Proofs.Ytbedkfgdhaajaab
