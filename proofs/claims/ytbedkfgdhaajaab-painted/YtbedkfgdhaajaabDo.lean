/- Walks: one instruction of the program's machine (P5). -/
import Derived.Test.YtbedkfgdhaajaabVerify
import Derived.Test.YtbedkfgdhaajaabMachine
import Derived.Test.YtbedkfgdhaajaabBytes
import Derived.Deep.QuietTactic
import Derived.BigQuiet
import Derived.Laws.BitsLemmas
import Derived.Deep.RegionHeld3
namespace Go.Proofs.Ytbedkfgdhaajaab
open Go.RowKit

theorem ret1 {k : IntKind} {a b : Int} (h : a = b) : Ending.returned (.int k a) = .returned (.int k b) := by rw [h]

theorem and_word (n : Int) : bits .and .i64 n 65535 = n % 65536 := by
  have hm : (BitVec.ofInt 64 65535).toNat = 2 ^ 16 - 1 := by decide
  have hk : (BitVec.ofInt 64 n &&& BitVec.ofInt 64 65535).toNat = (n % ((2 ^ 64 : Nat) : Int)).toNat % 2 ^ 16 := by
    rw [BitVec.toNat_and, BitVec.toNat_ofInt, hm]
    exact Nat.and_two_pow_sub_one_eq_mod _ _
  have e : bits .and .i64 n 65535 = IntKind.i64.wrap (((BitVec.ofInt 64 n &&& BitVec.ofInt 64 65535).toNat : Nat) : Int) := rfl
  rw [e, hk, IntKind.wrap_i64]
  omega

set_option maxHeartbeats 400000 in
theorem wrap_any (v : Int) (w : World) :
    Calls Try.prog 97 #[.int .i64 v] w fun e w' => e = .returned (.int .i64 (v % 65536)) ∧ w' = w := by
  go_enter Try.func97, Try.ntmps97
  go_wp2
  go_ret
  exact ⟨ret1 (and_word v), rfl⟩

set_option maxHeartbeats 400000 in
theorem quot_any (x y : Int) (w : World) (h1 : 0 ≤ x) (h2 : x ≤ 65535) (h3 : 0 ≤ y) (h4 : y ≤ 65535) :
    Calls Try.prog 98 #[.int .i64 x, .int .i64 y] w fun e w' => e = .returned (.int .i64 (x / y)) ∧ w' = w := by
  by_cases h : y = 0
  · subst h
    go_enter Try.func98, Try.ntmps98
    go_wp2
    go_ret
    exact ⟨ret1 (by simp), rfl⟩
  · have h' : (y == 0) = false := by simpa using h
    have h5 : 1 ≤ y := by omega
    clear h
    go_enter Try.func98, Try.ntmps98
    go_wp2
    go_ret
    exact ⟨rfl, rfl⟩

def blw (x y : Int) : Int := if x < y then 1 else 0

set_option maxHeartbeats 400000 in
theorem below_any (x y : Int) (w : World) :
    Calls Try.prog 99 #[.int .i64 x, .int .i64 y] w fun e w' => e = .returned (.int .i64 (blw x y)) ∧ w' = w := by
  by_cases h : x < y
  · have e : blw x y = 1 := if_pos h
    rw [e]
    clear e
    go_enter Try.func99, Try.ntmps99
    go_wp2
    go_ret
    exact ⟨rfl, rfl⟩
  · have e : blw x y = 0 := if_neg h
    rw [e]
    clear e
    go_enter Try.func99, Try.ntmps99
    go_wp2
    go_ret
    exact ⟨rfl, rfl⟩

set_option maxHeartbeats 400000 in
theorem byteOf_any (ao : Option Addr) (cp : Nat) (tx : ByteArray) (x : Int) (w : World) (h0 : 0 ≤ x) (hB : BS w ao cp tx.data.toList) :
    Calls Try.prog 100 #[.slice ao tx.size cp, .int .i64 x] w fun e w' => e = .returned (.int .i64 (bt tx x.toNat)) ∧ w' = w := by
  have hm := hB.hmax
  have hl := hB.hle
  have hsz : tx.data.toList.length = tx.size := rfl
  rw [hsz] at hl
  unfold maxLen at hm
  by_cases h : x < (tx.size : Int)
  · obtain ⟨b, off, rfl, hb⟩ := hB.there (by omega)
    obtain ⟨k, rfl⟩ : ∃ k : Nat, x = k := ⟨x.toNat, by omega⟩
    have hk : k < tx.size := by omega
    have hc := hB.hce _ rfl k hk
    simp only at hc
    have e : bt tx (k : Int).toNat = (tx.data.toList[k]'hk).toNat := by
      rw [Int.toNat_natCast, bt_of hk]; rfl
    rw [e]
    obtain ⟨B, hBy⟩ : ∃ B, (tx.data.toList[k]'hk).toNat = B := ⟨_, rfl⟩
    have hB1 : (B : Int) ≤ 255 := by have := UInt8.toNat_lt (tx.data.toList[k]'hk); omega
    have hB0 : (0 : Int) ≤ B := by omega
    rw [hBy] at hc ⊢
    clear hB hBy e hsz
    go_enter Try.func100, Try.ntmps100
    go_wp2
    go_ret
    exact ⟨ret1 (by go_num), rfl⟩
  · have e : bt tx x.toNat = 0 := by unfold bt; rw [dif_neg (by omega)]
    rw [e]
    have h1 : ¬ x < 0 := by omega
    have h2 : (tx.size : Int) ≤ x := by omega
    clear e hB hsz
    go_enter Try.func100, Try.ntmps100
    go_wp2
    go_ret
    exact ⟨rfl, rfl⟩

theorem mul_word {x y : Int} (hx : wordy x) (hy : wordy y) : 0 ≤ x * y ∧ x * y ≤ 4294836225 := by
  unfold wordy at *
  have h1 := Int.mul_nonneg hx.1 hy.1
  have h2 : x * y ≤ 65535 * 65535 := Int.mul_le_mul hx.2 hy.2 hy.1 (by omega)
  omega

/-- the machine lies in block g -/
def Mach (W : World) (g : Nat) (r : Nat → Int) (n : Nat) (en : Bool) : Prop :=
  (∀ j, j < 8 → W.cell? ⟨g, j, none⟩ = some (.int .i64 (r j))) ∧ W.cell? ⟨g, 8, none⟩ = some (.int .i64 n) ∧ W.cell? ⟨g, 9, none⟩ = some (.bool en) ∧ (∀ j, W.frozen? ⟨g, j, none⟩ = false) ∧ g < W.heap.size

theorem Mach.alloc {W : World} {g : Nat} {r : Nat → Int} {n : Nat} {en : Bool} (h : Mach W g r n en) (o : Obj) : Mach (W.alloc o) g r n en := by
  obtain ⟨hr, hn, he, hf, hg⟩ := h
  refine ⟨fun j hj => ?_, ?_, ?_, fun j => ?_, by simp; omega⟩
  · rw [World.cell?_alloc_past _ _ _ hg]; exact hr j hj
  · rw [World.cell?_alloc_past _ _ _ hg]; exact hn
  · rw [World.cell?_alloc_past _ _ _ hg]; exact he
  · rw [World.frozen?_alloc_past _ _ _ hg]; exact hf j

theorem Mach.drewN {W : World} {g : Nat} {r : Nat → Int} {n : Nat} {en : Bool} (h : Mach W g r n en) (k : Nat) : Mach (W.drewN k) g r n en := h
theorem Mach.drew {W : World} {g : Nat} {r : Nat → Int} {n : Nat} {en : Bool} (h : Mach W g r n en) : Mach W.drew g r n en := h

theorem Mach.below {W W' : World} {g : Nat} {r : Nat → Int} {n : Nat} {en : Bool} (h : Mach W g r n en) (hb : Below W.heap.size W W') : Mach W' g r n en := by
  obtain ⟨hr, hn, he, hf, hg⟩ := h
  refine ⟨fun j hj => ?_, ?_, ?_, fun j => ?_, Nat.lt_of_lt_of_le hg hb.size⟩
  · rw [hb.cell (p := ⟨g, j, none⟩) hg]; exact hr j hj
  · rw [hb.cell (p := ⟨g, 8, none⟩) hg]; exact hn
  · rw [hb.cell (p := ⟨g, 9, none⟩) hg]; exact he
  · rw [hb.frozen (p := ⟨g, j, none⟩) hg]; exact hf j

theorem size_setCell (W : World) (a : Addr) (v : Value) : (W.setCell a v).heap.size = W.heap.size := by simp [World.setCell]

theorem Mach.setNext {W : World} {g : Nat} {r : Nat → Int} {n m : Nat} {v : Int} {en : Bool} (h : Mach W g r n en) (hv : v = (m : Int)) : Mach (W.setCell ⟨g, 8, none⟩ (.int .i64 v)) g r m en := by
  subst hv
  obtain ⟨hr, hn, he, hf, hg⟩ := h
  refine ⟨fun j hj => ?_, ?_, ?_, fun j => ?_, by rw [size_setCell]; exact hg⟩
  · rw [World.cell?_setCell_other _ _ _ _ (by intro e; injection e with _ e2; omega)]; exact hr j hj
  · exact World.cell?_setCell_same _ _ _ hn
  · rw [World.cell?_setCell_other _ _ _ _ (by intro e; injection e with _ e2; omega)]; exact he
  · rw [World.frozen?_setCell]; exact hf j

theorem Mach.setEnd {W : World} {g : Nat} {r : Nat → Int} {n : Nat} {en en' : Bool} (h : Mach W g r n en) : Mach (W.setCell ⟨g, 9, none⟩ (.bool en')) g r n en' := by
  obtain ⟨hr, hn, he, hf, hg⟩ := h
  refine ⟨fun j hj => ?_, ?_, ?_, fun j => ?_, by rw [size_setCell]; exact hg⟩
  · rw [World.cell?_setCell_other _ _ _ _ (by intro e; injection e with _ e2; omega)]; exact hr j hj
  · rw [World.cell?_setCell_other _ _ _ _ (by intro e; injection e with _ e2; omega)]; exact hn
  · exact World.cell?_setCell_same _ _ _ he
  · rw [World.frozen?_setCell]; exact hf j

theorem Mach.setReg {W : World} {g : Nat} {r : Nat → Int} {n k : Nat} {en : Bool} {v : Int} (h : Mach W g r n en) (hk : k < 8) : Mach (W.setCell ⟨g, k, none⟩ (.int .i64 v)) g (upd r k v) n en := by
  obtain ⟨hr, hn, he, hf, hg⟩ := h
  refine ⟨fun j hj => ?_, ?_, ?_, fun j => ?_, by rw [size_setCell]; exact hg⟩
  · by_cases e : j = k
    · subst e; rw [upd_same]; exact World.cell?_setCell_same _ _ _ (hr j hj)
    · rw [upd_other _ _ e, World.cell?_setCell_other _ _ _ _ (by intro e1; injection e1 with _ e2; omega)]; exact hr j hj
  · rw [World.cell?_setCell_other _ _ _ _ (by intro e; injection e with _ e2; omega)]; exact hn
  · rw [World.cell?_setCell_other _ _ _ _ (by intro e; injection e with _ e2; omega)]; exact he
  · rw [World.frozen?_setCell]; exact hf j

theorem Mach.setVal {W : World} {g : Nat} {r : Nat → Int} {n k : Nat} {en : Bool} {v u : Int} (h : Mach W g r n en) (hk : k < 8) (hv : v = u) : Mach (W.setCell ⟨g, k, none⟩ (.int .i64 v)) g (upd r k u) n en := by
  subst hv
  exact h.setReg hk

theorem wrap_word (n : Int) : IntKind.i64.wrap n % 65536 = n % 65536 := by
  rw [IntKind.wrap_i64]
  omega

theorem below_drewN {B : Nat} {a w : World} (h : Below B a w) (n : Nat) : Below B a (w.drewN n) := ⟨h.os, h.tape, h.output, h.size, h.block⟩

set_option maxHeartbeats 400000 in
theorem do_end (g : Nat) (r : Nat → Int) (n : Nat) (a b c : Int) (ao : Option Addr) (cp : Nat) (tx : ByteArray) (w : World) (hM : Mach w g r n false) (ha : bytey a) (hb : bytey b) (hc : bytey c) (hn1 : n ≤ 1000) (hR : ∀ j, wordy (r j)) (hs : BS w ao cp tx.data.toList) (hO : ¬ blk ao g) :
    Calls Try.prog 83 #[.pointer (some ⟨g, 0, none⟩), .agg #[.int .i64 8, .int .i64 a, .int .i64 b, .int .i64 c], .slice ao tx.size cp] w fun e w' => e = .returned (.tuple #[]) ∧ Below g w w' ∧ Mach w' g r (n + 1) true := by
  have HM : Hid (Mach w g r n false) := hM
  obtain ⟨hr, hn, he, hf, hg⟩ := hM
  obtain ⟨a0, a1⟩ := ha
  obtain ⟨b0, b1⟩ := hb
  obtain ⟨c0, c1⟩ := hc
  have q1 : (0 : Int) ≤ a % 8 := by omega
  have q2 : a % 8 < (8 : Int) := by omega
  have q3 : (0 : Int) ≤ b % 8 := by omega
  have q4 : b % 8 < (8 : Int) := by omega
  have q5 : (0 : Int) ≤ c % 8 := by omega
  have q6 : c % 8 < (8 : Int) := by omega
  have kb := hr (b % 8).toNat (by omega)
  have kc := hr (c % 8).toNat (by omega)
  have ka := hr (a % 8).toNat (by omega)
  have hf8 := hf 8
  have hf9 := hf 9
  have hfa := hf (a % 8).toNat
  have n8 : ¬ (a % 8).toNat = 8 := by omega
  obtain ⟨xb0, xb1⟩ := hR (b % 8).toNat
  obtain ⟨xc0, xc1⟩ := hR (c % 8).toNat
  have HS : Hid (BS w ao cp tx.data.toList) := hs
  have HOB : Hid (¬ blk ao g) := hO
  clear hr hf hs hO
  go_enter Try.func83, Try.ntmps83
  go_wp2
  go_quiet (fail)
  go_wp2
  go_quiet (fail)
  go_wp2
  go_end0
  exact ⟨rfl, ((below_drewN ((Below.refl _ _).alloc (Nat.le_of_lt hg) _) _).setCell (Nat.le_refl _) _).setCell (Nat.le_refl _) _, (((HM.out.alloc _).drewN _).setNext (m := n + 1) (by omega)).setEnd⟩

set_option maxHeartbeats 400000 in
theorem do_jump (g : Nat) (r : Nat → Int) (n : Nat) (a b c : Int) (ao : Option Addr) (cp : Nat) (tx : ByteArray) (w : World) (hM : Mach w g r n false) (ha : bytey a) (hb : bytey b) (hc : bytey c) (hn1 : n ≤ 1000) (hR : ∀ j, wordy (r j)) (hs : BS w ao cp tx.data.toList) (hO : ¬ blk ao g) (hj : (r (a % 8).toNat != 0) = true) :
    Calls Try.prog 83 #[.pointer (some ⟨g, 0, none⟩), .agg #[.int .i64 7, .int .i64 a, .int .i64 b, .int .i64 c], .slice ao tx.size cp] w fun e w' => e = .returned (.tuple #[]) ∧ Below g w w' ∧ Mach w' g r b.toNat false := by
  have HM : Hid (Mach w g r n false) := hM
  obtain ⟨hr, hn, he, hf, hg⟩ := hM
  obtain ⟨a0, a1⟩ := ha
  obtain ⟨b0, b1⟩ := hb
  obtain ⟨c0, c1⟩ := hc
  have q1 : (0 : Int) ≤ a % 8 := by omega
  have q2 : a % 8 < (8 : Int) := by omega
  have q3 : (0 : Int) ≤ b % 8 := by omega
  have q4 : b % 8 < (8 : Int) := by omega
  have q5 : (0 : Int) ≤ c % 8 := by omega
  have q6 : c % 8 < (8 : Int) := by omega
  have kb := hr (b % 8).toNat (by omega)
  have kc := hr (c % 8).toNat (by omega)
  have ka := hr (a % 8).toNat (by omega)
  have hf8 := hf 8
  have hf9 := hf 9
  have hfa := hf (a % 8).toNat
  have n8 : ¬ (a % 8).toNat = 8 := by omega
  obtain ⟨xb0, xb1⟩ := hR (b % 8).toNat
  obtain ⟨xc0, xc1⟩ := hR (c % 8).toNat
  have HS : Hid (BS w ao cp tx.data.toList) := hs
  have HOB : Hid (¬ blk ao g) := hO
  clear hr hf hs hO
  have HB : Hid (b = ((b.toNat : Nat) : Int)) := (Int.toNat_of_nonneg b0).symm
  go_enter Try.func83, Try.ntmps83
  go_wp2
  go_quiet (fail)
  go_wp2
  go_quiet (fail)
  go_wp2
  go_end0
  refine ⟨rfl, ((below_drewN ((Below.refl _ _).alloc (Nat.le_of_lt hg) _) _).setCell (Nat.le_refl _) _).setCell (Nat.le_refl _) _, ?_⟩
  exact (((HM.out.alloc _).drewN _).setNext (m := n + 1) (by omega)).setNext HB.out

set_option maxHeartbeats 400000 in
theorem do_pass (g : Nat) (r : Nat → Int) (n : Nat) (a b c : Int) (ao : Option Addr) (cp : Nat) (tx : ByteArray) (w : World) (hM : Mach w g r n false) (ha : bytey a) (hb : bytey b) (hc : bytey c) (hn1 : n ≤ 1000) (hR : ∀ j, wordy (r j)) (hs : BS w ao cp tx.data.toList) (hO : ¬ blk ao g) (hj : (r (a % 8).toNat != 0) = false) :
    Calls Try.prog 83 #[.pointer (some ⟨g, 0, none⟩), .agg #[.int .i64 7, .int .i64 a, .int .i64 b, .int .i64 c], .slice ao tx.size cp] w fun e w' => e = .returned (.tuple #[]) ∧ Below g w w' ∧ Mach w' g r (n + 1) false := by
  have HM : Hid (Mach w g r n false) := hM
  obtain ⟨hr, hn, he, hf, hg⟩ := hM
  obtain ⟨a0, a1⟩ := ha
  obtain ⟨b0, b1⟩ := hb
  obtain ⟨c0, c1⟩ := hc
  have q1 : (0 : Int) ≤ a % 8 := by omega
  have q2 : a % 8 < (8 : Int) := by omega
  have q3 : (0 : Int) ≤ b % 8 := by omega
  have q4 : b % 8 < (8 : Int) := by omega
  have q5 : (0 : Int) ≤ c % 8 := by omega
  have q6 : c % 8 < (8 : Int) := by omega
  have kb := hr (b % 8).toNat (by omega)
  have kc := hr (c % 8).toNat (by omega)
  have ka := hr (a % 8).toNat (by omega)
  have hf8 := hf 8
  have hf9 := hf 9
  have hfa := hf (a % 8).toNat
  have n8 : ¬ (a % 8).toNat = 8 := by omega
  obtain ⟨xb0, xb1⟩ := hR (b % 8).toNat
  obtain ⟨xc0, xc1⟩ := hR (c % 8).toNat
  have HS : Hid (BS w ao cp tx.data.toList) := hs
  have HOB : Hid (¬ blk ao g) := hO
  clear hr hf hs hO
  go_enter Try.func83, Try.ntmps83
  go_wp2
  go_quiet (fail)
  go_wp2
  go_quiet (fail)
  go_wp2
  go_end0
  exact ⟨rfl, ((below_drewN ((Below.refl _ _).alloc (Nat.le_of_lt hg) _) _).setCell (Nat.le_refl _) _), ((HM.out.alloc _).drewN _).setNext (m := n + 1) (by omega)⟩

set_option maxHeartbeats 400000 in
theorem do_0 (g : Nat) (r : Nat → Int) (n : Nat) (a b c : Int) (ao : Option Addr) (cp : Nat) (tx : ByteArray) (w : World) (hM : Mach w g r n false) (ha : bytey a) (hb : bytey b) (hc : bytey c) (hn1 : n ≤ 1000) (hR : ∀ j, wordy (r j)) (hs : BS w ao cp tx.data.toList) (hO : ¬ blk ao g) :
    Calls Try.prog 83 #[.pointer (some ⟨g, 0, none⟩), .agg #[.int .i64 0, .int .i64 a, .int .i64 b, .int .i64 c], .slice ao tx.size cp] w fun e w' => e = .returned (.tuple #[]) ∧ Below g w w' ∧ Mach w' g (upd r (a % 8).toNat (b + 256 * c)) (n + 1) false := by
  have HM : Hid (Mach w g r n false) := hM
  obtain ⟨hr, hn, he, hf, hg⟩ := hM
  obtain ⟨a0, a1⟩ := ha
  obtain ⟨b0, b1⟩ := hb
  obtain ⟨c0, c1⟩ := hc
  have q1 : (0 : Int) ≤ a % 8 := by omega
  have q2 : a % 8 < (8 : Int) := by omega
  have q3 : (0 : Int) ≤ b % 8 := by omega
  have q4 : b % 8 < (8 : Int) := by omega
  have q5 : (0 : Int) ≤ c % 8 := by omega
  have q6 : c % 8 < (8 : Int) := by omega
  have kb := hr (b % 8).toNat (by omega)
  have kc := hr (c % 8).toNat (by omega)
  have ka := hr (a % 8).toNat (by omega)
  have hf8 := hf 8
  have hf9 := hf 9
  have hfa := hf (a % 8).toNat
  have n8 : ¬ (a % 8).toNat = 8 := by omega
  obtain ⟨xb0, xb1⟩ := hR (b % 8).toNat
  obtain ⟨xc0, xc1⟩ := hR (c % 8).toNat
  have HS : Hid (BS w ao cp tx.data.toList) := hs
  have HOB : Hid (¬ blk ao g) := hO
  clear hr hf hs hO
  go_enter Try.func83, Try.ntmps83
  go_wp2
  go_quiet (fail)
  go_wp2
  go_quiet (fail)
  go_wp2
  go_region
  all_goals
    go_wp2
    go_end0
    exact ⟨rfl, (((below_drewN ((Below.refl _ _).alloc (Nat.le_of_lt hg) _) _).setCell (Nat.le_refl _) _).setCell (Nat.le_refl _) _).drew, ((((HM.out.alloc _).drewN _).setNext (m := n + 1) (by omega)).setReg (by omega)).drew⟩

set_option maxHeartbeats 400000 in
theorem do_1 (g : Nat) (r : Nat → Int) (n : Nat) (a b c : Int) (ao : Option Addr) (cp : Nat) (tx : ByteArray) (w : World) (hM : Mach w g r n false) (ha : bytey a) (hb : bytey b) (hc : bytey c) (hn1 : n ≤ 1000) (hR : ∀ j, wordy (r j)) (hs : BS w ao cp tx.data.toList) (hO : ¬ blk ao g) :
    Calls Try.prog 83 #[.pointer (some ⟨g, 0, none⟩), .agg #[.int .i64 1, .int .i64 a, .int .i64 b, .int .i64 c], .slice ao tx.size cp] w fun e w' => e = .returned (.tuple #[]) ∧ Below g w w' ∧ Mach w' g (upd r (a % 8).toNat ((r (b % 8).toNat + r (c % 8).toNat) % 65536)) (n + 1) false := by
  have HM : Hid (Mach w g r n false) := hM
  obtain ⟨hr, hn, he, hf, hg⟩ := hM
  obtain ⟨a0, a1⟩ := ha
  obtain ⟨b0, b1⟩ := hb
  obtain ⟨c0, c1⟩ := hc
  have q1 : (0 : Int) ≤ a % 8 := by omega
  have q2 : a % 8 < (8 : Int) := by omega
  have q3 : (0 : Int) ≤ b % 8 := by omega
  have q4 : b % 8 < (8 : Int) := by omega
  have q5 : (0 : Int) ≤ c % 8 := by omega
  have q6 : c % 8 < (8 : Int) := by omega
  have kb := hr (b % 8).toNat (by omega)
  have kc := hr (c % 8).toNat (by omega)
  have ka := hr (a % 8).toNat (by omega)
  have hf8 := hf 8
  have hf9 := hf 9
  have hfa := hf (a % 8).toNat
  have n8 : ¬ (a % 8).toNat = 8 := by omega
  obtain ⟨xb0, xb1⟩ := hR (b % 8).toNat
  obtain ⟨xc0, xc1⟩ := hR (c % 8).toNat
  have HS : Hid (BS w ao cp tx.data.toList) := hs
  have HOB : Hid (¬ blk ao g) := hO
  clear hr hf hs hO
  go_enter Try.func83, Try.ntmps83
  go_wp2
  go_quiet (fail)
  go_wp2
  go_quiet (fail)
  go_wp2
  go_region_with (go_at_call 97; refine (wrap_any _ _).mono ?_; rintro e w1 ⟨rfl, rfl⟩)
  all_goals
    go_wp2
    go_end0
    exact ⟨rfl, (((below_drewN ((Below.refl _ _).alloc (Nat.le_of_lt hg) _) _).setCell (Nat.le_refl _) _).setCell (Nat.le_refl _) _).drew, ((((HM.out.alloc _).drewN _).setNext (m := n + 1) (by omega)).setVal (by omega) (wrap_word _)).drew⟩

set_option maxHeartbeats 400000 in
theorem do_2 (g : Nat) (r : Nat → Int) (n : Nat) (a b c : Int) (ao : Option Addr) (cp : Nat) (tx : ByteArray) (w : World) (hM : Mach w g r n false) (ha : bytey a) (hb : bytey b) (hc : bytey c) (hn1 : n ≤ 1000) (hR : ∀ j, wordy (r j)) (hs : BS w ao cp tx.data.toList) (hO : ¬ blk ao g) :
    Calls Try.prog 83 #[.pointer (some ⟨g, 0, none⟩), .agg #[.int .i64 2, .int .i64 a, .int .i64 b, .int .i64 c], .slice ao tx.size cp] w fun e w' => e = .returned (.tuple #[]) ∧ Below g w w' ∧ Mach w' g (upd r (a % 8).toNat ((r (b % 8).toNat - r (c % 8).toNat) % 65536)) (n + 1) false := by
  have HM : Hid (Mach w g r n false) := hM
  obtain ⟨hr, hn, he, hf, hg⟩ := hM
  obtain ⟨a0, a1⟩ := ha
  obtain ⟨b0, b1⟩ := hb
  obtain ⟨c0, c1⟩ := hc
  have q1 : (0 : Int) ≤ a % 8 := by omega
  have q2 : a % 8 < (8 : Int) := by omega
  have q3 : (0 : Int) ≤ b % 8 := by omega
  have q4 : b % 8 < (8 : Int) := by omega
  have q5 : (0 : Int) ≤ c % 8 := by omega
  have q6 : c % 8 < (8 : Int) := by omega
  have kb := hr (b % 8).toNat (by omega)
  have kc := hr (c % 8).toNat (by omega)
  have ka := hr (a % 8).toNat (by omega)
  have hf8 := hf 8
  have hf9 := hf 9
  have hfa := hf (a % 8).toNat
  have n8 : ¬ (a % 8).toNat = 8 := by omega
  obtain ⟨xb0, xb1⟩ := hR (b % 8).toNat
  obtain ⟨xc0, xc1⟩ := hR (c % 8).toNat
  have HS : Hid (BS w ao cp tx.data.toList) := hs
  have HOB : Hid (¬ blk ao g) := hO
  clear hr hf hs hO
  go_enter Try.func83, Try.ntmps83
  go_wp2
  go_quiet (fail)
  go_wp2
  go_quiet (fail)
  go_wp2
  go_region_with (go_at_call 97; refine (wrap_any _ _).mono ?_; rintro e w1 ⟨rfl, rfl⟩)
  all_goals
    go_wp2
    go_end0
    exact ⟨rfl, (((below_drewN ((Below.refl _ _).alloc (Nat.le_of_lt hg) _) _).setCell (Nat.le_refl _) _).setCell (Nat.le_refl _) _).drew, ((((HM.out.alloc _).drewN _).setNext (m := n + 1) (by omega)).setVal (by omega) (wrap_word _)).drew⟩

set_option maxHeartbeats 400000 in
theorem do_3 (g : Nat) (r : Nat → Int) (n : Nat) (a b c : Int) (ao : Option Addr) (cp : Nat) (tx : ByteArray) (w : World) (hM : Mach w g r n false) (ha : bytey a) (hb : bytey b) (hc : bytey c) (hn1 : n ≤ 1000) (hR : ∀ j, wordy (r j)) (hs : BS w ao cp tx.data.toList) (hO : ¬ blk ao g) :
    Calls Try.prog 83 #[.pointer (some ⟨g, 0, none⟩), .agg #[.int .i64 3, .int .i64 a, .int .i64 b, .int .i64 c], .slice ao tx.size cp] w fun e w' => e = .returned (.tuple #[]) ∧ Below g w w' ∧ Mach w' g (upd r (a % 8).toNat ((r (b % 8).toNat * r (c % 8).toNat) % 65536)) (n + 1) false := by
  have HM : Hid (Mach w g r n false) := hM
  obtain ⟨hr, hn, he, hf, hg⟩ := hM
  obtain ⟨a0, a1⟩ := ha
  obtain ⟨b0, b1⟩ := hb
  obtain ⟨c0, c1⟩ := hc
  have q1 : (0 : Int) ≤ a % 8 := by omega
  have q2 : a % 8 < (8 : Int) := by omega
  have q3 : (0 : Int) ≤ b % 8 := by omega
  have q4 : b % 8 < (8 : Int) := by omega
  have q5 : (0 : Int) ≤ c % 8 := by omega
  have q6 : c % 8 < (8 : Int) := by omega
  have kb := hr (b % 8).toNat (by omega)
  have kc := hr (c % 8).toNat (by omega)
  have ka := hr (a % 8).toNat (by omega)
  have hf8 := hf 8
  have hf9 := hf 9
  have hfa := hf (a % 8).toNat
  have n8 : ¬ (a % 8).toNat = 8 := by omega
  obtain ⟨xb0, xb1⟩ := hR (b % 8).toNat
  obtain ⟨xc0, xc1⟩ := hR (c % 8).toNat
  have HS : Hid (BS w ao cp tx.data.toList) := hs
  have HOB : Hid (¬ blk ao g) := hO
  clear hr hf hs hO
  have p1 := (mul_word (hR (b % 8).toNat) (hR (c % 8).toNat)).1
  have p2 := (mul_word (hR (b % 8).toNat) (hR (c % 8).toNat)).2
  go_enter Try.func83, Try.ntmps83
  go_wp2
  go_quiet (fail)
  go_wp2
  go_quiet (fail)
  go_wp2
  go_region_with (go_at_call 97; refine (wrap_any _ _).mono ?_; rintro e w1 ⟨rfl, rfl⟩)
  all_goals
    go_wp2
    go_end0
    exact ⟨rfl, (((below_drewN ((Below.refl _ _).alloc (Nat.le_of_lt hg) _) _).setCell (Nat.le_refl _) _).setCell (Nat.le_refl _) _).drew, ((((HM.out.alloc _).drewN _).setNext (m := n + 1) (by omega)).setVal (by omega) (wrap_word _)).drew⟩

set_option maxHeartbeats 400000 in
theorem do_4 (g : Nat) (r : Nat → Int) (n : Nat) (a b c : Int) (ao : Option Addr) (cp : Nat) (tx : ByteArray) (w : World) (hM : Mach w g r n false) (ha : bytey a) (hb : bytey b) (hc : bytey c) (hn1 : n ≤ 1000) (hR : ∀ j, wordy (r j)) (hs : BS w ao cp tx.data.toList) (hO : ¬ blk ao g) :
    Calls Try.prog 83 #[.pointer (some ⟨g, 0, none⟩), .agg #[.int .i64 4, .int .i64 a, .int .i64 b, .int .i64 c], .slice ao tx.size cp] w fun e w' => e = .returned (.tuple #[]) ∧ Below g w w' ∧ Mach w' g (upd r (a % 8).toNat (r (b % 8).toNat / r (c % 8).toNat)) (n + 1) false := by
  have HM : Hid (Mach w g r n false) := hM
  obtain ⟨hr, hn, he, hf, hg⟩ := hM
  obtain ⟨a0, a1⟩ := ha
  obtain ⟨b0, b1⟩ := hb
  obtain ⟨c0, c1⟩ := hc
  have q1 : (0 : Int) ≤ a % 8 := by omega
  have q2 : a % 8 < (8 : Int) := by omega
  have q3 : (0 : Int) ≤ b % 8 := by omega
  have q4 : b % 8 < (8 : Int) := by omega
  have q5 : (0 : Int) ≤ c % 8 := by omega
  have q6 : c % 8 < (8 : Int) := by omega
  have kb := hr (b % 8).toNat (by omega)
  have kc := hr (c % 8).toNat (by omega)
  have ka := hr (a % 8).toNat (by omega)
  have hf8 := hf 8
  have hf9 := hf 9
  have hfa := hf (a % 8).toNat
  have n8 : ¬ (a % 8).toNat = 8 := by omega
  obtain ⟨xb0, xb1⟩ := hR (b % 8).toNat
  obtain ⟨xc0, xc1⟩ := hR (c % 8).toNat
  have HS : Hid (BS w ao cp tx.data.toList) := hs
  have HOB : Hid (¬ blk ao g) := hO
  clear hr hf hs hO
  go_enter Try.func83, Try.ntmps83
  go_wp2
  go_quiet (fail)
  go_wp2
  go_quiet (fail)
  go_wp2
  go_region_with (go_at_call 98; refine (quot_any _ _ _ xb0 xb1 xc0 xc1).mono ?_; rintro e w1 ⟨rfl, rfl⟩)
  all_goals
    go_wp2
    go_end0
    exact ⟨rfl, (((below_drewN ((Below.refl _ _).alloc (Nat.le_of_lt hg) _) _).setCell (Nat.le_refl _) _).setCell (Nat.le_refl _) _).drew, ((((HM.out.alloc _).drewN _).setNext (m := n + 1) (by omega)).setReg (by omega)).drew⟩

set_option maxHeartbeats 400000 in
theorem do_5 (g : Nat) (r : Nat → Int) (n : Nat) (a b c : Int) (ao : Option Addr) (cp : Nat) (tx : ByteArray) (w : World) (hM : Mach w g r n false) (ha : bytey a) (hb : bytey b) (hc : bytey c) (hn1 : n ≤ 1000) (hR : ∀ j, wordy (r j)) (hs : BS w ao cp tx.data.toList) (hO : ¬ blk ao g) :
    Calls Try.prog 83 #[.pointer (some ⟨g, 0, none⟩), .agg #[.int .i64 5, .int .i64 a, .int .i64 b, .int .i64 c], .slice ao tx.size cp] w fun e w' => e = .returned (.tuple #[]) ∧ Below g w w' ∧ Mach w' g (upd r (a % 8).toNat (blw (r (b % 8).toNat) (r (c % 8).toNat))) (n + 1) false := by
  have HM : Hid (Mach w g r n false) := hM
  obtain ⟨hr, hn, he, hf, hg⟩ := hM
  obtain ⟨a0, a1⟩ := ha
  obtain ⟨b0, b1⟩ := hb
  obtain ⟨c0, c1⟩ := hc
  have q1 : (0 : Int) ≤ a % 8 := by omega
  have q2 : a % 8 < (8 : Int) := by omega
  have q3 : (0 : Int) ≤ b % 8 := by omega
  have q4 : b % 8 < (8 : Int) := by omega
  have q5 : (0 : Int) ≤ c % 8 := by omega
  have q6 : c % 8 < (8 : Int) := by omega
  have kb := hr (b % 8).toNat (by omega)
  have kc := hr (c % 8).toNat (by omega)
  have ka := hr (a % 8).toNat (by omega)
  have hf8 := hf 8
  have hf9 := hf 9
  have hfa := hf (a % 8).toNat
  have n8 : ¬ (a % 8).toNat = 8 := by omega
  obtain ⟨xb0, xb1⟩ := hR (b % 8).toNat
  obtain ⟨xc0, xc1⟩ := hR (c % 8).toNat
  have HS : Hid (BS w ao cp tx.data.toList) := hs
  have HOB : Hid (¬ blk ao g) := hO
  clear hr hf hs hO
  go_enter Try.func83, Try.ntmps83
  go_wp2
  go_quiet (fail)
  go_wp2
  go_quiet (fail)
  go_wp2
  go_region_with (go_at_call 99; refine (below_any _ _ _).mono ?_; rintro e w1 ⟨rfl, rfl⟩)
  all_goals
    go_wp2
    go_end0
    exact ⟨rfl, (((below_drewN ((Below.refl _ _).alloc (Nat.le_of_lt hg) _) _).setCell (Nat.le_refl _) _).setCell (Nat.le_refl _) _).drew, ((((HM.out.alloc _).drewN _).setNext (m := n + 1) (by omega)).setReg (by omega)).drew⟩

set_option maxHeartbeats 400000 in
theorem do_6 (g : Nat) (r : Nat → Int) (n : Nat) (a b c : Int) (ao : Option Addr) (cp : Nat) (tx : ByteArray) (w : World) (hM : Mach w g r n false) (ha : bytey a) (hb : bytey b) (hc : bytey c) (hn1 : n ≤ 1000) (hR : ∀ j, wordy (r j)) (hs : BS w ao cp tx.data.toList) (hO : ¬ blk ao g) :
    Calls Try.prog 83 #[.pointer (some ⟨g, 0, none⟩), .agg #[.int .i64 6, .int .i64 a, .int .i64 b, .int .i64 c], .slice ao tx.size cp] w fun e w' => e = .returned (.tuple #[]) ∧ Below g w w' ∧ Mach w' g (upd r (a % 8).toNat (bt tx (r (b % 8).toNat).toNat)) (n + 1) false := by
  have HM : Hid (Mach w g r n false) := hM
  obtain ⟨hr, hn, he, hf, hg⟩ := hM
  obtain ⟨a0, a1⟩ := ha
  obtain ⟨b0, b1⟩ := hb
  obtain ⟨c0, c1⟩ := hc
  have q1 : (0 : Int) ≤ a % 8 := by omega
  have q2 : a % 8 < (8 : Int) := by omega
  have q3 : (0 : Int) ≤ b % 8 := by omega
  have q4 : b % 8 < (8 : Int) := by omega
  have q5 : (0 : Int) ≤ c % 8 := by omega
  have q6 : c % 8 < (8 : Int) := by omega
  have kb := hr (b % 8).toNat (by omega)
  have kc := hr (c % 8).toNat (by omega)
  have ka := hr (a % 8).toNat (by omega)
  have hf8 := hf 8
  have hf9 := hf 9
  have hfa := hf (a % 8).toNat
  have n8 : ¬ (a % 8).toNat = 8 := by omega
  obtain ⟨xb0, xb1⟩ := hR (b % 8).toNat
  obtain ⟨xc0, xc1⟩ := hR (c % 8).toNat
  have HS : Hid (BS w ao cp tx.data.toList) := hs
  have HOB : Hid (¬ blk ao g) := hO
  clear hr hf hs hO
  go_enter Try.func83, Try.ntmps83
  go_wp2
  go_quiet (fail)
  go_wp2
  go_quiet (fail)
  go_wp2
  go_region_with (go_at_call 100; refine (byteOf_any _ _ tx _ _ xb0 (((HS.out.alloc _).drewN _).setCell (p := ⟨g, 8, none⟩) HOB.out _).drew).mono ?_; rintro e w1 ⟨rfl, rfl⟩)
  all_goals
    go_wp2
    go_end0
    exact ⟨rfl, (((below_drewN ((Below.refl _ _).alloc (Nat.le_of_lt hg) _) _).setCell (Nat.le_refl _) _).setCell (Nat.le_refl _) _).drew, ((((HM.out.alloc _).drewN _).setNext (m := n + 1) (by omega)).setReg (by omega)).drew⟩


theorem do_any (g : Nat) (r : Nat → Int) (n : Nat) (o a b c : Int) (ao : Option Addr) (cp : Nat) (tx : ByteArray) (w : World) (ho0 : 0 ≤ o) (ho8 : o ≤ 8) (hM : Mach w g r n false) (ha : bytey a) (hb : bytey b) (hc : bytey c) (hn1 : n ≤ 1000) (hR : ∀ j, wordy (r j)) (hs : BS w ao cp tx.data.toList) (hO : ¬ blk ao g) :
    Calls Try.prog 83 #[.pointer (some ⟨g, 0, none⟩), .agg #[.int .i64 o, .int .i64 a, .int .i64 b, .int .i64 c], .slice ao tx.size cp] w fun e w' => e = .returned (.tuple #[]) ∧ Below g w w' ∧ Mach w' g (stR o a b c tx r) (stN o a b r n) (decide (o = 8)) := by
  have k : o = 0 ∨ o = 1 ∨ o = 2 ∨ o = 3 ∨ o = 4 ∨ o = 5 ∨ o = 6 ∨ o = 7 ∨ o = 8 := by omega
  rcases k with rfl | rfl | rfl | rfl | rfl | rfl | rfl | rfl | rfl
  · exact do_0 g r n a b c ao cp tx w hM ha hb hc hn1 hR hs hO
  · exact do_1 g r n a b c ao cp tx w hM ha hb hc hn1 hR hs hO
  · exact do_2 g r n a b c ao cp tx w hM ha hb hc hn1 hR hs hO
  · exact do_3 g r n a b c ao cp tx w hM ha hb hc hn1 hR hs hO
  · exact do_4 g r n a b c ao cp tx w hM ha hb hc hn1 hR hs hO
  · exact do_5 g r n a b c ao cp tx w hM ha hb hc hn1 hR hs hO
  · exact do_6 g r n a b c ao cp tx w hM ha hb hc hn1 hR hs hO
  · cases hj : (r (a % 8).toNat != 0)
    · have e : stN 7 a b r n = n + 1 := by
        unfold stN
        rw [if_neg (by simp at hj; simp [hj])]
      rw [e]
      exact do_pass g r n a b c ao cp tx w hM ha hb hc hn1 hR hs hO hj
    · have e : stN 7 a b r n = b.toNat := by
        unfold stN
        rw [if_pos (by simp at hj; exact ⟨rfl, hj⟩)]
      rw [e]
      exact do_jump g r n a b c ao cp tx w hM ha hb hc hn1 hR hs hO hj
  · exact do_end g r n a b c ao cp tx w hM ha hb hc hn1 hR hs hO

end Go.Proofs.Ytbedkfgdhaajaab
