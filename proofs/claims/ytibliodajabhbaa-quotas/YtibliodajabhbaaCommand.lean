/- Walks: the commands of a context (P7, P8, P10). -/
import Derived.Test.YtibliodajabhbaaCreate
namespace Go.Proofs.Ytibliodajabhbaa
open Go.RowKit

/-- byte number k, as a number -/
def bn (l : List UInt8) (k : Nat) : Nat := (l.getD k 0).toNat

theorem bn_le (l : List UInt8) (k : Nat) : bn l k ≤ 255 := by unfold bn; have := UInt8.toNat_lt (l.getD k 0); omega
theorem bn_of {l : List UInt8} {k : Nat} (h : k < l.length) : bn l k = l[k].toNat := by unfold bn; rw [List.getD_eq_getElem?_getD, List.getElem?_eq_getElem h]; rfl
theorem bn_out {l : List UInt8} {k : Nat} (h : l.length ≤ k) : bn l k = 0 := by unfold bn; rw [List.getD_eq_getElem?_getD, List.getElem?_eq_none h]; rfl

set_option maxHeartbeats 400000 in
theorem field_any (ao : Option Addr) (cap : Nat) (l : List UInt8) (k : Nat) (w : World) (hB : BS w ao cap l) :
    Calls Try.prog 85 #[.slice ao l.length cap, .int .i64 k] w fun e w' => e = .returned (.int .i64 (bn l k)) ∧ w' = w := by
  by_cases h : k < l.length
  · obtain ⟨b, off, rfl, hb⟩ := hB.there (by have := hB.hle; omega)
    have hc := hB.hce _ rfl k h
    simp only at hc
    rw [bn_of h]
    have h1 : ¬ (l.length : Int) ≤ k := by omega
    have h2 : (k : Int) < l.length := by omega
    have h3 : (0 : Int) ≤ k := by omega
    have hm := hB.hmax
    have hl := hB.hle
    unfold maxLen at hm
    obtain ⟨B, hBy⟩ : ∃ B, l[k].toNat = B := ⟨_, rfl⟩
    have hB1 : (B : Int) ≤ 255 := by have := UInt8.toNat_lt l[k]; omega
    have hB0 : (0 : Int) ≤ B := by omega
    rw [hBy] at hc ⊢
    clear hB hBy
    go_enter Try.func85, Try.ntmps85
    go_wp2
    go_ret
    exact ⟨retI (by go_num), rfl⟩
  · rw [bn_out (by omega)]
    have h1 : (l.length : Int) ≤ k := by omega
    clear hB
    go_enter Try.func85, Try.ntmps85
    go_wp2
    go_ret
    exact ⟨rfl, rfl⟩

theorem field_at (ao : Option Addr) (cap : Nat) (l : List UInt8) (i : Int) (w : World) (hB : BS w ao cap l) (k : Nat) (hk : i = k) :
    Calls Try.prog 85 #[.slice ao l.length cap, .int .i64 i] w fun e w' => e = .returned (.int .i64 (bn l k)) ∧ w' = w := by
  subst hk; exact field_any ao cap l k w hB

theorem ret_sl {ao : Option Addr} {n m cap : Nat} (h : n = m) : Ending.returned (.slice ao n cap) = .returned (.slice ao m cap) := by rw [h]

/-- how many bytes a command has that begins with this one -/
def cln (o : Nat) : Nat := if o = 1 then 4 else if o = 2 then 2 else 1

set_option maxHeartbeats 400000 in
theorem lengthOf_any (o : Nat) (w : World) : Calls Try.prog 93 #[.int .u8 o] w fun e w' => e = .returned (.int .i64 (cln o)) ∧ w' = w := by
  by_cases h1 : o = 1
  · subst h1
    go_enter Try.func93, Try.ntmps93
    go_wp2
    go_ret
    exact ⟨rfl, rfl⟩
  · by_cases h2 : o = 2
    · subst h2
      go_enter Try.func93, Try.ntmps93
      go_wp2
      go_ret
      exact ⟨rfl, rfl⟩
    · have e : cln o = 1 := by unfold cln; rw [if_neg h1, if_neg h2]
      rw [e]
      clear e
      have d1 : ((o : Int) == 1) = false := by simp; omega
      have d2 : ((o : Int) == 2) = false := by simp; omega
      clear h1 h2
      go_enter Try.func93, Try.ntmps93
      go_wp2
      go_ret
      exact ⟨rfl, rfl⟩

/-- the bytes of the first command; none, if they are not all there -/
def fst_ (l : List UInt8) : List UInt8 := if l.length < cln (bn l 0) then [] else l.take (cln (bn l 0))

theorem cln_bd (o : Nat) : 1 ≤ cln o ∧ cln o ≤ 4 := by unfold cln; split <;> (try split) <;> omega

set_option maxHeartbeats 400000 in
theorem first_any (ao : Option Addr) (cap : Nat) (l : List UInt8) (w : World) (hB : BS w ao cap l) :
    Calls Try.prog 84 #[.slice ao l.length cap] w fun e w' => (∃ ao' cap', e = .returned (.slice ao' (fst_ l).length cap') ∧ BS w ao' cap' (fst_ l) ∧ ∀ b, blk ao' b → blk ao b) ∧ w' = w := by
  have HB : Hid (BS w ao cap l) := hB
  by_cases h : l.length = 0
  · have e : fst_ l = [] := by unfold fst_; rw [if_pos (by have := cln_bd (bn l 0); omega)]
    rw [e]
    have h' : ((l.length : Int) == 0) = true := by rw [beq_iff_eq]; omega
    clear hB e h
    go_enter Try.func84, Try.ntmps84
    go_wp2
    go_ret
    exact ⟨⟨none, 0, rfl, BS.bare _, fun _ g => (blk_none g).elim⟩, rfl⟩
  · have hk : 0 < l.length := by omega
    obtain ⟨b, off, rfl, hb⟩ := hB.there (by have := hB.hle; omega)
    have hc := hB.hce _ rfl 0 hk
    have hm := hB.hmax
    have hl := hB.hle
    unfold maxLen at hm
    have hcl := cln_bd (bn l 0)
    rw [← bn_of hk] at hc
    simp only [Nat.add_zero] at hc
    have h' : ((l.length : Int) == 0) = false := beq_false_of_ne (by omega)
    have h2 : (0 : Int) < l.length := by omega
    clear hB h
    by_cases hq : l.length < cln (bn l 0)
    · have e : fst_ l = [] := by unfold fst_; rw [if_pos hq]
      rw [e]
      have hq' : (l.length : Int) < cln (bn l 0) := by omega
      clear e
      go_enter Try.func84, Try.ntmps84
      go_wp2_with (go_at_call 93; refine (lengthOf_any _ _).mono ?_; rintro e w2 ⟨rfl, rfl⟩)
      go_ret
      exact ⟨⟨none, 0, rfl, BS.bare _, fun _ g => (blk_none g).elim⟩, rfl⟩
    · have e : fst_ l = l.take (cln (bn l 0)) := by unfold fst_; rw [if_neg hq]
      rw [e]
      have hq' : ¬ (l.length : Int) < cln (bn l 0) := by omega
      have z1 : (0 : Int) ≤ (cln (bn l 0) : Int) := by omega
      have z2 : (cln (bn l 0) : Int) ≤ (cap : Int) := by omega
      have z3 : (cln (bn l 0) : Int) < 9223372036854775808 := by omega
      clear e
      go_enter Try.func84, Try.ntmps84
      go_wp2_with (go_at_call 93; refine (lengthOf_any _ _).mono ?_; rintro e w2 ⟨rfl, rfl⟩)
      go_ret
      exact ⟨⟨_, cap, ret_sl (by rw [List.length_take_of_le (by omega)]), HB.out.take _ (by omega), fun _ g => g⟩, rfl⟩

/-- the command that may be worked at -/
def nxt (C : Ctx) : List UInt8 := if 1024 ≤ (C.by_ 9).length then [] else fst_ (C.by_ 8)

set_option maxHeartbeats 400000 in
theorem next_any (F : Nat → Prop) (p : Nat) (C : Ctx) (w : World) (hC : Cx w F p C) :
    Calls Try.prog 72 #[.pointer (some ⟨p, 0, none⟩)] w fun e w' => (∃ ao' cap', e = .returned (.slice ao' (nxt C).length cap') ∧ BS w ao' cap' (nxt C) ∧ ¬ blk ao' p) ∧ w' = w := by
  obtain ⟨ad, cp, hA⟩ := hC
  have q8 := hA.sl 8 (by omega)
  have q9 := hA.sl 9 (by omega)
  have q3 := hA.lt
  simp only [show slot 8 = 24 from rfl, show slot 9 = 26 from rfl] at q8 q9
  have HA : Hid (CtxAt w F p ad cp C) := hA
  clear hA
  by_cases h : 1024 ≤ (C.by_ 9).length
  · have e : nxt C = [] := by unfold nxt; rw [if_pos h]
    rw [e]
    have h' : (1024 : Int) ≤ (C.by_ 9).length := by omega
    clear e
    go_enter Try.func72, Try.ntmps72
    go_wp2
    go_ret
    exact ⟨⟨none, 0, rfl, BS.bare _, blk_none⟩, rfl⟩
  · have e : nxt C = fst_ (C.by_ 8) := by unfold nxt; rw [if_neg h]
    rw [e]
    have h' : ¬ (1024 : Int) ≤ (C.by_ 9).length := by omega
    clear e
    go_enter Try.func72, Try.ntmps72
    go_wp2_with (go_at_call 84; refine (first_any _ _ _ _ (HA.out.bs 8 (by omega))).mono ?_; rintro e w2 ⟨⟨ao, cap, rfl, hb, hk⟩, rfl⟩; have HB : Hid _ := hb; have HK : Hid _ := hk; clear hb hk)
    go_ret
    exact ⟨⟨ao, cap, rfl, HB.out, fun g => HA.out.own 8 (by omega) (HK.out p g)⟩, rfl⟩

/-- what a command costs -/
def cst (C : Ctx) (m : List UInt8) : Int := if bn m 0 = 1 ∧ can C.by_ (bn m 1) (bn m 2) (bn m 3) = 0 then 1 + (bn m 2 : Int) * bn m 3 else 1

theorem mul255 {a b : Nat} (h : a ≤ 255) (k : b ≤ 255) : 0 ≤ (a : Int) * b ∧ (a : Int) * b ≤ 65025 := by
  have h2 : a * b ≤ 255 * 255 := Nat.mul_le_mul h k
  rw [← Int.natCast_mul]
  omega

set_option maxHeartbeats 1000000 in
theorem costOf_any (F : Nat → Prop) (p : Nat) (C : Ctx) (ao : Option Addr) (cap : Nat) (m : List UInt8) (w : World) (hC : Cx w F p C) (hS : smallC C) (hB : BS w ao cap m) (h1 : bn m 0 = 1) :
    Calls Try.prog 86 #[.pointer (some ⟨p, 0, none⟩), .slice ao m.length cap] w fun e w' => e = .returned (.int .i64 (cst C m)) ∧ Below w.heap.size w w' := by
  have HC : Hid (Cx w F p C) := hC
  have HS : Hid (smallC C) := hS
  have HB : Hid (BS w ao cap m) := hB
  have hlt : p < w.heap.size := by obtain ⟨_, _, hA⟩ := hC; exact hA.lt
  obtain ⟨m1, m2⟩ := mul255 (bn_le m 2) (bn_le m 3)
  clear hC hS hB
  by_cases hc : can C.by_ (bn m 1) (bn m 2) (bn m 3) = 0
  · have e : cst C m = 1 + (bn m 2 : Int) * bn m 3 := by unfold cst; rw [if_pos ⟨h1, hc⟩]
    rw [e]
    have hc' : (can C.by_ (bn m 1) (bn m 2) (bn m 3) != 0) = false := by simpa using hc
    clear e hc
    go_enter Try.func86, Try.ntmps86
    go_wp2_with (first | (go_at_call 85; refine (field_at _ _ _ _ _ HB.out 1 (by omega)).mono ?_; rintro e w2 ⟨rfl, rfl⟩) | (go_at_call 85; refine (field_at _ _ _ _ _ HB.out 2 (by omega)).mono ?_; rintro e w2 ⟨rfl, rfl⟩) | (go_at_call 85; refine (field_at _ _ _ _ _ HB.out 3 (by omega)).mono ?_; rintro e w2 ⟨rfl, rfl⟩) | (go_at_call 94; refine (can_any F p C _ _ _ _ HC.out HS.out).mono ?_; rintro e w3 ⟨rfl, hb3⟩))
    go_ret
    exact ⟨rfl, hb3⟩
  · have e : cst C m = 1 := by unfold cst; rw [if_neg (fun g => hc g.2)]
    rw [e]
    have hc' : (can C.by_ (bn m 1) (bn m 2) (bn m 3) != 0) = true := by simpa using hc
    clear e hc
    go_enter Try.func86, Try.ntmps86
    go_wp2_with (first | (go_at_call 85; refine (field_at _ _ _ _ _ HB.out 1 (by omega)).mono ?_; rintro e w2 ⟨rfl, rfl⟩) | (go_at_call 85; refine (field_at _ _ _ _ _ HB.out 2 (by omega)).mono ?_; rintro e w2 ⟨rfl, rfl⟩) | (go_at_call 85; refine (field_at _ _ _ _ _ HB.out 3 (by omega)).mono ?_; rintro e w2 ⟨rfl, rfl⟩) | (go_at_call 94; refine (can_any F p C _ _ _ _ HC.out HS.out).mono ?_; rintro e w3 ⟨rfl, hb3⟩))
    go_ret
    exact ⟨rfl, hb3⟩

set_option maxHeartbeats 1000000 in
theorem cost_any (F : Nat → Prop) (p : Nat) (C : Ctx) (ao : Option Addr) (cap : Nat) (m : List UInt8) (w : World) (hC : Cx w F p C) (hS : smallC C) (hB : BS w ao cap m) :
    Calls Try.prog 73 #[.pointer (some ⟨p, 0, none⟩), .slice ao m.length cap] w fun e w' => e = .returned (.int .i64 (cst C m)) ∧ Below w.heap.size w w' := by
  have HC : Hid (Cx w F p C) := hC
  have HS : Hid (smallC C) := hS
  have HB : Hid (BS w ao cap m) := hB
  clear hC hS hB
  by_cases h1 : bn m 0 = 1
  · have H1 : Hid (bn m 0 = 1) := h1
    have hd : ((bn m 0 : Int) == 1) = true := by rw [beq_iff_eq]; omega
    clear h1
    go_enter Try.func73, Try.ntmps73
    go_wp2_with (first | (go_at_call 85; refine (field_at _ _ _ _ _ HB.out 0 (by omega)).mono ?_; rintro e w2 ⟨rfl, rfl⟩) | (go_at_call 86; refine (costOf_any F p C _ _ _ _ HC.out HS.out HB.out H1.out).mono ?_; rintro e w3 ⟨rfl, hb3⟩))
    go_ret
    exact ⟨rfl, hb3⟩
  · have e : cst C m = 1 := by unfold cst; rw [if_neg (fun g => h1 g.1)]
    rw [e]
    have hd : ((bn m 0 : Int) == 1) = false := beq_false_of_ne (by omega)
    clear h1 e
    go_enter Try.func73, Try.ntmps73
    go_wp2_with (go_at_call 85; refine (field_at _ _ _ _ _ HB.out 0 (by omega)).mono ?_; rintro e w2 ⟨rfl, rfl⟩)
    go_ret
    exact ⟨rfl, Below.refl _ _⟩

end Go.Proofs.Ytibliodajabhbaa
