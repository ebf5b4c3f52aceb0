/- A server in memory; New, find, Send, Run, Replies (P6 to P9). -/
import Derived.Test.YtbedkfgdhaajaabSend
namespace Go.Proofs.Ytbedkfgdhaajaab
open Go.RowKit

/-- the pointer of context number j -/
def ptr (S : Nat → Option Gst) (pt : Nat → Nat) (j : Nat) : Option Addr := match S j with | none => none | some _ => some ⟨pt j, 0, none⟩

theorem ptr_none {S : Nat → Option Gst} {pt : Nat → Nat} {j : Nat} (h : S j = none) : ptr S pt j = none := by unfold ptr; rw [h]
theorem ptr_some {S : Nat → Option Gst} {pt : Nat → Nat} {j : Nat} {C : Gst} (h : S j = some C) : ptr S pt j = some ⟨pt j, 0, none⟩ := by unfold ptr; rw [h]

structure SrvAt (W : World) (G : Nat → Prop) (g : Nat) (pt : Nat → Nat) (F : Nat → Nat → Prop) (S : Nat → Option Gst) : Prop where
  ce : ∀ j, j < 8 → W.cell? ⟨g, j, none⟩ = some (.pointer (ptr S pt j))
  fz : ∀ j, W.frozen? ⟨g, j, none⟩ = false
  lt : g < W.heap.size
  cx : ∀ j C, j < 8 → S j = some C → PG W (F j) (pt j) C
  dis : ∀ i j b, i < 8 → j < 8 → i ≠ j → F i b → ¬ F j b
  own : ∀ j, j < 8 → ¬ F j g
  gg : G g
  gf : ∀ j b, j < 8 → F j b → G b
  inn : ∀ b, G b → b < W.heap.size

/-- a server lies at g, in the blocks of G -/
def Sv (W : World) (G : Nat → Prop) (g : Nat) (S : Nat → Option Gst) : Prop := ∃ pt F, SrvAt W G g pt F S

/-- a call has turned the server at g into S', and nothing else that was there -/
def SGoes (G : Nat → Prop) (w w' : World) (g : Nat) (S' : Nat → Option Gst) : Prop := Only G w w' ∧ ∃ G', Sv w' G' g S' ∧ ∀ b, G' b → G b ∨ w.heap.size ≤ b

section
variable {W W' : World} {G H : Nat → Prop} {g : Nat} {pt : Nat → Nat} {F : Nat → Nat → Prop} {S : Nat → Option Gst}

theorem SrvAt.only (h : SrvAt W G g pt F S) (ho : Only H W W') (hn : ∀ b, G b → ¬ H b) : SrvAt W' G g pt F S := by
  have hg := hn g h.gg
  refine ⟨fun j hj => ?_, fun j => ?_, Nat.lt_of_lt_of_le h.lt ho.size, fun j C hj hC => (h.cx j C hj hC).only ho (fun b hb => hn b (h.gf j b hj hb)), h.dis, h.own, h.gg, h.gf, fun b hb => Nat.lt_of_lt_of_le (h.inn b hb) ho.size⟩
  · rw [ho.cell h.lt hg]; exact h.ce j hj
  · rw [ho.frozen h.lt hg]; exact h.fz j
theorem Sv.only (h : Sv W G g S) (ho : Only H W W') (hn : ∀ b, G b → ¬ H b) : Sv W' G g S := by obtain ⟨pt, F, h⟩ := h; exact ⟨pt, F, h.only ho hn⟩
theorem Sv.below (h : Sv W G g S) (hb : Below W.heap.size W W') : Sv W' G g S := h.only (H := fun _ => False) (Only.of_below hb) (fun _ _ k => k)
theorem Sv.lt (h : Sv W G g S) : g < W.heap.size := by obtain ⟨pt, F, h⟩ := h; exact h.lt

theorem SGoes.then {G1 : Nat → Prop} {w w1 w2 : World} {S' : Nat → Option Gst} (h : Only G w w1) (h1 : ∀ b, G1 b → G b ∨ w.heap.size ≤ b) (k : SGoes G1 w1 w2 g S') : SGoes G w w2 g S' := by
  obtain ⟨g1, F2, g2, g3⟩ := k
  refine ⟨h.trans g1 h1, F2, g2, fun b hb => ?_⟩
  rcases g3 b hb with k | k
  · exact h1 b k
  · have := h.size; exact .inr (by omega)
theorem SGoes.stay {w w' : World} (h : Sv w G g S) (hb : Below w.heap.size w w') : SGoes G w w' g S := ⟨Only.of_below hb, G, h.below hb, fun _ k => .inl k⟩

/-- one context has gone on -/
theorem SGoes.ctx (h : SrvAt W G g pt F S) {c : Nat} (hc : c < 8) {C C' : Gst} (hC : S c = some C) (k : PGoes (F c) W W' (pt c) C') : SGoes G W W' g (updA S c (some C')) := by
  obtain ⟨ho, F1, hx, hf⟩ := k
  have hgn := h.own c hc
  have hin1 : ∀ b, F1 b → b < W'.heap.size := fun b hb => hx.inn hb
  have e : ∀ j, ptr (updA S c (some C')) pt j = ptr S pt j := by
    intro j
    by_cases e : j = c
    · subst e; rw [ptr_some (updA_same _ _ _), ptr_some hC]
    · unfold ptr; rw [updA_other _ _ e]
  refine ⟨ho.mono (fun b _ hb => h.gf c b hc hb), fun b => G b ∨ (W.heap.size ≤ b ∧ b < W'.heap.size), ⟨pt, updA F c F1, ⟨fun j hj => ?_, fun j => ?_, Nat.lt_of_lt_of_le h.lt ho.size, fun j D hj hD => ?_, fun i j b hi hj hij => ?_, fun j hj => ?_, .inl h.gg, fun j b hj => ?_, fun b hb => ?_⟩⟩, fun b hb => hb.imp id And.left⟩
  · rw [e, ho.cell h.lt hgn]; exact h.ce j hj
  · rw [ho.frozen h.lt hgn]; exact h.fz j
  · by_cases e : j = c
    · subst e; rw [updA_same] at hD ⊢; cases hD; exact hx
    · rw [updA_other _ _ e] at hD ⊢; exact (h.cx j D hj hD).only ho (fun b hb => h.dis j c b hj hc e hb)
  · have hlt : ∀ j b, j < 8 → F j b → b < W.heap.size := fun j b hj hb => h.inn b (h.gf j b hj hb)
    by_cases ei : i = c
    · subst ei
      rw [updA_same, updA_other _ _ (fun q => hij q.symm)]
      intro q1 q2
      rcases hf b q1 with q | q
      · exact h.dis i j b hi hj hij q q2
      · have := hlt j b hj q2; omega
    · by_cases ej : j = c
      · subst ej
        rw [updA_same, updA_other _ _ ei]
        intro q1 q2
        rcases hf b q2 with q | q
        · exact h.dis i j b hi hj hij q1 q
        · have := hlt i b hi q1; omega
      · rw [updA_other _ _ ei, updA_other _ _ ej]; exact h.dis i j b hi hj hij
  · by_cases e : j = c
    · subst e
      rw [updA_same]
      intro q
      rcases hf g q with q | q
      · exact hgn q
      · have := h.lt; omega
    · rw [updA_other _ _ e]; exact h.own j hj
  · by_cases e : j = c
    · subst e
      rw [updA_same]
      intro q
      rcases hf b q with q' | q'
      · exact .inl (h.gf j b hj q')
      · exact .inr ⟨q', hin1 b q⟩
    · rw [updA_other _ _ e]; exact fun q => .inl (h.gf j b hj q)
  · rcases hb with q | q
    · exact Nat.lt_of_lt_of_le (h.inn b q) ho.size
    · exact q.2

end

/-- no context c is open -/
def shut (S : Nat → Option Gst) (c : Int) : Prop := c < 0 ∨ 8 ≤ c ∨ S c.toNat = none

theorem tup_pe {a b : Option Addr} {c d : Int} (h : a = b) (k : c = d) : Ending.returned (.tuple #[.pointer a, .int .i64 c]) = .returned (.tuple #[.pointer b, .int .i64 d]) := by rw [h, k]

set_option maxHeartbeats 400000 in
theorem find_no (G : Nat → Prop) (g : Nat) (S : Nat → Option Gst) (c : Int) (w : World) (hS : Sv w G g S) (h : shut S c) :
    Calls Try.prog 24 #[.pointer (some ⟨g, 0, none⟩), .int .i64 c] w fun e w' => e = .returned (.tuple #[.pointer none, .int .i64 11]) ∧ w' = w := by
  by_cases h1 : c < 0
  · go_enter Try.func24, Try.ntmps24
    go_wp2
    go_ret2
    exact ⟨rfl, rfl⟩
  · by_cases h2 : 8 ≤ c
    · go_enter Try.func24, Try.ntmps24
      go_wp2
      go_ret2
      exact ⟨rfl, rfl⟩
    · obtain ⟨n, rfl⟩ : ∃ n : Nat, c = n := ⟨c.toNat, by omega⟩
      have hn : S n = none := by rcases h with h | h | h; omega; omega; simpa using h
      obtain ⟨pt, F, hA⟩ := hS
      have q := hA.ce n (by omega)
      rw [ptr_none hn] at q
      have ql := hA.lt
      have n0 : (0 : Int) ≤ n := by omega
      have n8 : (n : Int) < 8 := by omega
      clear hA hn h
      go_enter Try.func24, Try.ntmps24
      go_wp2
      go_ret2
      exact ⟨rfl, rfl⟩

set_option maxHeartbeats 400000 in
theorem find_yes (G : Nat → Prop) (g : Nat) (pt : Nat → Nat) (F : Nat → Nat → Prop) (S : Nat → Option Gst) (n : Nat) (C : Gst) (w : World) (hA : SrvAt w G g pt F S) (hn : n < 8) (hC : S n = some C) :
    Calls Try.prog 24 #[.pointer (some ⟨g, 0, none⟩), .int .i64 n] w fun e w' => e = .returned (.tuple #[.pointer (some ⟨pt n, 0, none⟩), .int .i64 0]) ∧ w' = w := by
  have q := hA.ce n hn
  rw [ptr_some hC] at q
  have ql := hA.lt
  have n0 : (0 : Int) ≤ n := by omega
  have n8 : (n : Int) < 8 := by omega
  clear hA hC
  go_enter Try.func24, Try.ntmps24
  go_wp2
  go_ret2
  exact ⟨rfl, rfl⟩

end Go.Proofs.Ytbedkfgdhaajaab
