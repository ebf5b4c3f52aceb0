/- Walks: the pages of a context's objects (P10). -/
import Derived.Test.YtoafhdbgjpkgfabObjs
import Derived.Deep.MidRow
namespace Go.Proofs.Ytoafhdbgjpkgfab
open Go.RowKit

def smallC (C : Ctx) : Prop := ∀ k, k < 8 → (C.by_ k).length ≤ 576

/-- the eight objects, as they are read at once -/
theorem objs_row {W : World} {F : Nat → Prop} {p : Nat} {ad : Nat → Option Addr} {cp : Nat → Nat} {C : Ctx} (h : CtxAt W F p ad cp C) :
    ∃ cs : List Value, cs.length = 24 ∧ W.rangeAt p 0 cs ∧ ∀ k : Nat, k < 8 → ∀ w, (Instr.index 63 (.agg cs.toArray) (.int .i64 (k : Int))).run Try.prog w = .ok (.agg #[.int .i64 (C.wd k), .int .i64 (C.ht k), .slice (ad k) (C.by_ k).length (cp k)]) w := by
  refine ⟨[.int .i64 (C.wd 0), .int .i64 (C.ht 0), .slice (ad 0) (C.by_ 0).length (cp 0), .int .i64 (C.wd 1), .int .i64 (C.ht 1), .slice (ad 1) (C.by_ 1).length (cp 1), .int .i64 (C.wd 2), .int .i64 (C.ht 2), .slice (ad 2) (C.by_ 2).length (cp 2), .int .i64 (C.wd 3), .int .i64 (C.ht 3), .slice (ad 3) (C.by_ 3).length (cp 3),
      .int .i64 (C.wd 4), .int .i64 (C.ht 4), .slice (ad 4) (C.by_ 4).length (cp 4), .int .i64 (C.wd 5), .int .i64 (C.ht 5), .slice (ad 5) (C.by_ 5).length (cp 5), .int .i64 (C.wd 6), .int .i64 (C.ht 6), .slice (ad 6) (C.by_ 6).length (cp 6), .int .i64 (C.wd 7), .int .i64 (C.ht 7), .slice (ad 7) (C.by_ 7).length (cp 7)], rfl, ?_, ?_⟩
  · intro j v hj
    rw [Nat.zero_add]
    match j, hj with
    | 0, hj => cases hj; exact h.wd 0 (by omega)
    | 1, hj => cases hj; exact h.ht 0 (by omega)
    | 2, hj => cases hj; exact h.sl 0 (by omega)
    | 3, hj => cases hj; exact h.wd 1 (by omega)
    | 4, hj => cases hj; exact h.ht 1 (by omega)
    | 5, hj => cases hj; exact h.sl 1 (by omega)
    | 6, hj => cases hj; exact h.wd 2 (by omega)
    | 7, hj => cases hj; exact h.ht 2 (by omega)
    | 8, hj => cases hj; exact h.sl 2 (by omega)
    | 9, hj => cases hj; exact h.wd 3 (by omega)
    | 10, hj => cases hj; exact h.ht 3 (by omega)
    | 11, hj => cases hj; exact h.sl 3 (by omega)
    | 12, hj => cases hj; exact h.wd 4 (by omega)
    | 13, hj => cases hj; exact h.ht 4 (by omega)
    | 14, hj => cases hj; exact h.sl 4 (by omega)
    | 15, hj => cases hj; exact h.wd 5 (by omega)
    | 16, hj => cases hj; exact h.ht 5 (by omega)
    | 17, hj => cases hj; exact h.sl 5 (by omega)
    | 18, hj => cases hj; exact h.wd 6 (by omega)
    | 19, hj => cases hj; exact h.ht 6 (by omega)
    | 20, hj => cases hj; exact h.sl 6 (by omega)
    | 21, hj => cases hj; exact h.wd 7 (by omega)
    | 22, hj => cases hj; exact h.ht 7 (by omega)
    | 23, hj => cases hj; exact h.sl 7 (by omega)
    | n + 24, hj => cases hj
  · intro k hk w
    rcases (by omega : k = 0 ∨ k = 1 ∨ k = 2 ∨ k = 3 ∨ k = 4 ∨ k = 5 ∨ k = 6 ∨ k = 7) with rfl | rfl | rfl | rfl | rfl | rfl | rfl | rfl <;> kernel_rfl

set_option maxHeartbeats 1000000 in
theorem pages_any (F M : Nat → Prop) (p : Nat) (C : Ctx) (w : World) (hC : Cx w F M p C) (hS : smallC C) : Calls Try.prog 58 #[.pointer (some ⟨p, 0, none⟩)] w fun e w' => e = .returned (.int .i64 (tot C.by_ 8)) ∧ Below w.heap.size w w' := by
  obtain ⟨ad, cp, hC, _⟩ := hC
  have HS : Hid (smallC C) := hS
  have hlt := hC.lt
  obtain ⟨cs, hl, hr, hix⟩ := objs_row hC
  have HR : Hid (w.rangeAt p 0 cs) := hr
  have HL : Hid (cs.length = 24) := hl
  have HX : Hid _ := hix
  clear hC hS hr hl hix
  go_enter Try.func58, Try.ntmps58
  go_wp2_with (refine wpList_load_mid rfl 63 (.tmp 8) rfl p 0 rfl cs _ HR.out Try.underlying63 rfl (by rw [HL.out]; kernel_rfl) ?_)
  have hix := HX.out
  go_loopw [3, 10] (fun t i wr => ∃ k : Nat, k ≤ 8 ∧ i = .int .i64 k ∧ t = .int .i64 (tot C.by_ k) ∧ Below w.heap.size w wr) (fun _ i _ => 8 - (intOf i).toNat)
  case atStart => exact ⟨0, by omega, rfl, rfl, Below.refl _ _⟩
  case round =>
    obtain ⟨k, hk, rfl, rfl, hB⟩ := hrel
    have BB : Hid (Below w.heap.size w wr) := hB
    have hz := hB.size
    clear hB
    by_cases hlt8 : k < 8
    · have hb := tot_bd (f := C.by_) (n := k) (fun j hj => HS.out j (by omega))
      have hs := HS.out k hlt8
      have hp : 0 ≤ pg ((C.by_ k).length : Int) ∧ pg ((C.by_ k).length : Int) ≤ 9 := by unfold pg; omega
      have hx := hix k hlt8
      obtain ⟨hb1, hb2⟩ := hb
      obtain ⟨hp1, hp2⟩ := hp
      clear hix
      go_wp2_with (go_at_call 70; refine (pagesOf_any _ _ (by omega) (by omega)).mono ?_; rintro e w2 ⟨rfl, rfl⟩)
      go_roundw
      case rel => exact ⟨k + 1, by omega, by go_num, rfl, BB.out.alloc hz _⟩
      case measure => simp [intOf]; omega
    · have e : k = 8 := by omega
      subst e
      clear hix
      go_wp2
      go_ret
      exact ⟨rfl, BB.out⟩
end Go.Proofs.Ytoafhdbgjpkgfab
