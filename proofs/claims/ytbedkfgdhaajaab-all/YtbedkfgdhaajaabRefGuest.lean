/- The document's answer: a guest in memory (P8). -/
import Derived.Test.YtbedkfgdhaajaabRefDo3
namespace Go.Proofs.Ytbedkfgdhaajaab
open Go.RowKit

/-- the cells of a room, and of a guest -/
def rcl (R : Rm) : List Value :=
  [.int .i64 (R.wd 0), .string (str (R.bs 0)), .int .i64 (R.wd 1), .string (str (R.bs 1)), .int .i64 (R.wd 2), .string (str (R.bs 2)), .int .i64 (R.wd 3), .string (str (R.bs 3)), .int .i64 (R.wd 4), .string (str (R.bs 4)), .int .i64 (R.wd 5), .string (str (R.bs 5)), .int .i64 (R.wd 6), .string (str (R.bs 6)), .int .i64 (R.wd 7), .string (str (R.bs 7)),
    .bool (R.has 0), .bool (R.has 1), .bool (R.has 2), .bool (R.has 3), .string (str (R.cd 0)), .string (str (R.cd 1)), .string (str (R.cd 2)), .string (str (R.cd 3))]

def gcl (g : Gst) : List Value := .bool g.op :: (rcl g.rm ++ [.string (str g.wait), .int .i64 g.paid, .string (str g.out)])

theorem rcl_length (R : Rm) : (rcl R).length = 24 := rfl
theorem gcl_length (g : Gst) : (gcl g).length = 28 := rfl
theorem gcl_one (g : Gst) : ∀ v ∈ gcl g, v.oneCell' = true := by
  intro v hv
  simp [gcl, rcl] at hv
  rcases hv with rfl | rfl | rfl | rfl | rfl | rfl | rfl | rfl | rfl | rfl | rfl | rfl | rfl | rfl | rfl | rfl | rfl | rfl | rfl | rfl | rfl | rfl | rfl | rfl | rfl | rfl | rfl | rfl <;> rfl
theorem rcl_one (R : Rm) : ∀ v ∈ rcl R, v.oneCell' = true := by
  intro v hv
  simp [rcl] at hv
  rcases hv with rfl | rfl | rfl | rfl | rfl | rfl | rfl | rfl | rfl | rfl | rfl | rfl | rfl | rfl | rfl | rfl | rfl | rfl | rfl | rfl | rfl | rfl | rfl | rfl <;> rfl

theorem room_of {W : World} {b o : Nat} {R : Rm} (h : W.rangeAt b o (rcl R)) (hf : ∀ j, W.frozen? ⟨b, j, none⟩ = false) (hl : b < W.heap.size) : RoomAt W b o R := by
  refine ⟨fun k hk => ?_, fun k hk => ?_, fun k hk => ?_, fun k hk => ?_, hf, hl⟩
  · refine h (k * 2) _ ?_
    rcases (by omega : k = 0 ∨ k = 1 ∨ k = 2 ∨ k = 3 ∨ k = 4 ∨ k = 5 ∨ k = 6 ∨ k = 7) with rfl | rfl | rfl | rfl | rfl | rfl | rfl | rfl <;> rfl
  · have := h (k * 2 + 1) (.string (str (R.bs k))) (by rcases (by omega : k = 0 ∨ k = 1 ∨ k = 2 ∨ k = 3 ∨ k = 4 ∨ k = 5 ∨ k = 6 ∨ k = 7) with rfl | rfl | rfl | rfl | rfl | rfl | rfl | rfl <;> rfl)
    rw [← Nat.add_assoc] at this
    exact this
  · have := h (16 + k) (.bool (R.has k)) (by rcases (by omega : k = 0 ∨ k = 1 ∨ k = 2 ∨ k = 3) with rfl | rfl | rfl | rfl <;> rfl)
    rw [← Nat.add_assoc] at this
    exact this
  · have := h (20 + k) (.string (str (R.cd k))) (by rcases (by omega : k = 0 ∨ k = 1 ∨ k = 2 ∨ k = 3) with rfl | rfl | rfl | rfl <;> rfl)
    rw [← Nat.add_assoc] at this
    exact this

theorem RoomAt.range {W : World} {b o : Nat} {R : Rm} (h : RoomAt W b o R) : W.rangeAt b o (rcl R) := by
  intro j v hj
  match j, hj with
  | 0, hj => cases hj; exact h.wd 0 (by omega)
  | 1, hj => cases hj; exact h.bs 0 (by omega)
  | 2, hj => cases hj; exact h.wd 1 (by omega)
  | 3, hj => cases hj; exact h.bs 1 (by omega)
  | 4, hj => cases hj; exact h.wd 2 (by omega)
  | 5, hj => cases hj; exact h.bs 2 (by omega)
  | 6, hj => cases hj; exact h.wd 3 (by omega)
  | 7, hj => cases hj; exact h.bs 3 (by omega)
  | 8, hj => cases hj; exact h.wd 4 (by omega)
  | 9, hj => cases hj; exact h.bs 4 (by omega)
  | 10, hj => cases hj; exact h.wd 5 (by omega)
  | 11, hj => cases hj; exact h.bs 5 (by omega)
  | 12, hj => cases hj; exact h.wd 6 (by omega)
  | 13, hj => cases hj; exact h.bs 6 (by omega)
  | 14, hj => cases hj; exact h.wd 7 (by omega)
  | 15, hj => cases hj; exact h.bs 7 (by omega)
  | 16, hj => cases hj; exact h.has 0 (by omega)
  | 17, hj => cases hj; exact h.has 1 (by omega)
  | 18, hj => cases hj; exact h.has 2 (by omega)
  | 19, hj => cases hj; exact h.has 3 (by omega)
  | 20, hj => cases hj; exact h.cd 0 (by omega)
  | 21, hj => cases hj; exact h.cd 1 (by omega)
  | 22, hj => cases hj; exact h.cd 2 (by omega)
  | 23, hj => cases hj; exact h.cd 3 (by omega)
  | n + 24, hj => cases hj

/-- a guest lies at b, from o on -/
structure GAt (W : World) (b o : Nat) (g : Gst) : Prop where
  rng : W.rangeAt b o (gcl g)
  fz : ∀ j, W.frozen? ⟨b, j, none⟩ = false
  lt : b < W.heap.size

section
variable {W W' : World} {b o : Nat} {g : Gst}
theorem GAt.op (h : GAt W b o g) : W.cell? ⟨b, o, none⟩ = some (.bool g.op) := h.rng 0 _ rfl
theorem GAt.wait (h : GAt W b o g) : W.cell? ⟨b, o + 25, none⟩ = some (.string (str g.wait)) := h.rng 25 _ rfl
theorem GAt.paid (h : GAt W b o g) : W.cell? ⟨b, o + 26, none⟩ = some (.int .i64 g.paid) := h.rng 26 _ rfl
theorem GAt.out (h : GAt W b o g) : W.cell? ⟨b, o + 27, none⟩ = some (.string (str g.out)) := h.rng 27 _ rfl
theorem GAt.room (h : GAt W b o g) : RoomAt W b (o + 1) g.rm := by
  refine room_of (fun j v hj => ?_) h.fz h.lt
  have hlt : j < 24 := by
    rcases Nat.lt_or_ge j 24 with q | q
    · exact q
    · rw [List.getElem?_eq_none (by rw [rcl_length]; exact q)] at hj; cases hj
  have := h.rng (j + 1) v (by
    show (rcl g.rm ++ _)[j]? = some v
    rw [List.getElem?_append_left (by rw [rcl_length]; exact hlt)]; exact hj)
  rw [show o + 1 + j = o + (j + 1) by omega]
  exact this
theorem GAt.only {H : Nat → Prop} (h : GAt W b o g) (ho : Only H W W') (hn : ¬ H b) : GAt W' b o g :=
  ⟨fun j v hj => (ho.cell h.lt hn _).trans (h.rng j v hj), fun j => (ho.frozen h.lt hn j).trans (h.fz j), Nat.lt_of_lt_of_le h.lt ho.size⟩
theorem GAt.below (h : GAt W b o g) (hb : Below W.heap.size W W') : GAt W' b o g := h.only (H := fun _ => False) (Only.of_below hb) id
theorem GAt.there (h : GAt W b o g) : W.there b o 28 := fun j hj => ⟨by
  have hl : j < (gcl g).length := hj
  rw [h.rng j _ (List.getElem?_eq_getElem hl)]; rfl, h.fz _⟩

theorem sz_setCells (W : World) (b o : Nat) (vs : List Value) : (W.setCells b o vs).heap.size = W.heap.size := (setCells_block b vs o W).1

/-- a guest is stored, whole -/
theorem GAt.put (h : GAt W b o g) (g' : Gst) : GAt (W.setCells b o (gcl g')) b o g' :=
  ⟨World.rangeAt_setCells_same _ _ _ _ h.there, fun j => by rw [World.frozen?_setCells]; exact h.fz j, by rw [sz_setCells]; exact h.lt⟩

theorem GAt.setPaid (h : GAt W b o g) (v : Int) : GAt (W.setCell ⟨b, o + 26, none⟩ (.int .i64 v)) b o { g with paid := v } := by
  refine ⟨fun j u hj => ?_, fun j => by rw [World.frozen?_setCell]; exact h.fz j, by rw [sz_setCell]; exact h.lt⟩
  by_cases e : j = 26
  · subst e
    cases hj
    exact World.cell?_setCell_same _ _ _ h.paid
  · rw [World.cell?_setCell_other _ _ _ _ (addr_ne (by omega))]
    refine h.rng j u ?_
    match j, hj, e with
    | 26, _, e => exact absurd rfl e
    | 0, hj, _ | 1, hj, _ | 2, hj, _ | 3, hj, _ | 4, hj, _ | 5, hj, _ | 6, hj, _ | 7, hj, _ | 8, hj, _ | 9, hj, _ | 10, hj, _ | 11, hj, _ | 12, hj, _ | 13, hj, _ | 14, hj, _ | 15, hj, _ | 16, hj, _ | 17, hj, _ | 18, hj, _ | 19, hj, _ | 20, hj, _ | 21, hj, _ | 22, hj, _ | 23, hj, _ | 24, hj, _ | 25, hj, _ | 27, hj, _ => exact hj
    | n + 28, hj, _ => exact hj
end

end Go.Proofs.Ytbedkfgdhaajaab
