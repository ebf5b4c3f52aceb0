/- []byte(s), as a slice of bytes. -/
import Derived.Test.YtbedkfgdhaajaabProg
import Derived.Test.YtbedkfgdhaajaabBase
import Derived.Laws.IdiomStrings
namespace Go.Proofs.Ytbedkfgdhaajaab
open Go.RowKit

/-- the capacity and the world behind []byte(s) -/
def cvC (w : World) (s : ByteArray) : Nat := grownCap w s.size 0 5
def cvW (w : World) (s : ByteArray) : World := w.drew.alloc (.cells (bytesRow s (cvC w s)) 5 (cvC w s, cvC w s + 1))

/-- []byte(s) -/
theorem run_bytes_all (w : World) (l : List UInt8) (hl : l.length ≤ 140737488355328) :
    ∃ cap w', cap = cvC w (str l) ∧ w' = cvW w (str l) ∧ (convert 9 51 (.string (str l))).run Try.prog w = .ok (.slice (some ⟨w.heap.size, 0, none⟩) l.length cap) w' ∧ BS w' (some ⟨w.heap.size, 0, none⟩) cap l ∧ Below w.heap.size w w' := by
  have hr := run_bytes_of_string (P := Try.prog) w 9 51 5 (str l) Try.underlying9 Try.underlying51 Try.underlying5
  have hge := grownCap_ge w (str l).size 0 5
  have hcm : grownCap w (str l).size 0 5 ≤ maxLen := grownCap_le_maxLen w (str l).size 0 5 (by rw [str_size]; unfold maxLen; omega)
  rw [str_size] at hr hge hcm
  obtain ⟨gc, hgc⟩ : ∃ gc, cvC w (str l) = gc := ⟨_, rfl⟩
  have hgc' : grownCap w l.length 0 5 = gc := by rw [← hgc]; unfold cvC; rw [str_size]
  rw [hgc'] at hr hge hcm
  have hsz : (bytesRow (str l) gc).size = gc := by
    unfold bytesRow
    rw [Array.size_append, Array.size_map, Array.size_replicate, str_size]
    show l.toArray.size + _ = _
    rw [List.size_toArray]; omega
  rw [hsz] at hr
  refine ⟨gc, _, hgc.symm, by unfold cvW; rw [hgc], hr, ⟨hge, hcm, fun g => (by cases g), fun a g => (by cases g; exact ⟨rfl, by simp⟩), fun a g j hj => ?_, fun a g j hj => ?_⟩, ((Below.refl _ _).drew).alloc (Nat.le_refl _) _⟩
  · cases g
    unfold World.cell?
    have : (w.drew.alloc (.cells (bytesRow (str l) gc) 5 (gc, gc + 1))).heap[w.heap.size]? = some (.cells (bytesRow (str l) gc) 5 (gc, gc + 1)) := heap_alloc_new w.drew _
    rw [this]
    simp only [Option.isSome_none, Bool.false_eq_true, if_false, Nat.zero_add]
    unfold bytesRow
    rw [Array.getElem?_append_left (by rw [Array.size_map]; show j < l.toArray.size; rw [List.size_toArray]; exact hj)]
    simp [str, hj]
  · cases g
    have : (w.drew.alloc (.cells (bytesRow (str l) gc) 5 (gc, gc + 1))).heap[w.heap.size]? = some (.cells (bytesRow (str l) gc) 5 (gc, gc + 1)) := heap_alloc_new w.drew _
    unfold World.cell? World.frozen?
    rw [this]
    simp only [Option.isSome_none, Bool.false_eq_true, if_false, Nat.zero_add]
    refine ⟨by rw [Array.getElem?_eq_getElem (by rw [hsz]; exact hj)]; rfl, by simp; omega⟩

/-- .. at any world, as a rule -/
theorem conv_run (s : ByteArray) (hs : s.size ≤ 140737488355328) : ∀ w : World, (convert 9 51 (.string s)).run Try.prog w = .ok (.slice (some ⟨w.heap.size, 0, none⟩) s.size (cvC w s)) (cvW w s) := fun w => by
  obtain ⟨cap, w', h1, h2, h3, _⟩ := run_bytes_all w s.data.toList (by simpa using hs)
  subst h1 h2
  simpa [str] using h3
theorem conv_bs (w : World) (s : ByteArray) (hs : s.size ≤ 140737488355328) : BS (cvW w s) (some ⟨w.heap.size, 0, none⟩) (cvC w s) s.data.toList ∧ Below w.heap.size w (cvW w s) := by
  obtain ⟨cap, w', h1, h2, _, h4⟩ := run_bytes_all w s.data.toList (by simpa using hs)
  subst h1 h2
  exact h4
theorem cvW_size (w : World) (s : ByteArray) : (cvW w s).heap.size = w.heap.size + 1 := by simp [cvW]

theorem run_bytes_big (w : World) (l : List UInt8) (hl : l.length ≤ 140737488355328) :
    ∃ cap w', (convert 9 51 (.string (str l))).run Try.prog w = .ok (.slice (some ⟨w.heap.size, 0, none⟩) l.length cap) w' ∧ BS w' (some ⟨w.heap.size, 0, none⟩) cap l ∧ Below w.heap.size w w' := by
  obtain ⟨cap, w', _, _, h⟩ := run_bytes_all w l hl
  exact ⟨cap, w', h⟩

theorem BS.drewN {W : World} {ao : Option Addr} {cap : Nat} {l : List UInt8} (h : BS W ao cap l) (n : Nat) : BS (W.drewN n) ao cap l := h.keep (Nat.le_refl _) (fun _ _ => rfl)

end Go.Proofs.Ytbedkfgdhaajaab
