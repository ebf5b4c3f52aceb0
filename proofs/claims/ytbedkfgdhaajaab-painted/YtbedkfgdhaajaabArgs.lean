/- How the structs among the arguments lie: points and triangles. -/
import Derived.Test.YtbedkfgdhaajaabProg
import Derived.KernelRfl
import Derived.ProofKit
import Derived.OpenShut
import Derived.Deep.Strs
namespace Go.Proofs.Ytbedkfgdhaajaab
open Go.ChangeShapes Go.WideShapes Go.ChangeAt Go.RowKit Go.Deep

variable {H : Type} {enc : TypeId × Value → H} {w : World} {base b0 : Nat} {spare : Nat → Bool} {held : Bool} {r : Reach}

theorem cells_int : Try.prog.cellsOf 3 = 1 := by kernel_rfl
theorem cells_point : Try.prog.cellsOf 48 = 2 := by kernel_rfl
theorem cells_tri : Try.prog.cellsOf 50 = 6 := by kernel_rfl

set_option maxRecDepth 100000 in
theorem point_cells {n : Nat} {cs : List Value} {x : DataW H × List MemPlace} (h : DataW.trod enc Try.prog w base spare held n 48 cs = some x) :
    ∃ a b : Int, cs = [.int .i64 a, .int .i64 b] ∧ (Lit.int .i64 a).wf = true ∧ (Lit.int .i64 b).wf = true ∧ x.2 = [] := by
  obtain ⟨y0, y1, m, hx, hl, h0, h1⟩ := trod_struct2 Try.underlying48 h
  rw [cells_point] at hl
  match cs, hl with
  | [c0, c1], _ =>
    obtain ⟨a, e0, rfl, wa⟩ := DataW.trod_int Try.underlying3 h0
    obtain ⟨b, e1, rfl, wb⟩ := DataW.trod_int Try.underlying3 h1
    simp [cells_int] at e0 e1
    subst e0 e1
    exact ⟨a, b, rfl, wa, wb, by rw [hx]; rfl⟩

set_option maxRecDepth 100000 in
theorem point_shape {v : Value} {d : DataW H} {p : List MemPlace} (hv : Value.okWide Try.prog w r b0 48 v) (h : DataW.Trod enc Try.prog w base spare held 48 v d p) :
    ∃ a b : Int, v = .agg #[.int .i64 a, .int .i64 b] ∧ (Lit.int .i64 a).wf = true ∧ (Lit.int .i64 b).wf = true ∧ p = [] := by
  obtain ⟨cs, rfl, hsz⟩ := okWide_struct Try.underlying48 hv
  obtain ⟨fuel, hf⟩ := h
  obtain ⟨a, b, e, wa, wb, hp⟩ := point_cells hf
  refine ⟨a, b, ?_, wa, wb, hp⟩
  cases cs
  simp [Value.cells] at e
  simp [e]

set_option maxRecDepth 100000 in
theorem tri_shape {v : Value} {d : DataW H} {p : List MemPlace} (hv : Value.okWide Try.prog w r b0 50 v) (h : DataW.Trod enc Try.prog w base spare held 50 v d p) :
    ∃ a b c d e f : Int, v = .agg #[.int .i64 a, .int .i64 b, .int .i64 c, .int .i64 d, .int .i64 e, .int .i64 f] ∧ p = [] := by
  obtain ⟨cs, rfl, hsz⟩ := okWide_struct Try.underlying50 hv
  obtain ⟨fuel, hf⟩ := h
  obtain ⟨y0, y1, y2, m, hx, hl, h0, h1, h2⟩ := trod_struct3 Try.underlying50 hf
  obtain ⟨a, b, e0, _, _, p0⟩ := point_cells h0
  obtain ⟨c, d, e1, _, _, p1⟩ := point_cells h1
  obtain ⟨e, f, e2, _, _, p2⟩ := point_cells h2
  obtain ⟨cs⟩ := cs
  rw [cells_tri] at hl
  simp only [Value.cells] at hl e0 e1 e2
  match cs, hl with
  | [c0, c1, c2, c3, c4, c5], _ =>
    simp [cells_point] at e0 e1 e2
    refine ⟨a, b, c, d, e, f, by simp [e0, e1, e2], ?_⟩
    have := congrArg Prod.snd hx
    simpa [p0, p1, p2] using this

end Go.Proofs.Ytbedkfgdhaajaab
