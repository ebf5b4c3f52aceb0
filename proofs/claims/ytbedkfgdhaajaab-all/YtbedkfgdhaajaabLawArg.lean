/- A script among the arguments (package tenantslaw). -/
import Derived.Test.YtbedkfgdhaajaabRows
import Derived.Test.YtbedkfgdhaajaabLawHolds
import Derived.Deep.Slices
import Derived.ProofKit
import Derived.OpenShut
import Derived.ShutString
import Derived.SizedLaws
namespace Go.Proofs.Ytbedkfgdhaajaab
open Go.ChangeShapes Go.WideShapes Go.ChangeAt Go.RowKit

theorem weights_all {H : Type} {P : Program} {e : TypeId} {d : DataW H} {l : List (DataW H)} (h : d ∈ l) {n : Nat} (hn : n ∈ d.weights P e) : n ∈ DataW.weightsAll P e l := by
  induction l with
  | nil => cases h
  | cons x r ih =>
    simp only [DataW.weightsAll, List.mem_append]
    rcases List.mem_cons.1 h with q | q
    · subst q; exact Or.inl hn
    · exact Or.inr (ih q)

theorem bytes_op : Try.prog.bytesOf 91 = 48 := by kernel_rfl
theorem cells_op : Try.prog.cellsOf 91 = 5 := by kernel_rfl
theorem cells_i : Try.prog.cellsOf 3 = 1 := by kernel_rfl
theorem cells_s : Try.prog.cellsOf 9 = 1 := by kernel_rfl

section
variable {H : Type} {enc : TypeId × Value → H} {W : World} {base : Nat} {spare : Nat → Bool} {held : Bool}

set_option maxRecDepth 100000 in
theorem op_shape {n : Nat} {cs : List Value} {D : DataW H} {Pl : List MemPlace} (h : DataW.trod enc Try.prog W base spare held n 91 cs = some (D, Pl)) :
    ∃ (K A C N : Int) (s : ByteArray), cs = [.int .i64 K, .int .i64 A, .int .i64 C, .int .i64 N, .string s] ∧ (Lit.int .i64 A).wf = true ∧ s.size ∈ D.weights Try.prog 91 := by
  obtain ⟨xs, m, _, hx, hl, hlen, hf⟩ := DataW.trod_struct Try.underlying91 h
  rw [cells_op] at hl
  match cs, hl with
  | [c0, c1, c2, c3, c4], _ =>
    match xs, hlen with
    | [y0, y1, y2, y3, y4], _ =>
      obtain ⟨K, e0, f0, _⟩ := DataW.trod_int Try.underlying3 (by simpa using hf 0 _ rfl)
      obtain ⟨A, e1, f1, wA⟩ := DataW.trod_int Try.underlying3 (by simpa using hf 1 _ rfl)
      obtain ⟨C, e2, f2, _⟩ := DataW.trod_int Try.underlying3 (by simpa using hf 2 _ rfl)
      obtain ⟨N, e3, f3, _⟩ := DataW.trod_int Try.underlying3 (by simpa using hf 3 _ rfl)
      obtain ⟨s, e4, f4, _⟩ := DataW.trod_string Try.underlying9 (by simpa using hf 4 _ rfl)
      simp [cells_i, cells_s] at e0 e1 e2 e3 e4
      refine ⟨K, A, C, N, s, by simp [e0, e1, e2, e3, e4], wA, ?_⟩
      have hD := congrArg Prod.fst hx
      simp only at hD
      rw [hD]
      have hs : s.data.toList.length = s.size := rfl
      simp only [List.map_cons, List.map_nil, DataW.weights, Try.underlying91, DataW.weightsEach, f4, List.mem_append, List.mem_cons, hs]
      simp

set_option maxRecDepth 100000 in
theorem script_arg {ao : Option Addr} {len cap : Nat} {d : DataW H} {p : List MemPlace} (h : DataW.Trod enc Try.prog W base spare held 58 (.slice ao len cap) d p) (hlt : ∀ x ∈ p, x.block < W.heap.size) (hk : ∀ n ∈ d.weights Try.prog 58, n ≤ reachBytes) : len ≤ 2932031007402 ∧ ArgS W ao len := by
  obtain ⟨fuel, hf⟩ := h
  rcases Deep.open_slice Try.underlying58 hf with ⟨hcs, hx⟩ | ⟨a, len', cap', m, n, D, Pl, hcs, hb, hl, hm, hmm, hx, hel⟩
  · simp [Value.cells] at hcs
    obtain ⟨rfl, rfl, rfl⟩ := hcs
    exact ⟨by omega, 0, 0, fun h => by omega, fun i hi => by omega⟩
  · simp [Value.cells] at hcs
    obtain ⟨rfl, rfl, rfl⟩ := hcs
    have hlm : len ≤ m := by rw [hmm]; split <;> omega
    simp only [Prod.mk.injEq] at hx
    obtain ⟨rfl, rfl⟩ := hx
    simp only [DataW.weights, Try.underlying58] at hk
    have hmany := hk _ (List.mem_cons_self)
    rw [List.length_map, List.length_range, bytes_op] at hmany
    simp only [reachBytes] at hmany
    have hsp : 0 < len → a.spot = none := fun h0 => by
      obtain ⟨cs', h1, h2⟩ := hel 0 (by omega)
      rw [cells_op] at h1
      obtain ⟨_, hlen5, hcell⟩ := World.cells?_some h1
      obtain ⟨K, A, C, N, s, rfl, wA, hs⟩ := op_shape h2
      have hc0 : W.cell? ((a.add (0 * 5)).add 0) = some (.int .i64 K) := hcell 0 (by omega)
      simpa [Addr.add] using World.cell?_spot hc0
    obtain ⟨b, off, spot⟩ := a
    simp only at hsp
    refine ⟨by omega, b, off, fun h0 => ?_, fun i hi => ?_⟩
    · have := hsp h0
      subst this
      refine ⟨rfl, hlt (.cell b off) (List.mem_append_left _ (MemPlace.mem_row.2 ⟨0, ?_, by simp⟩))⟩
      rw [cells_op]; omega
    · have := hsp (by omega)
      subst this
      obtain ⟨cs', h1, h2⟩ := hel i (by omega)
      rw [cells_op] at h1
      obtain ⟨_, hlen5, hcell⟩ := World.cells?_some h1
      obtain ⟨K, A, C, N, s, rfl, wA, hs⟩ := op_shape h2
      have hmem : D i ∈ (List.range len).map D := List.mem_map.2 ⟨i, List.mem_range.2 hi, rfl⟩
      have hbm := hk _ (List.mem_cons_of_mem _ (List.mem_append_left _ (weights_all hmem hs)))
      simp only [reachBytes] at hbm
      have q0 := hcell 0 (by omega)
      have q1 := hcell 1 (by omega)
      have q2 := hcell 2 (by omega)
      have q3 := hcell 3 (by omega)
      have q4 := hcell 4 (by omega)
      simp only [Addr.add_lit] at q0 q1 q2 q3 q4
      have hw := wA
      simp [Lit.wf, IntKind.min, IntKind.max, IntKind.bits, IntKind.signed] at hw
      exact ⟨K, A, C, N, s, by simpa using q0, by simpa using q1, by simpa using q2, by simpa using q3, by simpa using q4, ⟨by omega, by omega⟩, by omega⟩
end

end Go.Proofs.Ytbedkfgdhaajaab
