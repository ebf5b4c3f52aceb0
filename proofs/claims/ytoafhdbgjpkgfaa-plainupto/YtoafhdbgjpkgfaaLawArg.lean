/- A script among the arguments (package tenantslaw). -/
import Derived.Test.YtoafhdbgjpkgfaaRows
import Derived.Test.YtoafhdbgjpkgfaaLawHolds
import Derived.Deep.Slices
import Derived.ProofKit
import Derived.OpenShut
import Derived.ShutString
import Derived.JoinedCond
namespace Go.Proofs.Ytoafhdbgjpkgfaa
open Go.ChangeShapes Go.WideShapes Go.ChangeAt Go.RowKit

theorem bulk_pos {H : Type} (d : DataW H) : 1 ≤ Rows.uptoBulk d := by
  cases d with
  | lit l => cases l <;> simp [Rows.uptoBulk]
  | nil => simp [Rows.uptoBulk]
  | ptr d => simp [Rows.uptoBulk]
  | slice a b => simp [Rows.uptoBulk]
  | agg a => simp [Rows.uptoBulk]
  | iface t d => simp [Rows.uptoBulk]
  | map a => simp [Rows.uptoBulk]
  | held h => simp [Rows.uptoBulk]
theorem bulk_mem {H : Type} {d : DataW H} {l : List (DataW H)} (h : d ∈ l) : Rows.uptoBulk d ≤ Rows.uptoBulkAll l := by
  induction l with
  | nil => cases h
  | cons x r ih =>
    simp only [Rows.uptoBulkAll]
    rcases List.mem_cons.1 h with e | e
    · rw [e]; omega
    · have := ih e; omega
theorem bulk_many {H : Type} (l : List (DataW H)) : l.length ≤ Rows.uptoBulkAll l := by
  induction l with
  | nil => simp
  | cons x r ih => have := bulk_pos x; simp only [Rows.uptoBulkAll, List.length_cons]; omega

theorem cells_op : Try.prog.cellsOf 72 = 5 := by kernel_rfl
theorem cells_i : Try.prog.cellsOf 3 = 1 := by kernel_rfl
theorem cells_s : Try.prog.cellsOf 9 = 1 := by kernel_rfl

section
variable {H : Type} {enc : TypeId × Value → H} {W : World} {base : Nat} {spare : Nat → Bool} {held : Bool}

set_option maxRecDepth 100000 in
theorem op_shape {n : Nat} {cs : List Value} {D : DataW H} {Pl : List MemPlace} (h : DataW.trod enc Try.prog W base spare held n 72 cs = some (D, Pl)) :
    ∃ (K A C N : Int) (s : ByteArray), cs = [.int .i64 K, .int .i64 A, .int .i64 C, .int .i64 N, .string s] ∧ (Lit.int .i64 A).wf = true ∧ s.size + 1 ≤ Rows.uptoBulk D := by
  obtain ⟨xs, m, _, hx, hl, hlen, hf⟩ := DataW.trod_struct Try.underlying72 h
  rw [cells_op] at hl
  match cs, hl with
  | [c0, c1, c2, c3, c4], _ =>
    match xs, hlen with
    | [y0, y1, y2, y3, y4], _ =>
      obtain ⟨K, e0, f0, _⟩ := DataW.trod_int Try.underlying3 (by simpa using hf 0 _ rfl)
      obtain ⟨A, e1, f1, wA⟩ := DataW.trod_int Try.underlying3 (by simpa using hf 1 _ rfl)
      obtain ⟨C, e2, f2, _⟩ := DataW.trod_int Try.underlying3 (by simpa using hf 2 _ rfl)
      obtain ⟨N, e3, f3, _⟩ := DataW.trod_int Try.underlying3 (by simpa using hf 3 _ rfl)
      obtain ⟨s, e4, f4, _⟩ := DataW.trod_string Try.underlying9 (by simpa using hf 4 _ rfl)
      simp [cells_i, cells_s] at e0 e1 e2 e3 e4
      refine ⟨K, A, C, N, s, by simp [e0, e1, e2, e3, e4], wA, ?_⟩
      have hD := congrArg Prod.fst hx
      simp only at hD
      rw [hD]
      have h4 : y4.1 ∈ [y0, y1, y2, y3, y4].map (·.1) := by simp
      have := bulk_mem h4
      have hb4 : Rows.uptoBulk y4.1 = s.data.toList.length + 1 := by rw [f4]; simp [Rows.uptoBulk]
      simp only [Rows.uptoBulk]
      have hs : s.data.toList.length = s.size := rfl
      omega

set_option maxRecDepth 100000 in
theorem script_arg {ao : Option Addr} {len cap : Nat} {d : DataW H} {p : List MemPlace} (h : DataW.Trod enc Try.prog W base spare held 43 (.slice ao len cap) d p) (hlt : ∀ x ∈ p, x.block < W.heap.size) (hk : Rows.uptoBulk d ≤ 1048576) : len ≤ 2097152 ∧ ArgS W ao len := by
  obtain ⟨fuel, hf⟩ := h
  rcases Deep.open_slice Try.underlying43 hf with ⟨hcs, hx⟩ | ⟨a, len', cap', m, n, D, Pl, hcs, hb, hl, hm, hmm, hx, hel⟩
  · simp [Value.cells] at hcs
    obtain ⟨rfl, rfl, rfl⟩ := hcs
    exact ⟨by omega, 0, 0, fun h => by omega, fun i hi => by omega⟩
  · simp [Value.cells] at hcs
    obtain ⟨rfl, rfl, rfl⟩ := hcs
    have hlm : len ≤ m := by rw [hmm]; split <;> omega
    simp only [Prod.mk.injEq] at hx
    obtain ⟨rfl, rfl⟩ := hx
    simp only [Rows.uptoBulk] at hk
    have hmany := bulk_many ((List.range len).map D)
    rw [List.length_map, List.length_range] at hmany
    have hsp : 0 < len → a.spot = none := fun h0 => by
      obtain ⟨cs', h1, h2⟩ := hel 0 (by omega)
      rw [cells_op] at h1
      obtain ⟨_, hlen5, hcell⟩ := World.cells?_some h1
      obtain ⟨K, A, C, N, s, rfl, wA, hs⟩ := op_shape h2
      have hc0 : W.cell? ((a.add (0 * 5)).add 0) = some (.int .i64 K) := hcell 0 (by omega)
      simpa [Addr.add] using World.cell?_spot hc0
    obtain ⟨b, off, spot⟩ := a
    simp only at hsp
    refine ⟨by omega, b, off, fun h0 => ?_, fun i hi => ?_⟩
    · have := hsp h0
      subst this
      refine ⟨rfl, hlt (.cell b off) (List.mem_append_left _ (MemPlace.mem_row.2 ⟨0, ?_, by simp⟩))⟩
      rw [cells_op]; omega
    · have := hsp (by omega)
      subst this
      obtain ⟨cs', h1, h2⟩ := hel i (by omega)
      rw [cells_op] at h1
      obtain ⟨_, hlen5, hcell⟩ := World.cells?_some h1
      obtain ⟨K, A, C, N, s, rfl, wA, hs⟩ := op_shape h2
      have hmem : D i ∈ (List.range len).map D := List.mem_map.2 ⟨i, List.mem_range.2 hi, rfl⟩
      have hbm := bulk_mem hmem
      have q0 := hcell 0 (by omega)
      have q1 := hcell 1 (by omega)
      have q2 := hcell 2 (by omega)
      have q3 := hcell 3 (by omega)
      have q4 := hcell 4 (by omega)
      simp only [Addr.add_lit] at q0 q1 q2 q3 q4
      have hw := wA
      simp [Lit.wf, IntKind.min, IntKind.max, IntKind.bits, IntKind.signed] at hw
      exact ⟨K, A, C, N, s, by simpa using q0, by simpa using q1, by simpa using q2, by simpa using q3, by simpa using q4, ⟨by omega, by omega⟩, by omega⟩
end

end Go.Proofs.Ytoafhdbgjpkgfaa
