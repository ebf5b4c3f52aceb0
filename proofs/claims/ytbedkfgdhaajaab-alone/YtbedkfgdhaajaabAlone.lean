/- Rows.AloneSaid (P2). -/
import Derived.Test.YtbedkfgdhaajaabRows
import Derived.Test.YtbedkfgdhaajaabAloneWalk
import Derived.Deep.Slices
import Derived.ProofKit
import Derived.OpenShut
import Derived.ShutString
namespace Go.Proofs.Ytbedkfgdhaajaab.alone
open Go.ChangeShapes Go.WideShapes Go.ChangeAt Go.RowKit

theorem own : ownKnob Try.prog.godebug = none := by kernel_rfl
theorem laidOut : laidOutB Try.prog = true := by kernel_rfl
theorem cells_step : Try.prog.cellsOf 42 = 4 := by kernel_rfl
theorem cells_i : Try.prog.cellsOf 3 = 1 := by kernel_rfl
theorem cells_s : Try.prog.cellsOf 9 = 1 := by kernel_rfl

section
variable {H : Type} {enc : TypeId × Value → H} {W : World} {base : Nat} {spare : Nat → Bool} {held : Bool}

set_option maxRecDepth 100000 in
theorem step_shape {n : Nat} {cs : List Value} {x : DataW H × List MemPlace} (h : DataW.trod enc Try.prog W base spare held n 42 cs = some x) :
    ∃ (K A N : Int) (s : ByteArray), cs = [.int .i64 K, .int .i64 A, .int .i64 N, .string s] := by
  obtain ⟨xs, m, _, hx, hl, hlen, hf⟩ := DataW.trod_struct Try.underlying42 h
  rw [cells_step] at hl
  match cs, hl with
  | [c0, c1, c2, c3], _ =>
    match xs, hlen with
    | [y0, y1, y2, y3], _ =>
      obtain ⟨K, e0, f0, _⟩ := DataW.trod_int Try.underlying3 (by simpa using hf 0 _ rfl)
      obtain ⟨A, e1, f1, _⟩ := DataW.trod_int Try.underlying3 (by simpa using hf 1 _ rfl)
      obtain ⟨N, e2, f2, _⟩ := DataW.trod_int Try.underlying3 (by simpa using hf 2 _ rfl)
      obtain ⟨s, e3, f3, _⟩ := DataW.trod_string Try.underlying9 (by simpa using hf 3 _ rfl)
      simp [cells_i, cells_s] at e0 e1 e2 e3
      exact ⟨K, A, N, s, by simp [e0, e1, e2, e3]⟩

set_option maxRecDepth 100000 in
theorem steps_arg {ao : Option Addr} {len cap : Nat} {d : DataW H} {p : List MemPlace} (h : DataW.Trod enc Try.prog W base spare held 38 (.slice ao len cap) d p) (hlt : ∀ x ∈ p, x.block < W.heap.size) : len ≤ maxLen ∧ ArgT W ao len := by
  obtain ⟨fuel, hf⟩ := h
  rcases Deep.open_slice Try.underlying38 hf with ⟨hcs, hx⟩ | ⟨a, len', cap', m, n, D, Pl, hcs, hb, hl, hm, hmm, hx, hel⟩
  · simp [Value.cells] at hcs
    obtain ⟨rfl, rfl, rfl⟩ := hcs
    exact ⟨by unfold maxLen; omega, 0, 0, fun h => by omega, fun i hi => by omega⟩
  · simp [Value.cells] at hcs
    obtain ⟨rfl, rfl, rfl⟩ := hcs
    have hlm : len ≤ m := by rw [hmm]; split <;> omega
    simp only [Prod.mk.injEq] at hx
    obtain ⟨rfl, rfl⟩ := hx
    have hsp : 0 < len → a.spot = none := fun h0 => by
      obtain ⟨cs', h1, h2⟩ := hel 0 (by omega)
      rw [cells_step] at h1
      obtain ⟨_, hlen5, hcell⟩ := World.cells?_some h1
      obtain ⟨K, A, N, s, rfl⟩ := step_shape h2
      have hc0 : W.cell? ((a.add (0 * 4)).add 0) = some (.int .i64 K) := hcell 0 (by omega)
      simpa [Addr.add] using World.cell?_spot hc0
    obtain ⟨b, off, spot⟩ := a
    simp only at hsp
    refine ⟨by omega, b, off, fun h0 => ?_, fun i hi => ?_⟩
    · have := hsp h0
      subst this
      refine ⟨rfl, hlt (.cell b off) (List.mem_append_left _ (MemPlace.mem_row.2 ⟨0, ?_, by simp⟩))⟩
      rw [cells_step]; omega
    · have := hsp (by omega)
      subst this
      obtain ⟨cs', h1, h2⟩ := hel i (by omega)
      rw [cells_step] at h1
      obtain ⟨_, hlen5, hcell⟩ := World.cells?_some h1
      obtain ⟨K, A, N, s, rfl⟩ := step_shape h2
      have q0 := hcell 0 (by omega)
      have q1 := hcell 1 (by omega)
      have q2 := hcell 2 (by omega)
      have q3 := hcell 3 (by omega)
      simp only [Addr.add_lit] at q0 q1 q2 q3
      exact ⟨K, A, N, s, by simpa using q0, by simpa using q1, by simpa using q2, by simpa using q3⟩
end

set_option maxRecDepth 100000 in
theorem lifted (os : Os) (started : os.Started) (H : Type) (enc : TypeId × Value → H) :
    ReturnsInHanded {} Try.checked os 4 .any (Rows.aloneSpec.pre6 enc Try.prog Try.f4 Rows.aloneRow.domain false) (Rows.aloneSpec.post enc Try.prog Try.f4 false true false false) := by
  refine returnsInHanded_of_change (C := Try.checked) own started (by kernel_rfl) Try.func4
    (ChangeSpec.witness6 (enc := enc) (C := Try.checked) false ⟨#[], #[.slice none 0 0, .slice none 0 0], []⟩ 8 (by kernel_rfl) (by kernel_rfl) (by kernel_rfl) (by kernel_rfl)) ?_
  intro W base args ds gs before hval0 hW hcnd _
  have hval : ∀ (j : Nat) t v, Try.f4.params[j]? = some t → args[j]? = some v → Value.okWide Try.prog W .any base t v := hval0
  have hW' := hW
  obtain ⟨p, q, hA0, hV, rfl, hfz, hnd⟩ := hW
  have hA : DataW.TrodAll enc Try.prog W 0 (fun _ => true) true Try.f4.params.toList args.toList ds p := hA0
  rw [Try.params4] at hA hval
  obtain ⟨v0, vs0, d0, ds0, p0, q0, hargs, rfl, rfl, h0, r0⟩ := trodAll_cons hA
  obtain ⟨v1, vs1, d1, ds1, p1, q1, rfl, rfl, rfl, h1, r1⟩ := trodAll_cons r0
  obtain ⟨rfl, rfl, rfl⟩ := trodAll_nil r1
  obtain rfl : args = #[v0, v1] := by cases args; simp_all
  obtain ⟨rfl, rfl⟩ := trodVars_none hV
  clear hA0 hval0
  simp only [List.append_nil] at hW'
  have hlt0 : ∀ x ∈ p0, x.block < W.heap.size := fun x hx => by simpa using hW'.lt x (List.mem_append_left _ hx)
  have hlt1 : ∀ x ∈ p1, x.block < W.heap.size := fun x hx => by simpa using hW'.lt x (List.mem_append_right _ hx)
  obtain ⟨a0, len0, cap0, rfl⟩ := okWide_slice Try.underlying38 (hval 0 38 v0 rfl rfl)
  obtain ⟨a1, len1, cap1, rfl⟩ := okWide_slice Try.underlying38 (hval 1 38 v1 rfl rfl)
  obtain ⟨hN, hArg⟩ := steps_arg h0 hlt0
  obtain ⟨hM, hBrg⟩ := steps_arg h1 hlt1
  refine (alone_walk a0 a1 len0 len1 cap0 cap1 W hN hM hArg hBrg).mono fun e W' ⟨he, bel⟩ => ?_
  subst he
  exact ⟨_, rfl, _, _, _, [], _, [], hW', trodAll_mk1 (shut_bool Try.underlying4 _), trodAll_cons_mk (Below.trod laidOut (by kernel_rfl) (of_decide_eq_true (by kernel_rfl)) h0 bel hlt0) (trodAll_mk1 (Below.trod laidOut (by kernel_rfl) (of_decide_eq_true (by kernel_rfl)) h1 bel hlt1)), rfl, bel.frame _, fun h => by cases h⟩

theorem over : Rows.aloneRow.holds Try.pinned (OpenSpec.ofChange Rows.aloneSpec) :=
  OpenClaim.holds_of_wide 4 Try.f4 rfl rfl rfl rfl rfl rfl rfl ⟨rfl, rfl, rfl, rfl, rfl⟩ rfl rfl rfl rfl rfl (by kernel_rfl) Try.func4 (by kernel_rfl)
    (of_decide_eq_true (by kernel_rfl)) (by unfold Func.isWrapper; first | (rw [if_pos (by decide +kernel)]; kernel_rfl) | (rw [if_neg (by decide +kernel)]; exact ⟨rfl, rfl⟩))
    (fun os started H enc _ => lifted os started H enc)

end Go.Proofs.Ytbedkfgdhaajaab.alone
namespace Go.Proofs.Ytbedkfgdhaajaab
theorem alone_holds : Rows.AloneSaid := alone.over
#print axioms alone_holds
end Go.Proofs.Ytbedkfgdhaajaab
