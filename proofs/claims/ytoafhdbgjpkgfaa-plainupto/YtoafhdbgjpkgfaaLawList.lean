/- The list of pairs in memory: a slice of elements of sz cells; append. Nothing of the dump is walked here. -/
import Derived.Test.YtoafhdbgjpkgfaaMem
import Derived.Deep.MidRow
import Derived.Test.YtoafhdbgjpkgfaaBase
namespace Go.Proofs.Ytoafhdbgjpkgfaa
open Go.RowKit

/-- a slice of n elements of sz cells each: its address and capacity, and the cells that it has -/
structure VS (W : World) (ao : Option Addr) (cap sz n : Nat) (cs : List Value) : Prop where
  hlen : cs.length = n * sz
  hle : n ≤ cap
  hnil : ao = none → cap = 0
  hpl : ∀ a, ao = some a → a.spot = none ∧ a.block < W.heap.size
  hce : ∀ a, ao = some a → ∀ j (h : j < cs.length), W.cell? ⟨a.block, a.off + j, none⟩ = some cs[j]
  hro : ∀ a, ao = some a → ∀ j, j < cap * sz → (W.cell? ⟨a.block, a.off + j, none⟩).isSome = true ∧ W.frozen? ⟨a.block, a.off + j, none⟩ = false

theorem VS.bare (W : World) (sz : Nat) : VS W none 0 sz 0 [] :=
  ⟨by simp, by simp, fun _ => rfl, fun _ h => (by cases h), fun _ h => (by cases h), fun _ h => (by cases h)⟩
theorem VS.lt {W : World} {ao : Option Addr} {cap sz n : Nat} {cs : List Value} (h : VS W ao cap sz n cs) {b : Nat} (hb : blk ao b) : b < W.heap.size := by
  obtain ⟨a, e, rfl⟩ := hb; exact (h.hpl a e).2
theorem VS.keep {W W' : World} {ao : Option Addr} {cap sz n : Nat} {cs : List Value} (h : VS W ao cap sz n cs) (hs : W.heap.size ≤ W'.heap.size) (hb : ∀ b, blk ao b → W'.heap[b]? = W.heap[b]?) : VS W' ao cap sz n cs := by
  refine ⟨h.hlen, h.hle, h.hnil, fun a e => ⟨(h.hpl a e).1, Nat.lt_of_lt_of_le (h.hpl a e).2 hs⟩, fun a e j hj => ?_, fun a e j hj => ?_⟩
  · rw [World.cell?_of_block (w := W) (a := ⟨a.block, a.off + j, none⟩) (hb a.block ⟨a, e, rfl⟩)]; exact h.hce a e j hj
  · rw [World.cell?_of_block (w := W) (a := ⟨a.block, a.off + j, none⟩) (hb a.block ⟨a, e, rfl⟩), World.frozen?_of_block (w := W) (a := ⟨a.block, a.off + j, none⟩) (hb a.block ⟨a, e, rfl⟩)]; exact h.hro a e j hj
theorem VS.only {F : Nat → Prop} {W W' : World} {ao : Option Addr} {cap sz n : Nat} {cs : List Value} (h : VS W ao cap sz n cs) (ho : Only F W W') (hn : ∀ b, blk ao b → ¬ F b) : VS W' ao cap sz n cs :=
  h.keep ho.size (fun b hb => ho.block b (h.lt hb) (hn b hb))
theorem VS.below {W W' : World} {ao : Option Addr} {cap sz n : Nat} {cs : List Value} (h : VS W ao cap sz n cs) (hb : Below W.heap.size W W') : VS W' ao cap sz n cs :=
  h.keep hb.size (fun b g => hb.block b (h.lt g))
theorem VS.alloc {W : World} {ao : Option Addr} {cap sz n : Nat} {cs : List Value} (h : VS W ao cap sz n cs) (o : Obj) : VS (W.alloc o) ao cap sz n cs :=
  h.keep (by simp) (fun b hb => Below.heap_alloc _ _ _ (h.lt hb))
theorem VS.drew {W : World} {ao : Option Addr} {cap sz n : Nat} {cs : List Value} (h : VS W ao cap sz n cs) : VS W.drew ao cap sz n cs := h.keep (Nat.le_refl _) (fun _ _ => rfl)
theorem VS.there {W : World} {ao : Option Addr} {cap sz n : Nat} {cs : List Value} (h : VS W ao cap sz n cs) (hc : 0 < cap) : ∃ b off, ao = some ⟨b, off, none⟩ ∧ b < W.heap.size := by
  cases ao with
  | none => have := h.hnil rfl; omega
  | some a =>
    obtain ⟨b, o, s⟩ := a
    have := h.hpl _ rfl
    obtain ⟨h1, h2⟩ := this
    simp only at h1 h2
    subst h1
    exact ⟨b, o, rfl, h2⟩

section
variable {P : Program}

theorem run_first_vs {w : World} {ao : Option Addr} {cap sz n : Nat} {cs : List Value} (h : VS w ao cap sz n cs) : (Builtin.firstCells sz n (.slice ao n cap)).run P w = .ok cs.toArray w := by
  cases ao with
  | none =>
    have := h.hnil rfl
    have hl := h.hle
    have e0 : n = 0 := by omega
    subst e0
    have e : cs = [] := List.eq_nil_of_length_eq_zero (by rw [h.hlen]; simp)
    subst e
    exact run_firstCells_none w sz 0 0 cap
  | some a =>
    refine run_firstCells_some w sz n a n cap cs h.hlen (fun j u hj => ?_)
    have hj' : j < cs.length := (List.getElem?_eq_some_iff.1 hj).1
    rw [List.getElem?_eq_getElem hj'] at hj
    have hp := (h.hpl a rfl).1
    obtain ⟨b, o, s⟩ := a
    simp only at hp
    subst hp
    rw [Addr.add_lit]
    injection hj with hj
    subst hj
    exact h.hce _ rfl j hj'

/-- append: ONE way on: the new slice, in the old block or in a new one -/
theorem run_append_vs {w : World} (t tx ty e : TypeId) (i : TypeInfo) (z : Value) (sz : Nat) (ht : P.underlying t = some (.slice e)) (hi : P.info? e = some i) (hz : i.zero = some z) (hsz : i.size = sz) (hz1 : z.cells.size = sz)
    {ao : Option Addr} {cap n : Nat} {cs : List Value} (h : VS w ao cap sz n cs) (x : Value) (m : Nat) (news : List Value) (hs : Src P sz tx x m news w) (hb : (n + m) * i.bytes ≤ 140737488355328) (hb2 : n + m ≤ 140737488355328) :
    ∃ ao' cap' w', (Builtin.append_ #[t, tx] ty #[.slice ao n cap, x]).run P w = .ok (.slice ao' (n + m) cap') w' ∧ VS w' ao' cap' sz (n + m) (cs ++ news) ∧ Only (blk ao) w w' ∧ (∀ b, blk ao' b → blk ao b ∨ w.heap.size ≤ b) := by
  have hnl := hs.newsLen
  have hcl := h.hlen
  have hlen : (cs ++ news).length = (n + m) * sz := by rw [List.length_append, hcl, hnl, Nat.add_mul]
  by_cases hr : n + m ≤ cap
  · have hmul : (n + m) * sz ≤ cap * sz := Nat.mul_le_mul_right _ hr
    rw [Nat.add_mul] at hmul
    cases ao with
    | none =>
      have hc := h.hnil rfl
      have e1 : n = 0 := by omega
      have e2 : m = 0 := by omega
      subst e1 e2 hc
      have ec : cs = [] := List.eq_nil_of_length_eq_zero (by rw [hcl]; simp)
      have en : news = [] := List.eq_nil_of_length_eq_zero (by rw [hnl]; simp)
      subst ec en
      refine ⟨none, 0, w, ?_, h, Only.refl _ _, fun b hb => .inl hb⟩
      have hl := hs.len
      have hcs := hs.cells
      rcases hs.kind with ⟨e', hk⟩ | hk <;> simp [Builtin.append_, run_underlying ht, run_underlying hk, sizeOf, typeInfo, hi, hsz] <;> simp_all
    | some a =>
      have hp := h.hpl a rfl
      obtain ⟨b, off, s⟩ := a
      obtain ⟨hp1, hp2⟩ := hp
      simp only at hp1 hp2
      subst hp1
      have hrm := h.hro _ rfl
      simp only at hrm
      have hrun := run_append_room_src (P := P) w t tx ty e i ht hi b off n cap x m news (by rw [hsz]; exact hs) hr
        (fun j hj => by rw [hsz, Nat.add_assoc]; exact (hrm (n * sz + j) (by omega)).1)
        (fun j hj => by rw [hsz, Nat.add_assoc]; exact (hrm (n * sz + j) (by omega)).2)
      rw [hsz] at hrun
      obtain ⟨z1, z2, z3, z4, z5⟩ := setCells_block b news (off + n * sz) w
      refine ⟨some ⟨b, off, none⟩, cap, _, hrun, ⟨hlen, hr, fun g => (by cases g), fun a g => (by cases g; exact ⟨rfl, by rw [z1]; exact hp2⟩), fun a g j hj => ?_, fun a g j hj => ?_⟩, ⟨z3, z4, z5, by omega, fun k hk hn => z2 k (fun e => hn ⟨_, rfl, e.symm⟩)⟩, fun b hb => .inl hb⟩
      · cases g
        simp only
        by_cases hjl : j < cs.length
        · rw [World.cell?_setCells_out _ _ _ _ _ (fun _ _ => .inl (by show off + j < off + n * sz; omega)), List.getElem_append_left hjl]
          exact h.hce _ rfl j hjl
        · obtain ⟨q, rfl⟩ : ∃ q, j = n * sz + q := ⟨j - n * sz, by omega⟩
          have hq : q < news.length := by rw [hlen, Nat.add_mul] at hj; omega
          have := World.cell?_setCells_in b news (off + n * sz) w (fun j hj => by rw [Nat.add_assoc]; exact (hrm (n * sz + j) (by omega)).1) q hq
          rw [Nat.add_assoc] at this
          rw [this, List.getElem_append_right (by omega)]
          simp [hcl]
      · cases g
        have := hrm j hj
        refine ⟨?_, by rw [World.frozen?_setCells]; exact this.2⟩
        simp only at this ⊢
        exact World.isSome_setCells b news _ w _ this.1
  · have hg : cap < n + m := by omega
    have hrun := run_append_grow_src (P := P) w t tx ty e i z ht hi hz ao n cap cs (by rw [hsz]; exact run_first_vs h.drew) x m news (by rw [hsz]; exact hs) hg (by omega) (growslice_fits hg hb)
    have hge := grownCap_ge w (n + m) cap e
    generalize grownCap w (n + m) cap e = gc at *
    have hsize : ((cs ++ news).toArray ++ Builtin.zeroCells z.cells (gc - (n + m))).size = gc * sz := by
      rw [Array.size_append, size_zeroCells, hz1, List.size_toArray, hlen, ← Nat.add_mul]
      congr 1; omega
    have hnew := heap_alloc_new w.drew (.cells ((cs ++ news).toArray ++ Builtin.zeroCells z.cells (gc - (n + m))) e)
    have hcell : ∀ j, (w.drew.alloc (.cells ((cs ++ news).toArray ++ Builtin.zeroCells z.cells (gc - (n + m))) e)).cell? ⟨w.heap.size, j, none⟩ = ((cs ++ news).toArray ++ Builtin.zeroCells z.cells (gc - (n + m)))[j]? := by
      intro j
      unfold World.cell?
      have : (w.drew.alloc (.cells ((cs ++ news).toArray ++ Builtin.zeroCells z.cells (gc - (n + m))) e)).heap[w.heap.size]? = some (.cells ((cs ++ news).toArray ++ Builtin.zeroCells z.cells (gc - (n + m))) e) := hnew
      rw [this]
      simp
    refine ⟨some ⟨w.heap.size, 0, none⟩, gc, _, hrun, ⟨hlen, hge, fun g => (by cases g), fun a g => (by cases g; exact ⟨rfl, by simp⟩), fun a g j hj => ?_, fun a g j hj => ?_⟩, ⟨rfl, rfl, rfl, by simp, fun k hk _ => Below.heap_alloc w.drew _ k hk⟩, fun b hb => by obtain ⟨a, e, rfl⟩ := hb; cases e; exact .inr (Nat.le_refl _)⟩
    · cases g
      rw [hcell]
      simp only [Nat.zero_add]
      rw [Array.getElem?_append_left (by rw [List.size_toArray]; exact hj), List.getElem?_toArray, List.getElem?_eq_getElem hj]
    · cases g
      rw [hcell]
      simp only [Nat.zero_add]
      refine ⟨by rw [Array.getElem?_eq_getElem (by rw [hsize]; exact hj)]; rfl, ?_⟩
      unfold World.frozen?
      have : (w.drew.alloc (.cells ((cs ++ news).toArray ++ Builtin.zeroCells z.cells (gc - (n + m))) e)).heap[w.heap.size]? = some (.cells ((cs ++ news).toArray ++ Builtin.zeroCells z.cells (gc - (n + m))) e) := hnew
      rw [this]
      simp

/-- .. in a walk; what is known of the element type taken as one closed fact -/
theorem wpList_append_v {w : World} {ops : Array Oper} {rest : List Oper} {o : Oper} {a : Act} {Q : Exit → Act → World → Prop}
    (hg : o.guard = none) (s x : Operand) (t tx : TypeId) (hop : o.op = Op.call { callee := Callee.builtin Builtin.append, args := #[s, x], argTypes := #[t, tx] })
    (e : TypeId) (z : Value) (sz by_ : Nat) (ht : P.underlying t = some (.slice e)) (hinfo : (P.info? e).map (fun i => (i.zero, i.size, i.bytes)) = some (some z, sz, by_)) (hz1 : z.cells.size = sz)
    {ao : Option Addr} {cap n : Nat} {cs : List Value} (h : VS w ao cap sz n cs) (hse : a.eval s = .slice ao n cap) (xv : Value) (m : Nat) (news : List Value) (hxe : a.eval x = xv) (hs : Src P sz tx xv m news w) (hb : (n + m) * by_ ≤ 140737488355328) (hb2 : n + m ≤ 140737488355328)
    (hK : ∀ ao' cap' w', VS w' ao' cap' sz (n + m) (cs ++ news) → Only (blk ao) w w' → (∀ b, blk ao' b → blk ao b ∨ w.heap.size ≤ b) → wpList P ops Q rest (a.put o.dst (.slice ao' (n + m) cap')) w') :
    wpList P ops Q (o :: rest) a w := by
  obtain ⟨i, hi, hzz⟩ := Option.map_eq_some_iff.1 hinfo
  simp only [Prod.mk.injEq] at hzz
  obtain ⟨hz, hsz, hby⟩ := hzz
  refine wpList_plain hg fun K hK' => ?_
  obtain ⟨ao', cap', w', hrun, r1, r2, r3⟩ := run_append_vs (P := P) t tx o.type e i z sz ht hi hz hsz hz1 h xv m news hs (by rw [hby]; exact hb) hb2
  unfold Oper.wp
  simp [execOp, hop, resolve, invoke, builtin, hse, hxe, hrun, Result.andThen]
  exact hK' _ _ (hK ao' cap' w' r1 r2 r3)
end

end Go.Proofs.Ytoafhdbgjpkgfaa
