/- The list of pairs in memory: a slice of elements of sz cells; append. Nothing of the dump is walked here. The list of pairs of package tenantslaw, in memory; its steps. -/
import Derived.Test.YtbedkfgdhaajaabMem
import Derived.Deep.MidRow
import Derived.Test.YtbedkfgdhaajaabBase
import Derived.Test.YtbedkfgdhaajaabLawUnd
namespace Go.Proofs.Ytbedkfgdhaajaab
open Go.RowKit

/-- a slice of n elements of sz cells each: its address and capacity, and the cells that it has -/
structure VS (W : World) (ao : Option Addr) (cap sz n : Nat) (cs : List Value) : Prop where
  hlen : cs.length = n * sz
  hle : n ≤ cap
  hnil : ao = none → cap = 0
  hpl : ∀ a, ao = some a → a.spot = none ∧ a.block < W.heap.size
  hce : ∀ a, ao = some a → ∀ j (h : j < cs.length), W.cell? ⟨a.block, a.off + j, none⟩ = some cs[j]
  hro : ∀ a, ao = some a → ∀ j, j < cap * sz → (W.cell? ⟨a.block, a.off + j, none⟩).isSome = true ∧ W.frozen? ⟨a.block, a.off + j, none⟩ = false

theorem VS.bare (W : World) (sz : Nat) : VS W none 0 sz 0 [] :=
  ⟨by simp, by simp, fun _ => rfl, fun _ h => (by cases h), fun _ h => (by cases h), fun _ h => (by cases h)⟩
theorem VS.lt {W : World} {ao : Option Addr} {cap sz n : Nat} {cs : List Value} (h : VS W ao cap sz n cs) {b : Nat} (hb : blk ao b) : b < W.heap.size := by
  obtain ⟨a, e, rfl⟩ := hb; exact (h.hpl a e).2
theorem VS.keep {W W' : World} {ao : Option Addr} {cap sz n : Nat} {cs : List Value} (h : VS W ao cap sz n cs) (hs : W.heap.size ≤ W'.heap.size) (hb : ∀ b, blk ao b → W'.heap[b]? = W.heap[b]?) : VS W' ao cap sz n cs := by
  refine ⟨h.hlen, h.hle, h.hnil, fun a e => ⟨(h.hpl a e).1, Nat.lt_of_lt_of_le (h.hpl a e).2 hs⟩, fun a e j hj => ?_, fun a e j hj => ?_⟩
  · rw [World.cell?_of_block (w := W) (a := ⟨a.block, a.off + j, none⟩) (hb a.block ⟨a, e, rfl⟩)]; exact h.hce a e j hj
  · rw [World.cell?_of_block (w := W) (a := ⟨a.block, a.off + j, none⟩) (hb a.block ⟨a, e, rfl⟩), World.frozen?_of_block (w := W) (a := ⟨a.block, a.off + j, none⟩) (hb a.block ⟨a, e, rfl⟩)]; exact h.hro a e j hj
theorem VS.only {F : Nat → Prop} {W W' : World} {ao : Option Addr} {cap sz n : Nat} {cs : List Value} (h : VS W ao cap sz n cs) (ho : Only F W W') (hn : ∀ b, blk ao b → ¬ F b) : VS W' ao cap sz n cs :=
  h.keep ho.size (fun b hb => ho.block b (h.lt hb) (hn b hb))
theorem VS.below {W W' : World} {ao : Option Addr} {cap sz n : Nat} {cs : List Value} (h : VS W ao cap sz n cs) (hb : Below W.heap.size W W') : VS W' ao cap sz n cs :=
  h.keep hb.size (fun b g => hb.block b (h.lt g))
theorem VS.alloc {W : World} {ao : Option Addr} {cap sz n : Nat} {cs : List Value} (h : VS W ao cap sz n cs) (o : Obj) : VS (W.alloc o) ao cap sz n cs :=
  h.keep (by simp) (fun b hb => Below.heap_alloc _ _ _ (h.lt hb))
theorem VS.drew {W : World} {ao : Option Addr} {cap sz n : Nat} {cs : List Value} (h : VS W ao cap sz n cs) : VS W.drew ao cap sz n cs := h.keep (Nat.le_refl _) (fun _ _ => rfl)
theorem VS.there {W : World} {ao : Option Addr} {cap sz n : Nat} {cs : List Value} (h : VS W ao cap sz n cs) (hc : 0 < cap) : ∃ b off, ao = some ⟨b, off, none⟩ ∧ b < W.heap.size := by
  cases ao with
  | none => have := h.hnil rfl; omega
  | some a =>
    obtain ⟨b, o, s⟩ := a
    have := h.hpl _ rfl
    obtain ⟨h1, h2⟩ := this
    simp only at h1 h2
    subst h1
    exact ⟨b, o, rfl, h2⟩

section
variable {P : Program}

theorem run_first_vs {w : World} {ao : Option Addr} {cap sz n : Nat} {cs : List Value} (h : VS w ao cap sz n cs) : (Builtin.firstCells sz n (.slice ao n cap)).run P w = .ok cs.toArray w := by
  cases ao with
  | none =>
    have := h.hnil rfl
    have hl := h.hle
    have e0 : n = 0 := by omega
    subst e0
    have e : cs = [] := List.eq_nil_of_length_eq_zero (by rw [h.hlen]; simp)
    subst e
    exact run_firstCells_none w sz 0 0 cap
  | some a =>
    refine run_firstCells_some w sz n a n cap cs h.hlen (fun j u hj => ?_)
    have hj' : j < cs.length := (List.getElem?_eq_some_iff.1 hj).1
    rw [List.getElem?_eq_getElem hj'] at hj
    have hp := (h.hpl a rfl).1
    obtain ⟨b, o, s⟩ := a
    simp only at hp
    subst hp
    rw [Addr.add_lit]
    injection hj with hj
    subst hj
    exact h.hce _ rfl j hj'

/-- append: ONE way on: the new slice, in the old block or in a new one -/
theorem run_append_vs {w : World} (t tx ty e : TypeId) (i : TypeInfo) (z : Value) (sz : Nat) (ht : P.underlying t = some (.slice e)) (hi : P.info? e = some i) (hz : i.zero = some z) (hsz : i.size = sz) (hz1 : z.cells.size = sz)
    {ao : Option Addr} {cap n : Nat} {cs : List Value} (h : VS w ao cap sz n cs) (x : Value) (m : Nat) (news : List Value) (hs : Src P sz tx x m news w) (hb : (n + m) * i.bytes ≤ 140737488355328) (hb2 : n + m ≤ 140737488355328) :
    ∃ ao' cap' w', (Builtin.append_ #[t, tx] ty #[.slice ao n cap, x]).run P w = .ok (.slice ao' (n + m) cap') w' ∧ VS w' ao' cap' sz (n + m) (cs ++ news) ∧ Only (blk ao) w w' ∧ (∀ b, blk ao' b → blk ao b ∨ w.heap.size ≤ b) := by
  have hnl := hs.newsLen
  have hcl := h.hlen
  have hlen : (cs ++ news).length = (n + m) * sz := by rw [List.length_append, hcl, hnl, Nat.add_mul]
  by_cases hr : n + m ≤ cap
  · have hmul : (n + m) * sz ≤ cap * sz := Nat.mul_le_mul_right _ hr
    rw [Nat.add_mul] at hmul
    cases ao with
    | none =>
      have hc := h.hnil rfl
      have e1 : n = 0 := by omega
      have e2 : m = 0 := by omega
      subst e1 e2 hc
      have ec : cs = [] := List.eq_nil_of_length_eq_zero (by rw [hcl]; simp)
      have en : news = [] := List.eq_nil_of_length_eq_zero (by rw [hnl]; simp)
      subst ec en
      refine ⟨none, 0, w, ?_, h, Only.refl _ _, fun b hb => .inl hb⟩
      have hl := hs.len
      have hcs := hs.cells
      rcases hs.kind with ⟨e', hk⟩ | hk <;> simp [Builtin.append_, run_underlying ht, run_underlying hk, sizeOf, typeInfo, hi, hsz] <;> simp_all
    | some a =>
      have hp := h.hpl a rfl
      obtain ⟨b, off, s⟩ := a
      obtain ⟨hp1, hp2⟩ := hp
      simp only at hp1 hp2
      subst hp1
      have hrm := h.hro _ rfl
      simp only at hrm
      have hrun := run_append_room_src (P := P) w t tx ty e i ht hi b off n cap x m news (by rw [hsz]; exact hs) hr
        (fun j hj => by rw [hsz, Nat.add_assoc]; exact (hrm (n * sz + j) (by omega)).1)
        (fun j hj => by rw [hsz, Nat.add_assoc]; exact (hrm (n * sz + j) (by omega)).2)
      rw [hsz] at hrun
      obtain ⟨z1, z2, z3, z4, z5⟩ := setCells_block b news (off + n * sz) w
      refine ⟨some ⟨b, off, none⟩, cap, _, hrun, ⟨hlen, hr, fun g => (by cases g), fun a g => (by cases g; exact ⟨rfl, by rw [z1]; exact hp2⟩), fun a g j hj => ?_, fun a g j hj => ?_⟩, ⟨z3, z4, z5, by omega, fun k hk hn => z2 k (fun e => hn ⟨_, rfl, e.symm⟩)⟩, fun b hb => .inl hb⟩
      · cases g
        simp only
        by_cases hjl : j < cs.length
        · rw [World.cell?_setCells_out _ _ _ _ _ (fun _ _ => .inl (by show off + j < off + n * sz; omega)), List.getElem_append_left hjl]
          exact h.hce _ rfl j hjl
        · obtain ⟨q, rfl⟩ : ∃ q, j = n * sz + q := ⟨j - n * sz, by omega⟩
          have hq : q < news.length := by rw [hlen, Nat.add_mul] at hj; omega
          have := World.cell?_setCells_in b news (off + n * sz) w (fun j hj => by rw [Nat.add_assoc]; exact (hrm (n * sz + j) (by omega)).1) q hq
          rw [Nat.add_assoc] at this
          rw [this, List.getElem_append_right (by omega)]
          simp [hcl]
      · cases g
        have := hrm j hj
        refine ⟨?_, by rw [World.frozen?_setCells]; exact this.2⟩
        simp only at this ⊢
        exact World.isSome_setCells b news _ w _ this.1
  · have hg : cap < n + m := by omega
    have hrun := run_append_grow_src (P := P) w t tx ty e i z ht hi hz ao n cap cs (by rw [hsz]; exact run_first_vs h.drew) x m news (by rw [hsz]; exact hs) hg (by omega) (growslice_fits hg hb)
    have hge := grownCap_ge w (n + m) cap e
    generalize grownCap w (n + m) cap e = gc at *
    have hsize : ((cs ++ news).toArray ++ Builtin.zeroCells z.cells (gc - (n + m))).size = gc * sz := by
      rw [Array.size_append, size_zeroCells, hz1, List.size_toArray, hlen, ← Nat.add_mul]
      congr 1; omega
    have hnew := heap_alloc_new w.drew (.cells ((cs ++ news).toArray ++ Builtin.zeroCells z.cells (gc - (n + m))) e)
    have hcell : ∀ j, (w.drew.alloc (.cells ((cs ++ news).toArray ++ Builtin.zeroCells z.cells (gc - (n + m))) e)).cell? ⟨w.heap.size, j, none⟩ = ((cs ++ news).toArray ++ Builtin.zeroCells z.cells (gc - (n + m)))[j]? := by
      intro j
      unfold World.cell?
      have : (w.drew.alloc (.cells ((cs ++ news).toArray ++ Builtin.zeroCells z.cells (gc - (n + m))) e)).heap[w.heap.size]? = some (.cells ((cs ++ news).toArray ++ Builtin.zeroCells z.cells (gc - (n + m))) e) := hnew
      rw [this]
      simp
    refine ⟨some ⟨w.heap.size, 0, none⟩, gc, _, hrun, ⟨hlen, hge, fun g => (by cases g), fun a g => (by cases g; exact ⟨rfl, by simp⟩), fun a g j hj => ?_, fun a g j hj => ?_⟩, ⟨rfl, rfl, rfl, by simp, fun k hk _ => Below.heap_alloc w.drew _ k hk⟩, fun b hb => by obtain ⟨a, e, rfl⟩ := hb; cases e; exact .inr (Nat.le_refl _)⟩
    · cases g
      rw [hcell]
      simp only [Nat.zero_add]
      rw [Array.getElem?_append_left (by rw [List.size_toArray]; exact hj), List.getElem?_toArray, List.getElem?_eq_getElem hj]
    · cases g
      rw [hcell]
      simp only [Nat.zero_add]
      refine ⟨by rw [Array.getElem?_eq_getElem (by rw [hsize]; exact hj)]; rfl, ?_⟩
      unfold World.frozen?
      have : (w.drew.alloc (.cells ((cs ++ news).toArray ++ Builtin.zeroCells z.cells (gc - (n + m))) e)).heap[w.heap.size]? = some (.cells ((cs ++ news).toArray ++ Builtin.zeroCells z.cells (gc - (n + m))) e) := hnew
      rw [this]
      simp

/-- .. in a walk; what is known of the element type taken as one closed fact -/
theorem wpList_append_v {w : World} {ops : Array Oper} {rest : List Oper} {o : Oper} {a : Act} {Q : Exit → Act → World → Prop}
    (hg : o.guard = none) (s x : Operand) (t tx : TypeId) (hop : o.op = Op.call { callee := Callee.builtin Builtin.append, args := #[s, x], argTypes := #[t, tx] })
    (e : TypeId) (z : Value) (sz by_ : Nat) (ht : P.underlying t = some (.slice e)) (hinfo : (P.info? e).map (fun i => (i.zero, i.size, i.bytes)) = some (some z, sz, by_)) (hz1 : z.cells.size = sz)
    {ao : Option Addr} {cap n : Nat} {cs : List Value} (h : VS w ao cap sz n cs) (hse : a.eval s = .slice ao n cap) (xv : Value) (m : Nat) (news : List Value) (hxe : a.eval x = xv) (hs : Src P sz tx xv m news w) (hb : (n + m) * by_ ≤ 140737488355328) (hb2 : n + m ≤ 140737488355328)
    (hK : ∀ ao' cap' w', VS w' ao' cap' sz (n + m) (cs ++ news) → Only (blk ao) w w' → (∀ b, blk ao' b → blk ao b ∨ w.heap.size ≤ b) → wpList P ops Q rest (a.put o.dst (.slice ao' (n + m) cap')) w') :
    wpList P ops Q (o :: rest) a w := by
  obtain ⟨i, hi, hzz⟩ := Option.map_eq_some_iff.1 hinfo
  simp only [Prod.mk.injEq] at hzz
  obtain ⟨hz, hsz, hby⟩ := hzz
  refine wpList_plain hg fun K hK' => ?_
  obtain ⟨ao', cap', w', hrun, r1, r2, r3⟩ := run_append_vs (P := P) t tx o.type e i z sz ht hi hz hsz hz1 h xv m news hs (by rw [hby]; exact hb) hb2
  unfold Oper.wp
  simp [execOp, hop, resolve, invoke, builtin, hse, hxe, hrun, Result.andThen]
  exact hK' _ _ (hK ao' cap' w' r1 r2 r3)
end

end Go.Proofs.Ytbedkfgdhaajaab

namespace Go.Proofs.Ytbedkfgdhaajaab
open Go.RowKit

/-- the cells of n pairs -/
def pcl (X H : Nat → Option Addr) : Nat → List Value
  | 0 => []
  | n + 1 => pcl X H n ++ [.pointer (X n), .pointer (H n)]
theorem pcl_length (X H : Nat → Option Addr) (n : Nat) : (pcl X H n).length = n * 2 := by
  induction n with
  | zero => rfl
  | succ n ih => simp only [pcl, List.length_append, ih]; simp; omega
theorem pcl_congr {X H X' H' : Nat → Option Addr} {n : Nat} (h : ∀ i, i < n → X i = X' i) (k : ∀ i, i < n → H i = H' i) : pcl X H n = pcl X' H' n := by
  induction n with
  | zero => rfl
  | succ n ih => simp only [pcl]; rw [ih (fun i hi => h i (by omega)) (fun i hi => k i (by omega)), h n (by omega), k n (by omega)]
theorem pcl_get (X H : Nat → Option Addr) (n i : Nat) (hi : i < n) : (pcl X H n)[i * 2]? = some (.pointer (X i)) ∧ (pcl X H n)[i * 2 + 1]? = some (.pointer (H i)) := by
  induction n with
  | zero => omega
  | succ n ih =>
    have hl := pcl_length X H n
    simp only [pcl]
    by_cases e : i = n
    · subst e
      rw [List.getElem?_append_right (by omega), List.getElem?_append_right (by omega), hl]
      simp
    · obtain ⟨a, b⟩ := ih (by omega)
      rw [List.getElem?_append_left (by omega), List.getElem?_append_left (by omega)]
      exact ⟨a, b⟩

structure LS (W wr : World) (ao : Option Addr) (cap n : Nat) (X H : Nat → Option Addr) (Gs : Nat → Nat → Prop) : Prop where
  vs : VS wr ao cap 2 n (pcl X H n)
  pr : ∀ i, i < n → Pr wr (Gs i) (X i) (H i)
  dis : ∀ i j b, i < n → j < n → i ≠ j → Gs i b → ¬ Gs j b
  own : ∀ i b, i < n → Gs i b → ¬ blk ao b
  abv : ∀ i b, i < n → Gs i b → W.heap.size ≤ b
  abo : ∀ b, blk ao b → W.heap.size ≤ b
  bel : Below W.heap.size W wr

section
variable {W w w' : World} {ao : Option Addr} {cap n : Nat} {X H : Nat → Option Addr} {Gs : Nat → Nat → Prop}
theorem LS.below (h : LS W w ao cap n X H Gs) (hb : Below w.heap.size w w') : LS W w' ao cap n X H Gs :=
  ⟨h.vs.below hb, fun i hi => (h.pr i hi).below hb, h.dis, h.own, h.abv, h.abo, h.bel.trans (hb.mono h.bel.size)⟩

/-- a pair more -/
theorem LS.push (h : LS W w ao cap n X H Gs) {O : Obj} {w7 : World} {ao' : Option Addr} {cap' : Nat} {G : Nat → Prop} {x y : Option Addr} (hP : Pr w G x y) (hd : ∀ i b, i < n → G b → ¬ Gs i b) (ho : ∀ b, G b → ¬ blk ao b) (ha : ∀ b, G b → W.heap.size ≤ b)
    (hv : VS w7 ao' cap' 2 (n + 1) (pcl X H n ++ [.pointer x, .pointer y])) (h7 : Only (blk ao) (w.alloc O) w7) (hb : ∀ b, blk ao' b → blk ao b ∨ (w.alloc O).heap.size ≤ b) :
    LS W w7 ao' cap' (n + 1) (updA X n x) (updA H n y) (updA Gs n G) := by
  have hz := h.bel.size
  have ho7 : Only (blk ao) w w7 := (Only.of_below ((Below.refl w.heap.size w).alloc (Nat.le_refl _) O)).trans h7 (fun b q => .inl q)
  have hb' : ∀ b, blk ao' b → blk ao b ∨ w.heap.size ≤ b := fun b q => (hb b q).imp id (fun r => by rw [World.size_alloc] at r; omega)
  have hin : ∀ i b, i < n → Gs i b → b < w.heap.size := fun i b hi q => (h.pr i hi).1 b q
  refine ⟨?_, fun i hi => ?_, fun i j b hi hj hij => ?_, fun i b hi => ?_, fun i b hi => ?_, fun b q => ?_, ?_⟩
  · have e : pcl (updA X n x) (updA H n y) (n + 1) = pcl X H n ++ [.pointer x, .pointer y] := by
      simp only [pcl]
      rw [updA_same, updA_same, pcl_congr (fun i hi => updA_other _ _ (by omega)) (fun i hi => updA_other _ _ (by omega))]
    rw [e]; exact hv
  · by_cases e : i = n
    · subst e; rw [updA_same, updA_same, updA_same]; exact hP.only ho7 ho
    · rw [updA_other _ _ e, updA_other _ _ e, updA_other _ _ e]; exact (h.pr i (by omega)).only ho7 (fun b q => h.own i b (by omega) q)
  · by_cases ei : i = n
    · subst ei
      rw [updA_same, updA_other _ _ (fun q => hij q.symm)]
      exact fun q => hd j b (by omega) q
    · by_cases ej : j = n
      · subst ej; rw [updA_same, updA_other _ _ ei]; exact fun q1 q2 => hd i b (by omega) q2 q1
      · rw [updA_other _ _ ei, updA_other _ _ ej]; exact h.dis i j b (by omega) (by omega) hij
  · by_cases e : i = n
    · subst e
      rw [updA_same]
      intro q1 q2
      rcases hb' b q2 with k | k
      · exact ho b q1 k
      · have := hP.1 b q1; omega
    · rw [updA_other _ _ e]
      intro q1 q2
      rcases hb' b q2 with k | k
      · exact h.own i b (by omega) q1 k
      · have := hin i b (by omega) q1; omega
  · by_cases e : i = n
    · subst e; rw [updA_same]; exact ha b
    · rw [updA_other _ _ e]; exact h.abv i b (by omega)
  · rcases hb' b q with k | k
    · exact h.abo b k
    · omega
  · exact h.bel.trans (ho7.below hz h.abo)

/-- one pair has gone on -/
theorem LS.step (h : LS W w ao cap n X H Gs) {i : Nat} (hi : i < n) (k : PGo (Gs i) w w' (X i) (H i)) : ∃ G, LS W w' ao cap n X H (updA Gs i G) := by
  obtain ⟨o, G', p, f⟩ := k
  have hz := h.bel.size
  have hin : ∀ i b, i < n → Gs i b → b < w.heap.size := fun i b hi q => (h.pr i hi).1 b q
  refine ⟨G', h.vs.only o (fun b q1 q2 => h.own i b hi q2 q1), fun j hj => ?_, fun j l b hj hl hjl => ?_, fun j b hj => ?_, fun j b hj => ?_, h.abo, h.bel.trans (o.below hz (fun b q => h.abv i b hi q))⟩
  · by_cases e : j = i
    · subst e; rw [updA_same]; exact p
    · rw [updA_other _ _ e]; exact (h.pr j hj).only o (fun b q => h.dis j i b hj hi e q)
  · by_cases ej : j = i
    · subst ej
      rw [updA_same, updA_other _ _ (fun q => hjl q.symm)]
      intro q1 q2
      rcases f b q1 with r | r
      · exact h.dis j l b hj hl hjl r q2
      · have := hin l b hl q2; omega
    · by_cases el : l = i
      · subst el
        rw [updA_same, updA_other _ _ ej]
        intro q1 q2
        rcases f b q2 with r | r
        · exact h.dis j l b hj hl hjl q1 r
        · have := hin j b hj q1; omega
      · rw [updA_other _ _ ej, updA_other _ _ el]; exact h.dis j l b hj hl hjl
  · by_cases e : j = i
    · subst e
      rw [updA_same]
      intro q1 q2
      rcases f b q1 with r | r
      · exact h.own j b hj r q2
      · have := h.vs.lt q2; omega
    · rw [updA_other _ _ e]; exact h.own j b hj
  · by_cases e : j = i
    · subst e
      rw [updA_same]
      intro q
      rcases f b q with r | r
      · exact h.abv j b hj r
      · omega
    · rw [updA_other _ _ e]; exact h.abv j b hj

/-- the cells of pair i -/
theorem LS.cells (h : LS W w ao cap n X H Gs) {i : Nat} (hi : i < n) : ∃ b off, ao = some ⟨b, off, none⟩ ∧ b < w.heap.size ∧ w.cell? ⟨b, off + i * 2, none⟩ = some (.pointer (X i)) ∧ w.cell? ⟨b, off + i * 2 + 1, none⟩ = some (.pointer (H i)) := by
  obtain ⟨b, off, e, hb⟩ := h.vs.there (by have := h.vs.hle; omega)
  obtain ⟨g1, g2⟩ := pcl_get X H n i hi
  have hl := pcl_length X H n
  refine ⟨b, off, e, hb, ?_, ?_⟩
  · have := h.vs.hce _ e (i * 2) (by omega)
    rw [List.getElem?_eq_getElem (by omega)] at g1
    rw [Option.some.inj g1] at this
    exact this
  · have := h.vs.hce _ e (i * 2 + 1) (by omega)
    rw [List.getElem?_eq_getElem (by omega)] at g2
    rw [Option.some.inj g2] at this
    rw [Nat.add_assoc]
    exact this
end

/-- a new pair of both -/
theorem pr_new {w3 w4 w5 : World} (s4 : Sv w4 (fun b => b = w3.heap.size) w3.heap.size (fun _ => none)) (h5 : Below w4.heap.size w4 w5) (s5 : HAt w5 w4.heap.size (fun _ => none)) :
    Pr w5 (fun b => w3.heap.size ≤ b ∧ b < w5.heap.size) (some ⟨w3.heap.size, 0, none⟩) (some ⟨w4.heap.size, 0, none⟩) := by
  have z4 := s4.lt
  have z5 := s5.lt
  have z45 := h5.size
  refine ⟨fun b q => q.2, .inr ⟨w3.heap.size, w4.heap.size, _, _, rfl, rfl, s4.below h5, s5, fun q => by have q' : w4.heap.size = w3.heap.size := q; omega, J7.bare, fun b q => ?_, ⟨by omega, z5⟩⟩⟩
  have q' : b = w3.heap.size := q
  subst q'
  exact ⟨Nat.le_refl _, by omega⟩

end Go.Proofs.Ytbedkfgdhaajaab
