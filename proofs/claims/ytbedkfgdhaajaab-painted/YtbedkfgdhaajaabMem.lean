/- Memory: which old blocks may have turned (Only); slices of bytes (BS); append onto one. Nothing of the dump is imported. -/
import Derived.WalkKit
import Derived.WalkSpells
import Derived.WalkLawsBesides
import Derived.BigRegion
import Derived.Deep.AppendSrc
import Derived.Laws.BytesArg
import Derived.Below
namespace Go.Proofs.Ytbedkfgdhaajaab
open Go.RowKit

/-- of the old blocks at most those of F have turned -/
structure Only (F : Nat → Prop) (w w' : World) : Prop where
  os : w'.os = w.os
  tape : w'.tape = w.tape
  output : w'.output = w.output
  size : w.heap.size ≤ w'.heap.size
  block : ∀ k, k < w.heap.size → ¬ F k → w'.heap[k]? = w.heap[k]?

theorem Only.refl (F : Nat → Prop) (w : World) : Only F w w := ⟨rfl, rfl, rfl, Nat.le_refl _, fun _ _ _ => rfl⟩

theorem Only.trans {F G : Nat → Prop} {a b c : World} (h : Only F a b) (k : Only G b c) (hG : ∀ x, G x → F x ∨ a.heap.size ≤ x) : Only F a c :=
  ⟨k.os.trans h.os, k.tape.trans h.tape, k.output.trans h.output, Nat.le_trans h.size k.size, fun i hi hn =>
    (k.block i (Nat.lt_of_lt_of_le hi h.size) (fun g => by rcases hG i g with g | g; exact hn g; omega)).trans (h.block i hi hn)⟩

theorem Only.mono {F G : Nat → Prop} {w w' : World} (h : Only F w w') (hG : ∀ x, x < w.heap.size → F x → G x) : Only G w w' :=
  ⟨h.os, h.tape, h.output, h.size, fun k hk hn => h.block k hk (fun hf => hn (hG k hk hf))⟩

theorem Only.of_below {F : Nat → Prop} {w w' : World} (h : Below w.heap.size w w') : Only F w w' := ⟨h.os, h.tape, h.output, h.size, fun k hk _ => h.block k hk⟩

theorem Only.below {F : Nat → Prop} {w w' : World} {B : Nat} (h : Only F w w') (hB : B ≤ w.heap.size) (hF : ∀ x, F x → B ≤ x) : Below B w w' :=
  ⟨h.os, h.tape, h.output, h.size, fun k hk => h.block k (by omega) (fun hf => by have := hF k hf; omega)⟩

theorem Only.cell {F : Nat → Prop} {w w' : World} (h : Only F w w') {b : Nat} (hb : b < w.heap.size) (hn : ¬ F b) (o : Nat) : w'.cell? ⟨b, o, none⟩ = w.cell? ⟨b, o, none⟩ :=
  World.cell?_of_block (w := w) (h.block b hb hn)
theorem Only.frozen {F : Nat → Prop} {w w' : World} (h : Only F w w') {b : Nat} (hb : b < w.heap.size) (hn : ¬ F b) (o : Nat) : w'.frozen? ⟨b, o, none⟩ = w.frozen? ⟨b, o, none⟩ :=
  World.frozen?_of_block (w := w) (h.block b hb hn)

theorem Only.alloc {F : Nat → Prop} {a w : World} (h : Only F a w) (o : Obj) : Only F a (w.alloc o) :=
  h.trans (G := fun _ => False) ⟨rfl, rfl, rfl, by simp, fun k hk _ => Below.heap_alloc _ _ _ hk⟩ (fun _ g => g.elim)
theorem Only.setCell {F : Nat → Prop} {a w : World} (h : Only F a w) {p : Addr} (hp : F p.block ∨ a.heap.size ≤ p.block) (u : Value) : Only F a (w.setCell p u) :=
  h.trans (G := fun x => x = p.block) ⟨rfl, rfl, rfl, by simp [World.setCell], fun k _ hn => Below.heap_setCell _ _ _ _ hn⟩ (fun x g => by subst g; exact hp)
theorem Only.drewN {F : Nat → Prop} {a w : World} (h : Only F a w) (n : Nat) : Only F a (w.drewN n) := ⟨h.os, h.tape, h.output, h.size, h.block⟩
theorem Only.drew {F : Nat → Prop} {a w : World} (h : Only F a w) : Only F a w.drew := ⟨h.os, h.tape, h.output, h.size, h.block⟩

/-- the block of a slice -/
def blk (ao : Option Addr) (b : Nat) : Prop := ∃ a, ao = some a ∧ a.block = b

theorem blk_some {a : Addr} : blk (some a) a.block := ⟨a, rfl, rfl⟩
theorem blk_none {b : Nat} : ¬ blk none b := fun ⟨_, h, _⟩ => by cases h

/-- a slice of bytes: its address and capacity, and the bytes that it has -/
structure BS (W : World) (ao : Option Addr) (cap : Nat) (l : List UInt8) : Prop where
  hle : l.length ≤ cap
  hmax : cap ≤ maxLen
  hnil : ao = none → cap = 0
  hpl : ∀ a, ao = some a → a.spot = none ∧ a.block < W.heap.size
  hce : ∀ a, ao = some a → ∀ j (h : j < l.length), W.cell? ⟨a.block, a.off + j, none⟩ = some (.int .u8 (l[j].toNat))
  hro : ∀ a, ao = some a → ∀ j, j < cap → (W.cell? ⟨a.block, a.off + j, none⟩).isSome = true ∧ W.frozen? ⟨a.block, a.off + j, none⟩ = false

theorem BS.bare (W : World) : BS W none 0 [] :=
  ⟨by simp, by simp [maxLen], fun _ => rfl, fun _ h => (by cases h), fun _ h => (by cases h), fun _ h => (by cases h)⟩

theorem BS.keep {W W' : World} {ao : Option Addr} {cap : Nat} {l : List UInt8} (h : BS W ao cap l) (hs : W.heap.size ≤ W'.heap.size) (hb : ∀ b, blk ao b → W'.heap[b]? = W.heap[b]?) : BS W' ao cap l := by
  refine ⟨h.hle, h.hmax, h.hnil, fun a e => ⟨(h.hpl a e).1, Nat.lt_of_lt_of_le (h.hpl a e).2 hs⟩, fun a e j hj => ?_, fun a e j hj => ?_⟩
  · rw [World.cell?_of_block (w := W) (a := ⟨a.block, a.off + j, none⟩) (hb a.block ⟨a, e, rfl⟩)]; exact h.hce a e j hj
  · rw [World.cell?_of_block (w := W) (a := ⟨a.block, a.off + j, none⟩) (hb a.block ⟨a, e, rfl⟩), World.frozen?_of_block (w := W) (a := ⟨a.block, a.off + j, none⟩) (hb a.block ⟨a, e, rfl⟩)]; exact h.hro a e j hj

theorem BS.lt {W : World} {ao : Option Addr} {cap : Nat} {l : List UInt8} (h : BS W ao cap l) {b : Nat} (hb : blk ao b) : b < W.heap.size := by
  obtain ⟨a, e, rfl⟩ := hb; exact (h.hpl a e).2

theorem BS.only {F : Nat → Prop} {W W' : World} {ao : Option Addr} {cap : Nat} {l : List UInt8} (h : BS W ao cap l) (ho : Only F W W') (hn : ∀ b, blk ao b → ¬ F b) : BS W' ao cap l :=
  h.keep ho.size (fun b hb => ho.block b (h.lt hb) (hn b hb))

theorem BS.setCell {W : World} {ao : Option Addr} {cap : Nat} {l : List UInt8} (h : BS W ao cap l) {p : Addr} (hn : ¬ blk ao p.block) (u : Value) : BS (W.setCell p u) ao cap l :=
  h.keep (by simp [World.setCell]) (fun b hb => Below.heap_setCell _ _ _ _ (fun e => hn (e ▸ hb)))
theorem BS.alloc {W : World} {ao : Option Addr} {cap : Nat} {l : List UInt8} (h : BS W ao cap l) (o : Obj) : BS (W.alloc o) ao cap l :=
  h.keep (by simp) (fun b hb => Below.heap_alloc _ _ _ (h.lt hb))

theorem BS.below {W W' : World} {ao : Option Addr} {cap : Nat} {l : List UInt8} (h : BS W ao cap l) (hb : Below W.heap.size W W') : BS W' ao cap l :=
  h.keep hb.size (fun b g => hb.block b (h.lt g))

/-- it lies somewhere, if it has a byte -/
theorem BS.there {W : World} {ao : Option Addr} {cap : Nat} {l : List UInt8} (h : BS W ao cap l) (hc : 0 < cap) : ∃ b off, ao = some ⟨b, off, none⟩ ∧ b < W.heap.size := by
  cases ao with
  | none => have := h.hnil rfl; omega
  | some a =>
    obtain ⟨b, o, s⟩ := a
    have := h.hpl _ rfl
    obtain ⟨h1, h2⟩ := this
    simp only at h1 h2
    subst h1
    exact ⟨b, o, rfl, h2⟩

/-- its first n bytes, and what follows them -/
theorem BS.take {W : World} {ao : Option Addr} {cap : Nat} {l : List UInt8} (h : BS W ao cap l) (n : Nat) (hn : n ≤ l.length) : BS W ao cap (l.take n) := by
  refine ⟨by rw [List.length_take]; have := h.hle; omega, h.hmax, h.hnil, h.hpl, fun a e j hj => ?_, h.hro⟩
  rw [List.length_take] at hj
  rw [List.getElem_take]
  exact h.hce a e j (by omega)

theorem BS.drop {W : World} {ao ao' : Option Addr} {cap : Nat} {l : List UInt8} (h : BS W ao cap l) (n : Nat) (hn : n ≤ l.length) (e : ao' = if cap = n then ao else ao.map (·.add n)) : BS W ao' (cap - n) (l.drop n) := by
  have hl := h.hle
  by_cases hc : cap = n
  · rw [if_pos hc] at e
    subst e
    have e0 : l.drop n = [] := List.drop_eq_nil_of_le (by omega)
    rw [e0]
    exact ⟨by simp, by have := h.hmax; omega, fun g => by have := h.hnil g; omega, h.hpl, fun a e j hj => by simp at hj, fun a e j hj => by omega⟩
  · rw [if_neg hc] at e
    obtain ⟨b, off, rfl, hb⟩ := h.there (by omega)
    rw [Option.map_some, Addr.add_lit] at e
    subst e
    refine ⟨by rw [List.length_drop]; omega, by have := h.hmax; omega, fun g => (by cases g), fun a g => (by cases g; exact ⟨rfl, hb⟩), fun a g j hj => ?_, fun a g j hj => ?_⟩
    · cases g
      rw [List.length_drop] at hj
      rw [List.getElem_drop]
      have := h.hce _ rfl (n + j) (by omega)
      rw [← Nat.add_assoc] at this
      exact this
    · cases g
      have := h.hro _ rfl (n + j) (by omega)
      rw [← Nat.add_assoc] at this
      exact this

theorem blk_drop {ao : Option Addr} {cap n b : Nat} {ao' : Option Addr} (e : ao' = if cap = n then ao else ao.map (·.add n)) (h : blk ao' b) : blk ao b := by
  subst e
  split at h
  · exact h
  · obtain ⟨a, e, rfl⟩ := h
    cases ao with
    | none => cases e
    | some x =>
      simp only [Option.map_some, Option.some.injEq] at e
      subst e
      refine ⟨x, rfl, ?_⟩
      unfold Addr.add
      split <;> rfl

def bcs (l : List UInt8) : List Value := l.map fun b => Value.int .u8 b.toNat
theorem bcs_length (l : List UInt8) : (bcs l).length = l.length := List.length_map _
theorem bcs_get (l : List UInt8) (j : Nat) (h : j < l.length) : (bcs l)[j]'(by rw [bcs_length]; exact h) = .int .u8 l[j].toNat := List.getElem_map ..
theorem bcs_one (l : List UInt8) : ∀ u ∈ bcs l, u.oneCell' = true := fun u hu => by obtain ⟨_, _, rfl⟩ := List.mem_map.1 hu; rfl

section
variable {P : Program}

theorem run_first_bs {w : World} {ao : Option Addr} {cap : Nat} {l : List UInt8} (h : BS w ao cap l) : (Builtin.firstCells 1 l.length (.slice ao l.length cap)).run P w = .ok (bcs l).toArray w := by
  cases ao with
  | none =>
    have := h.hnil rfl
    have hl := h.hle
    have e : l = [] := List.eq_nil_of_length_eq_zero (by omega)
    subst e
    exact run_firstCells_none w 1 0 0 cap
  | some a =>
    refine run_firstCells_some w 1 l.length a l.length cap (bcs l) (by rw [bcs_length]; omega) (fun j u hj => ?_)
    have hj' : j < l.length := by
      rcases Nat.lt_or_ge j l.length with g | g
      · exact g
      · rw [List.getElem?_eq_none (by rw [bcs_length]; exact g)] at hj; cases hj
    rw [List.getElem?_eq_getElem (by rw [bcs_length]; exact hj'), bcs_get l j hj'] at hj
    have hp := (h.hpl a rfl).1
    obtain ⟨b, o, s⟩ := a
    simp only at hp
    subst hp
    rw [Addr.add_lit]
    injection hj with hj
    subst hj
    exact h.hce _ rfl j hj'

theorem BS.drew {W : World} {ao : Option Addr} {cap : Nat} {l : List UInt8} (h : BS W ao cap l) : BS W.drew ao cap l := h.keep (Nat.le_refl _) (fun _ _ => rfl)

/-- a slice of bytes, as what is appended -/
theorem BS.src {w : World} {ao : Option Addr} {cap : Nat} {l : List UInt8} {tx e' : TypeId} (h : BS w ao cap l) (hk : P.underlying tx = some (.slice e')) : Src P 1 tx (.slice ao l.length cap) l.length (bcs l) w :=
  ⟨.inl ⟨e', hk⟩, fun _ => rfl, run_first_bs h, run_first_bs h.drew, by rw [bcs_length]; omega, bcs_one l⟩

theorem setCells_block (b : Nat) : ∀ (vs : List Value) (o : Nat) (w : World), (w.setCells b o vs).heap.size = w.heap.size ∧ (∀ k, k ≠ b → (w.setCells b o vs).heap[k]? = w.heap[k]?) ∧ (w.setCells b o vs).os = w.os ∧ (w.setCells b o vs).tape = w.tape ∧ (w.setCells b o vs).output = w.output
  | [], o, w => ⟨rfl, fun _ _ => rfl, rfl, rfl, rfl⟩
  | v :: vs, o, w => by
    have := setCells_block b vs (o + 1) (w.setCell ⟨b, o, none⟩ v)
    obtain ⟨h1, h2, h3, h4, h5⟩ := this
    refine ⟨h1.trans (by simp [World.setCell]), fun k hk => (h2 k hk).trans (Below.heap_setCell _ _ _ _ hk), h3, h4, h5⟩

/-- append of bytes: ONE way on: the new slice, in the old block or in a new one -/
theorem run_append_bs {w : World} (t tx ty e : TypeId) (i : TypeInfo) (z : Value) (ht : P.underlying t = some (.slice e)) (hi : P.info? e = some i) (hz : i.zero = some z) (hsz : i.size = 1) (hby : i.bytes = 1) (hz1 : z.cells.size = 1)
    {ao : Option Addr} {cap : Nat} {l : List UInt8} (h : BS w ao cap l) (x : Value) (news : List UInt8) (hs : Src P 1 tx x news.length (bcs news) w) (hb : l.length + news.length ≤ 140737488355328) :
    ∃ ao' cap' w', (Builtin.append_ #[t, tx] ty #[.slice ao l.length cap, x]).run P w = .ok (.slice ao' (l ++ news).length cap') w' ∧ BS w' ao' cap' (l ++ news) ∧ Only (blk ao) w w' ∧ (∀ b, blk ao' b → blk ao b ∨ w.heap.size ≤ b) := by
  have hm : l.length + news.length ≤ maxLen := by unfold maxLen; omega
  have hlen : (l ++ news).length = l.length + news.length := List.length_append
  by_cases hr : l.length + news.length ≤ cap
  · cases ao with
    | none =>
      have hc := h.hnil rfl
      have e1 : l = [] := List.eq_nil_of_length_eq_zero (by omega)
      have e2 : news = [] := List.eq_nil_of_length_eq_zero (by omega)
      subst e1 e2 hc
      refine ⟨none, 0, w, ?_, h, Only.refl _ _, fun b hb => .inl hb⟩
      have hl := hs.len
      have hcs := hs.cells
      rcases hs.kind with ⟨e', hk⟩ | hk <;> simp [Builtin.append_, run_underlying ht, run_underlying hk, sizeOf, typeInfo, hi, hsz] <;> simp_all
    | some a =>
      have hp := h.hpl a rfl
      obtain ⟨b, off, s⟩ := a
      obtain ⟨hp1, hp2⟩ := hp
      simp only at hp1 hp2
      subst hp1
      have hrm := h.hro _ rfl
      have hrun := run_append_room_src (P := P) w t tx ty e i ht hi b off l.length cap x news.length (bcs news) (by rw [hsz]; exact hs) hr
        (fun j hj => by rw [bcs_length] at hj; rw [hsz, Nat.mul_one, Nat.add_assoc]; exact (hrm (l.length + j) (by omega)).1)
        (fun j hj => by rw [bcs_length] at hj; rw [hsz, Nat.mul_one, Nat.add_assoc]; exact (hrm (l.length + j) (by omega)).2)
      rw [hsz, Nat.mul_one] at hrun
      obtain ⟨z1, z2, z3, z4, z5⟩ := setCells_block b (bcs news) (off + l.length) w
      refine ⟨some ⟨b, off, none⟩, cap, _, by rw [hlen]; exact hrun, ⟨by omega, h.hmax, fun g => (by cases g), fun a g => (by cases g; exact ⟨rfl, by rw [z1]; exact hp2⟩), fun a g j hj => ?_, fun a g j hj => ?_⟩, ⟨z3, z4, z5, by omega, fun k hk hn => z2 k (fun e => hn ⟨_, rfl, e.symm⟩)⟩, fun b hb => .inl hb⟩
      · cases g
        simp only
        by_cases hjl : j < l.length
        · rw [World.cell?_setCells_out _ _ _ _ _ (fun _ _ => .inl (by show off + j < off + l.length; omega)), List.getElem_append_left hjl]
          exact h.hce _ rfl j hjl
        · obtain ⟨q, rfl⟩ : ∃ q, j = l.length + q := ⟨j - l.length, by omega⟩
          have hq : q < news.length := by omega
          have := World.cell?_setCells_in b (bcs news) (off + l.length) w (fun j hj => by rw [bcs_length] at hj; rw [Nat.add_assoc]; exact (hrm (l.length + j) (by omega)).1) q (by rw [bcs_length]; exact hq)
          rw [Nat.add_assoc] at this
          rw [this, bcs_get news q hq, List.getElem_append_right (by omega)]
          simp
      · cases g
        have := hrm j hj
        refine ⟨?_, by rw [World.frozen?_setCells]; exact this.2⟩
        simp only at this ⊢
        by_cases hin : l.length ≤ j ∧ j < l.length + news.length
        · obtain ⟨q, rfl⟩ : ∃ q, j = l.length + q := ⟨j - l.length, by omega⟩
          have hq : q < news.length := by omega
          have h3 := World.cell?_setCells_in b (bcs news) (off + l.length) w (fun j hj => by rw [bcs_length] at hj; rw [Nat.add_assoc]; exact (hrm (l.length + j) (by omega)).1) q (by rw [bcs_length]; exact hq)
          rw [Nat.add_assoc] at h3
          rw [h3]; rfl
        · rw [World.cell?_setCells_out _ _ _ _ _ (fun _ _ => by show off + j < off + l.length ∨ off + l.length + (bcs news).length ≤ off + j; rw [bcs_length]; omega)]
          exact this.1
  · have hg : cap < l.length + news.length := by omega
    have hrun := run_append_grow_src (P := P) w t tx ty e i z ht hi hz ao l.length cap (bcs l) (by rw [hsz]; exact run_first_bs h.drew) x news.length (bcs news) (by rw [hsz]; exact hs) hg (by omega) (growslice_fits hg (by rw [hby]; omega))
    have hge := grownCap_ge w (l.length + news.length) cap e
    have hcm : grownCap w (l.length + news.length) cap e ≤ maxLen := grownCap_le_maxLen w (l.length + news.length) cap e hm
    generalize grownCap w (l.length + news.length) cap e = gc at *
    have hsize : ((bcs l ++ bcs news).toArray ++ Builtin.zeroCells z.cells (gc - (l.length + news.length))).size = gc := by
      rw [Array.size_append, size_zeroCells, hz1, List.size_toArray, List.length_append, bcs_length, bcs_length]; omega
    have hnew := heap_alloc_new w.drew (.cells ((bcs l ++ bcs news).toArray ++ Builtin.zeroCells z.cells (gc - (l.length + news.length))) e)
    have hcell : ∀ j, (w.drew.alloc (.cells ((bcs l ++ bcs news).toArray ++ Builtin.zeroCells z.cells (gc - (l.length + news.length))) e)).cell? ⟨w.heap.size, j, none⟩ = ((bcs l ++ bcs news).toArray ++ Builtin.zeroCells z.cells (gc - (l.length + news.length)))[j]? := by
      intro j
      unfold World.cell?
      have : (w.drew.alloc (.cells ((bcs l ++ bcs news).toArray ++ Builtin.zeroCells z.cells (gc - (l.length + news.length))) e)).heap[w.heap.size]? = some (.cells ((bcs l ++ bcs news).toArray ++ Builtin.zeroCells z.cells (gc - (l.length + news.length))) e) := hnew
      rw [this]
      simp
    refine ⟨some ⟨w.heap.size, 0, none⟩, gc, w.drew.alloc (.cells ((bcs l ++ bcs news).toArray ++ Builtin.zeroCells z.cells (gc - (l.length + news.length))) e), (by rw [hlen]; exact hrun), ⟨by omega, hcm, fun g => (by cases g), fun a g => (by cases g; exact ⟨rfl, by simp⟩), fun a g j hj => ?_, fun a g j hj => ?_⟩, ⟨rfl, rfl, rfl, by simp, fun k hk _ => Below.heap_alloc w.drew _ k hk⟩, fun b hb => by obtain ⟨a, e, rfl⟩ := hb; cases e; exact .inr (Nat.le_refl _)⟩
    · cases g
      rw [hcell]
      simp only [Nat.zero_add]
      rw [Array.getElem?_append_left (by rw [List.size_toArray, List.length_append, bcs_length, bcs_length]; omega), List.getElem?_toArray]
      have e3 : bcs l ++ bcs news = bcs (l ++ news) := by unfold bcs; rw [List.map_append]
      rw [e3, List.getElem?_eq_getElem (by rw [bcs_length]; exact hj), bcs_get _ j hj]
    · cases g
      rw [hcell]
      simp only [Nat.zero_add]
      refine ⟨by rw [Array.getElem?_eq_getElem (by rw [hsize]; exact hj)]; rfl, ?_⟩
      unfold World.frozen?
      have : (w.drew.alloc (.cells ((bcs l ++ bcs news).toArray ++ Builtin.zeroCells z.cells (gc - (l.length + news.length))) e)).heap[w.heap.size]? = some (.cells ((bcs l ++ bcs news).toArray ++ Builtin.zeroCells z.cells (gc - (l.length + news.length))) e) := hnew
      rw [this]
      simp

/-- .. in a walk -/
theorem wpList_append_bs {w : World} {ops : Array Oper} {rest : List Oper} {o : Oper} {a : Act} {Q : Exit → Act → World → Prop}
    (hg : o.guard = none) (s x : Operand) (t tx : TypeId) (hop : o.op = Op.call { callee := Callee.builtin Builtin.append, args := #[s, x], argTypes := #[t, tx] })
    (e : TypeId) (i : TypeInfo) (z : Value) (ht : P.underlying t = some (.slice e)) (hi : P.info? e = some i) (hz : i.zero = some z) (hsz : i.size = 1) (hby : i.bytes = 1) (hz1 : z.cells.size = 1)
    {ao : Option Addr} {cap n : Nat} {l : List UInt8} (h : BS w ao cap l) (hn : n = l.length) (hse : a.eval s = .slice ao n cap) (xv : Value) (news : List UInt8) (hxe : a.eval x = xv) (hs : Src P 1 tx xv news.length (bcs news) w) (hb : l.length + news.length ≤ 140737488355328)
    (hK : ∀ ao' cap' w', BS w' ao' cap' (l ++ news) → Only (blk ao) w w' → (∀ b, blk ao' b → blk ao b ∨ w.heap.size ≤ b) → wpList P ops Q rest (a.put o.dst (.slice ao' (l ++ news).length cap')) w') :
    wpList P ops Q (o :: rest) a w := by
  refine wpList_plain hg fun K hK' => ?_
  subst hn
  obtain ⟨ao', cap', w', hrun, r1, r2, r3⟩ := run_append_bs (P := P) t tx o.type e i z ht hi hz hsz hby hz1 h xv news hs hb
  unfold Oper.wp
  simp only [List.length_append] at hrun hK
  simp [execOp, hop, resolve, invoke, builtin, hse, hxe, hrun, Result.andThen]
  exact hK' _ _ (hK ao' cap' w' r1 r2 r3)

/-- .. what is known of the element type taken as one closed fact -/
theorem wpList_append_b {w : World} {ops : Array Oper} {rest : List Oper} {o : Oper} {a : Act} {Q : Exit → Act → World → Prop}
    (hg : o.guard = none) (s x : Operand) (t tx : TypeId) (hop : o.op = Op.call { callee := Callee.builtin Builtin.append, args := #[s, x], argTypes := #[t, tx] })
    (e : TypeId) (ht : P.underlying t = some (.slice e)) (hinfo : (P.info? e).map (fun i => (i.zero, i.size, i.bytes)) = some (some (.int .u8 0), 1, 1))
    {ao : Option Addr} {cap n : Nat} {l : List UInt8} (h : BS w ao cap l) (hn : n = l.length) (hse : a.eval s = .slice ao n cap) (xv : Value) (news : List UInt8) (hxe : a.eval x = xv) (hs : Src P 1 tx xv news.length (bcs news) w) (hb : l.length + news.length ≤ 140737488355328)
    (hK : ∀ ao' cap' w', BS w' ao' cap' (l ++ news) → Only (blk ao) w w' → (∀ b, blk ao' b → blk ao b ∨ w.heap.size ≤ b) → wpList P ops Q rest (a.put o.dst (.slice ao' (l ++ news).length cap')) w') :
    wpList P ops Q (o :: rest) a w := by
  obtain ⟨i, hi, hzz⟩ := Option.map_eq_some_iff.1 hinfo
  simp only [Prod.mk.injEq] at hzz
  obtain ⟨hz, hsz, hby⟩ := hzz
  exact wpList_append_bs hg s x t tx hop e i (.int .u8 0) ht hi hz hsz hby rfl h hn hse xv news hxe hs hb hK

/-- one byte, just made -/
theorem bs_one (W : World) (t : TypeId) (u : UInt8) (v : Int) (hv : v = u.toNat) : BS (W.alloc (.cells #[.int .u8 v] t)) (some ⟨W.heap.size, 0, none⟩) 1 [u] := by
  subst hv
  refine ⟨by simp, by simp [maxLen], fun g => (by cases g), fun a g => (by cases g; exact ⟨rfl, by simp⟩), fun a g j hj => ?_, fun a g j hj => ?_⟩
  · cases g
    have : j = 0 := by simpa using hj
    subst this
    rw [World.cell?_alloc_at _ _ _ _ rfl]
    simp
  · cases g
    have : j = 0 := by omega
    subst this
    rw [World.cell?_alloc_at _ _ _ _ rfl, World.frozen?_alloc_at _ _ _ _ rfl]
    simp

/-- string(b) -/
def str (l : List UInt8) : ByteArray := ⟨l.toArray⟩

theorem str_size (l : List UInt8) : (str l).size = l.length := by simp [str, ByteArray.size]
theorem str_data (l : List UInt8) : (str l).data.toList = l := rfl

theorem run_string_bs {w : World} {ao : Option Addr} {cap : Nat} {l : List UInt8} (h : BS w ao cap l) (src dst e : TypeId) (hs : P.underlying src = some (.slice e)) (he : P.underlying e = some (.int .u8)) (hd : P.underlying dst = some .string) :
    (convert src dst (.slice ao l.length cap)).run P w = .ok (.string (str l)) w := by
  cases ao with
  | none =>
    have hc := h.hnil rfl
    have hl := h.hle
    have e1 : l = [] := List.eq_nil_of_length_eq_zero (by omega)
    subst e1
    exact run_convert_bytes_nil w src e hs he _ _ dst hd
  | some a =>
    have hp := h.hpl a rfl
    obtain ⟨b, off, s⟩ := a
    obtain ⟨hp1, hp2⟩ := hp
    simp only at hp1 hp2
    subst hp1
    have := run_convert_bytes_arg (P := P) w src e hs he b off l.length cap (l.map fun u => (u.toNat : Int)) (by simp) (fun j hj => by
      rw [h.hce _ rfl j hj]
      simp [List.getD, List.getElem?_eq_getElem hj]) dst hd
    rw [this]
    congr 2
    unfold strOfNums str
    congr 2
    rw [List.map_map]
    conv => rhs; rw [← List.map_id l]
    congr 1
    funext u
    simp

end
end Go.Proofs.Ytbedkfgdhaajaab
