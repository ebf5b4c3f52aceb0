/- One context in memory. Nothing of the dump is imported. -/
import Derived.Test.YtbedkfgdhaajaabBase
namespace Go.Proofs.Ytbedkfgdhaajaab
open Go.RowKit

/-- a context: widths of its objects, and their heights (which no cell holds); bytes: 0 to 7 of the objects, 8 what waits, 9 the replies; its programs; what is due -/
structure Ctx where
  wd : Nat → Int
  ht : Nat → Int
  by_ : Nat → List UInt8
  has : Nat → Bool
  cd : Nat → List UInt8
  due : Int

/-- where the slice number k lies -/
def slot (k : Nat) : Nat := if k < 8 then k * 2 + 1 else if k = 8 then 24 else 26

theorem slot_inj {i j : Nat} (hi : i < 10) (hj : j < 10) (h : slot i = slot j) : i = j := by unfold slot at h; split at h <;> split at h <;> (try split at h) <;> (try split at h) <;> omega
theorem slot_np {i k : Nat} (_hi : i < 10) (_hk : k < 8) : slot i ≠ 16 + k := by unfold slot; split <;> (try split) <;> omega
theorem slot_ned {i : Nat} (_hi : i < 10) : slot i ≠ 25 := by unfold slot; split <;> (try split) <;> omega
theorem slot_nw {i k : Nat} (hk : k < 8) : slot i ≠ k * 2 := by unfold slot; split <;> (try split) <;> omega

structure CtxAt (W : World) (F : Nat → Prop) (p : Nat) (ad : Nat → Option Addr) (cp : Nat → Nat) (C : Ctx) : Prop where
  wd : ∀ k, k < 8 → W.cell? ⟨p, k * 2, none⟩ = some (.int .i64 (C.wd k))
  sl : ∀ k, k < 10 → W.cell? ⟨p, slot k, none⟩ = some (.slice (ad k) (C.by_ k).length (cp k))
  hs : ∀ k, k < 4 → W.cell? ⟨p, 16 + k * 2, none⟩ = some (.bool (C.has k))
  cd : ∀ k, k < 4 → W.cell? ⟨p, 16 + k * 2 + 1, none⟩ = some (.string (str (C.cd k)))
  du : W.cell? ⟨p, 25, none⟩ = some (.int .i64 C.due)
  fz : ∀ j, W.frozen? ⟨p, j, none⟩ = false
  lt : p < W.heap.size
  bs : ∀ k, k < 10 → BS W (ad k) (cp k) (C.by_ k)
  sep : ∀ i j, i < 10 → j < 10 → i ≠ j → ∀ b, blk (ad i) b → ¬ blk (ad j) b
  own : ∀ i, i < 10 → ¬ blk (ad i) p
  fp : F p
  fb : ∀ i b, i < 10 → blk (ad i) b → F b
  inn : ∀ b, F b → b < W.heap.size

/-- a context lies at p, in the blocks of F; those of M (a command's) are among those of what waits -/
def Cx (W : World) (F M : Nat → Prop) (p : Nat) (C : Ctx) : Prop := ∃ ad cp, CtxAt W F p ad cp C ∧ ∀ b, M b → blk (ad 8) b

theorem CtxAt.cx {W : World} {F M : Nat → Prop} {p : Nat} {ad : Nat → Option Addr} {cp : Nat → Nat} {C : Ctx} (h : CtxAt W F p ad cp C) (hM : ∀ b, M b → blk (ad 8) b) : Cx W F M p C := ⟨ad, cp, h, hM⟩

section
variable {W W' : World} {F G M : Nat → Prop} {p : Nat} {ad : Nat → Option Addr} {cp : Nat → Nat} {C : Ctx}

theorem CtxAt.only (h : CtxAt W F p ad cp C) (ho : Only G W W') (hn : ∀ b, F b → ¬ G b) : CtxAt W' F p ad cp C := by
  have hp := hn p h.fp
  refine ⟨fun k hk => ?_, fun k hk => ?_, fun k hk => ?_, fun k hk => ?_, ?_, fun j => ?_, Nat.lt_of_lt_of_le h.lt ho.size, fun k hk => (h.bs k hk).only ho (fun b hb => hn b (h.fb k b hk hb)), h.sep, h.own, h.fp, h.fb, fun b hb => Nat.lt_of_lt_of_le (h.inn b hb) ho.size⟩
  · rw [ho.cell h.lt hp]; exact h.wd k hk
  · rw [ho.cell h.lt hp]; exact h.sl k hk
  · rw [ho.cell h.lt hp]; exact h.hs k hk
  · rw [ho.cell h.lt hp]; exact h.cd k hk
  · rw [ho.cell h.lt hp]; exact h.du
  · rw [ho.frozen h.lt hp]; exact h.fz j

theorem CtxAt.below (h : CtxAt W F p ad cp C) (hb : Below W.heap.size W W') : CtxAt W' F p ad cp C := h.only (G := fun _ => False) (Only.of_below hb) (fun _ _ g => g)
theorem CtxAt.alloc (h : CtxAt W F p ad cp C) (o : Obj) : CtxAt (W.alloc o) F p ad cp C := h.below ((Below.refl _ _).alloc (Nat.le_refl _) o)
theorem CtxAt.drewN (h : CtxAt W F p ad cp C) (n : Nat) : CtxAt (W.drewN n) F p ad cp C := h.below ⟨rfl, rfl, rfl, Nat.le_refl _, fun _ _ => rfl⟩
theorem Cx.only (h : Cx W F M p C) (ho : Only G W W') (hn : ∀ b, F b → ¬ G b) : Cx W' F M p C := by obtain ⟨ad, cp, h, hM⟩ := h; exact ⟨ad, cp, h.only ho hn, hM⟩
theorem Cx.below (h : Cx W F M p C) (hb : Below W.heap.size W W') : Cx W' F M p C := by obtain ⟨ad, cp, h, hM⟩ := h; exact ⟨ad, cp, h.below hb, hM⟩
theorem Cx.lt (h : Cx W F M p C) : p < W.heap.size := by obtain ⟨_, _, h, _⟩ := h; exact h.lt
theorem Cx.du (h : Cx W F M p C) : W.cell? ⟨p, 25, none⟩ = some (.int .i64 C.due) := by obtain ⟨_, _, h, _⟩ := h; exact h.du
theorem Cx.fz (h : Cx W F M p C) (j : Nat) : W.frozen? ⟨p, j, none⟩ = false := by obtain ⟨_, _, h, _⟩ := h; exact h.fz j
theorem Cx.fp (h : Cx W F M p C) : F p := by obtain ⟨_, _, h, _⟩ := h; exact h.fp
theorem Cx.inn (h : Cx W F M p C) {b : Nat} (hb : F b) : b < W.heap.size := by obtain ⟨_, _, h, _⟩ := h; exact h.inn b hb
theorem Cx.own (h : Cx W F M p C) : ¬ M p := by obtain ⟨_, _, h, hM⟩ := h; exact fun g => h.own 8 (by omega) (hM p g)
theorem Cx.loose (h : Cx W F M p C) {N : Nat → Prop} (hN : ∀ b, N b → M b) : Cx W F N p C := by obtain ⟨ad, cp, h, hM⟩ := h; exact ⟨ad, cp, h, fun b g => hM b (hN b g)⟩

theorem CtxAt.setDue (h : CtxAt W F p ad cp C) (d : Int) : CtxAt (W.setCell ⟨p, 25, none⟩ (.int .i64 d)) F p ad cp { C with due := d } := by
  refine ⟨fun k hk => ?_, fun k hk => ?_, fun k hk => ?_, fun k hk => ?_, ?_, fun j => ?_, by rw [sz_setCell]; exact h.lt, fun k hk => (h.bs k hk).setCell (h.own k hk) _, h.sep, h.own, h.fp, h.fb, fun b hb => by rw [sz_setCell]; exact h.inn b hb⟩
  · rw [World.cell?_setCell_other _ _ _ _ (addr_ne (by omega))]; exact h.wd k hk
  · rw [World.cell?_setCell_other _ _ _ _ (addr_ne (slot_ned hk).symm)]; exact h.sl k hk
  · rw [World.cell?_setCell_other _ _ _ _ (addr_ne (by omega))]; exact h.hs k hk
  · rw [World.cell?_setCell_other _ _ _ _ (addr_ne (by omega))]; exact h.cd k hk
  · exact World.cell?_setCell_same _ _ _ h.du
  · rw [World.frozen?_setCell]; exact h.fz j

/-- the footprint, and what has been made since -/
def more (F : Nat → Prop) (W W' : World) : Nat → Prop := fun b => F b ∨ (W.heap.size ≤ b ∧ b < W'.heap.size)

/-- slice number k is another one now: its bytes lie in the old one's block, or in a new one -/
theorem CtxAt.putIn (h : CtxAt W F p ad cp C) {k : Nat} (hk : k < 10) (ho : Only (blk (ad k)) W W') {ao : Option Addr} {cap n : Nat} {l : List UInt8} (hb : BS W' ao cap l) (hn : n = l.length) {F' : Nat → Prop} (hbk : ∀ b, blk ao b → blk (ad k) b ∨ ¬ F b) (hF : ∀ b, F b → F' b) (hFa : ∀ b, blk ao b → F' b) (hin : ∀ b, F' b → b < W'.heap.size) :
    CtxAt (W'.setCell ⟨p, slot k, none⟩ (.slice ao n cap)) F' p (updA ad k ao) (updA cp k cap) { C with by_ := updA C.by_ k l } := by
  subst hn
  have hp : ¬ blk (ad k) p := h.own k hk
  have hpo : ¬ blk ao p := fun g => by rcases hbk p g with g | g; exact hp g; exact g h.fp
  refine ⟨fun j hj => ?_, fun j hj => ?_, fun j hj => ?_, fun j hj => ?_, ?_, fun j => ?_, by rw [sz_setCell]; exact Nat.lt_of_lt_of_le h.lt ho.size, fun j hj => ?_, fun i j hi hj hij b => ?_, fun i hi => ?_, hF p h.fp, fun i b hi => ?_, fun b hb' => by rw [sz_setCell]; exact hin b hb'⟩
  · rw [World.cell?_setCell_other _ _ _ _ (addr_ne (slot_nw hj)), ho.cell h.lt hp]; exact h.wd j hj
  · by_cases e : j = k
    · subst e
      rw [updA_same, updA_same]
      show _ = some (Value.slice ao (updA C.by_ j l j).length cap)
      rw [updA_same]
      exact World.cell?_setCell_same _ _ _ ((ho.cell h.lt hp _).trans (h.sl j hj))
    · rw [updA_other _ _ e, updA_other _ _ e, World.cell?_setCell_other _ _ _ _ (addr_ne (fun g => e (slot_inj hk hj g).symm)), ho.cell h.lt hp]
      show _ = some (Value.slice (ad j) (updA C.by_ k l j).length (cp j))
      rw [updA_other _ _ e]
      exact h.sl j hj
  · rw [World.cell?_setCell_other _ _ _ _ (addr_ne (slot_np hk (by omega))), ho.cell h.lt hp]; exact h.hs j hj
  · rw [Nat.add_assoc, World.cell?_setCell_other _ _ _ _ (addr_ne (slot_np hk (by omega))), ho.cell h.lt hp, ← Nat.add_assoc]; exact h.cd j hj
  · rw [World.cell?_setCell_other _ _ _ _ (addr_ne (slot_ned hk)), ho.cell h.lt hp]; exact h.du
  · rw [World.frozen?_setCell, ho.frozen h.lt hp]; exact h.fz j
  · by_cases e : j = k
    · subst e
      rw [updA_same, updA_same]
      show BS _ ao cap (updA C.by_ j l j)
      rw [updA_same]
      exact hb.setCell hpo _
    · rw [updA_other _ _ e, updA_other _ _ e]
      show BS _ (ad j) (cp j) (updA C.by_ k l j)
      rw [updA_other _ _ e]
      exact ((h.bs j hj).only ho (fun b g => h.sep j k hj hk e b g)).setCell (h.own j hj) _
  · by_cases ei : i = k
    · subst ei
      rw [updA_same, updA_other _ _ (fun g => hij g.symm)]
      intro g1 g2
      rcases hbk b g1 with g | g
      · exact h.sep i j hi hj hij b g g2
      · exact g (h.fb j b hj g2)
    · by_cases ej : j = k
      · subst ej
        rw [updA_same, updA_other _ _ ei]
        intro g1 g2
        rcases hbk b g2 with g | g
        · exact h.sep i j hi hj hij b g1 g
        · exact g (h.fb i b hi g1)
      · rw [updA_other _ _ ei, updA_other _ _ ej]; exact h.sep i j hi hj hij b
  · by_cases e : i = k
    · subst e; rw [updA_same]; exact hpo
    · rw [updA_other _ _ e]; exact h.own i hi
  · by_cases e : i = k
    · subst e
      rw [updA_same]
      exact hFa b
    · rw [updA_other _ _ e]; exact fun g => hF b (h.fb i b hi g)

theorem CtxAt.put (h : CtxAt W F p ad cp C) {k : Nat} (hk : k < 10) (ho : Only (blk (ad k)) W W') {ao : Option Addr} {cap n : Nat} {l : List UInt8} (hb : BS W' ao cap l) (hn : n = l.length) (hbk : ∀ b, blk ao b → blk (ad k) b ∨ W.heap.size ≤ b) :
    CtxAt (W'.setCell ⟨p, slot k, none⟩ (.slice ao n cap)) (more F W W') p (updA ad k ao) (updA cp k cap) { C with by_ := updA C.by_ k l } :=
  h.putIn hk ho hb hn (fun b g => (hbk b g).imp id (fun g' f => by have := h.inn b f; omega)) (fun _ g => .inl g)
    (fun b g => by rcases hbk b g with g' | g'; exact .inl (h.fb k b hk g'); exact .inr ⟨g', hb.lt g⟩)
    (fun b g => by rcases g with g | g; exact Nat.lt_of_lt_of_le (h.inn b g) ho.size; exact g.2)

/-- .. with its width and height (an object) -/
theorem CtxAt.setWd (h : CtxAt W F p ad cp C) {k : Nat} (hk : k < 8) (d : Int) : CtxAt (W.setCell ⟨p, k * 2, none⟩ (.int .i64 d)) F p ad cp { C with wd := updA C.wd k d } := by
  refine ⟨fun j hj => ?_, fun j hj => ?_, fun j hj => ?_, fun j hj => ?_, ?_, fun j => ?_, by rw [sz_setCell]; exact h.lt, fun j hj => (h.bs j hj).setCell (h.own j hj) _, h.sep, h.own, h.fp, h.fb, fun b hb => by rw [sz_setCell]; exact h.inn b hb⟩
  · by_cases e : j = k
    · subst e
      show _ = some (Value.int .i64 (updA C.wd j d j))
      rw [updA_same]; exact World.cell?_setCell_same _ _ _ (h.wd j hj)
    · show _ = some (Value.int .i64 (updA C.wd k d j))
      rw [updA_other _ _ e, World.cell?_setCell_other _ _ _ _ (addr_ne (by omega))]; exact h.wd j hj
  · rw [World.cell?_setCell_other _ _ _ _ (addr_ne (slot_nw hk).symm)]; exact h.sl j hj
  · rw [World.cell?_setCell_other _ _ _ _ (addr_ne (by omega))]; exact h.hs j hj
  · rw [World.cell?_setCell_other _ _ _ _ (addr_ne (by omega))]; exact h.cd j hj
  · rw [World.cell?_setCell_other _ _ _ _ (addr_ne (by omega))]; exact h.du
  · rw [World.frozen?_setCell]; exact h.fz j

/-- no cell holds a height -/
theorem CtxAt.ghost (h : CtxAt W F p ad cp C) (f : Nat → Int) : CtxAt W F p ad cp { C with ht := f } := ⟨h.wd, h.sl, h.hs, h.cd, h.du, h.fz, h.lt, h.bs, h.sep, h.own, h.fp, h.fb, h.inn⟩

/-- a program is laid down -/
theorem CtxAt.setHas (h : CtxAt W F p ad cp C) {k : Nat} (hk : k < 4) (d : Bool) : CtxAt (W.setCell ⟨p, 16 + k * 2, none⟩ (.bool d)) F p ad cp { C with has := updA C.has k d } := by
  refine ⟨fun j hj => ?_, fun j hj => ?_, fun j hj => ?_, fun j hj => ?_, ?_, fun j => ?_, by rw [sz_setCell]; exact h.lt, fun j hj => (h.bs j hj).setCell (h.own j hj) _, h.sep, h.own, h.fp, h.fb, fun b hb => by rw [sz_setCell]; exact h.inn b hb⟩
  · rw [World.cell?_setCell_other _ _ _ _ (addr_ne (by omega))]; exact h.wd j hj
  · rw [World.cell?_setCell_other _ _ _ _ (addr_ne (slot_np hj (by omega)).symm)]; exact h.sl j hj
  · by_cases e : j = k
    · subst e
      show _ = some (Value.bool (updA C.has j d j))
      rw [updA_same]; exact World.cell?_setCell_same _ _ _ (h.hs j hj)
    · show _ = some (Value.bool (updA C.has k d j))
      rw [updA_other _ _ e, World.cell?_setCell_other _ _ _ _ (addr_ne (by omega))]; exact h.hs j hj
  · rw [World.cell?_setCell_other _ _ _ _ (addr_ne (by omega))]; exact h.cd j hj
  · rw [World.cell?_setCell_other _ _ _ _ (addr_ne (by omega))]; exact h.du
  · rw [World.frozen?_setCell]; exact h.fz j

theorem CtxAt.setCd (h : CtxAt W F p ad cp C) {k : Nat} (hk : k < 4) (d : List UInt8) : CtxAt (W.setCell ⟨p, 16 + k * 2 + 1, none⟩ (.string (str d))) F p ad cp { C with cd := updA C.cd k d } := by
  refine ⟨fun j hj => ?_, fun j hj => ?_, fun j hj => ?_, fun j hj => ?_, ?_, fun j => ?_, by rw [sz_setCell]; exact h.lt, fun j hj => (h.bs j hj).setCell (h.own j hj) _, h.sep, h.own, h.fp, h.fb, fun b hb => by rw [sz_setCell]; exact h.inn b hb⟩
  · rw [World.cell?_setCell_other _ _ _ _ (addr_ne (by omega))]; exact h.wd j hj
  · rw [Nat.add_assoc, World.cell?_setCell_other _ _ _ _ (addr_ne (slot_np hj (by omega)).symm)]; exact h.sl j hj
  · rw [World.cell?_setCell_other _ _ _ _ (addr_ne (by omega))]; exact h.hs j hj
  · by_cases e : j = k
    · subst e
      show _ = some (Value.string (str (updA C.cd j d j)))
      rw [updA_same]; exact World.cell?_setCell_same _ _ _ (h.cd j hj)
    · show _ = some (Value.string (str (updA C.cd k d j)))
      rw [updA_other _ _ e, World.cell?_setCell_other _ _ _ _ (addr_ne (by omega))]; exact h.cd j hj
  · rw [World.cell?_setCell_other _ _ _ _ (addr_ne (by omega))]; exact h.du
  · rw [World.frozen?_setCell]; exact h.fz j

/-- one byte of an object is another one now -/
theorem CtxAt.setByte (h : CtxAt W F p ad cp C) {k : Nat} (hk : k < 10) {b off : Nat} (ha : ad k = some ⟨b, off, none⟩) {j : Nat} (hj : j < (C.by_ k).length) (u : UInt8) {v : Int} (hv : v = u.toNat) :
    CtxAt (W.setCell ⟨b, off + j, none⟩ (.int .u8 v)) F p ad cp { C with by_ := updA C.by_ k ((C.by_ k).set j u) } := by
  have hbk : blk (ad k) b := ⟨_, ha, rfl⟩
  have hpb : ¬ b = p := fun e => h.own k hk (e ▸ hbk)
  have hne : ∀ o, (⟨p, o, none⟩ : Addr) ≠ ⟨b, off + j, none⟩ := fun o e => by injection e with e1 _; exact hpb e1.symm
  have hne' : ∀ o, (⟨b, off + j, none⟩ : Addr) ≠ ⟨p, o, none⟩ := fun o e => hne o e.symm
  refine ⟨fun i hi => ?_, fun i hi => ?_, fun i hi => ?_, fun i hi => ?_, ?_, fun i => ?_, by rw [sz_setCell]; exact h.lt, fun i hi => ?_, h.sep, h.own, h.fp, h.fb, fun b hb => by rw [sz_setCell]; exact h.inn b hb⟩
  · rw [World.cell?_setCell_other _ _ _ _ (hne' _)]; exact h.wd i hi
  · rw [World.cell?_setCell_other _ _ _ _ (hne' _), h.sl i hi]
    by_cases e : i = k
    · subst e
      show _ = some (Value.slice _ (updA C.by_ i _ i).length _)
      rw [updA_same, List.length_set]
    · show _ = some (Value.slice _ (updA C.by_ k _ i).length _)
      rw [updA_other _ _ e]
  · rw [World.cell?_setCell_other _ _ _ _ (hne' _)]; exact h.hs i hi
  · rw [World.cell?_setCell_other _ _ _ _ (hne' _)]; exact h.cd i hi
  · rw [World.cell?_setCell_other _ _ _ _ (hne' _)]; exact h.du
  · rw [World.frozen?_setCell]; exact h.fz i
  · by_cases e : i = k
    · subst e
      show BS _ _ _ (updA C.by_ i _ i)
      rw [updA_same]
      have hb := h.bs i hi
      rw [ha] at hb ⊢
      exact hb.set hj u hv
    · show BS _ _ _ (updA C.by_ k _ i)
      rw [updA_other _ _ e]
      exact (h.bs i hi).setCell (h.sep k i hk hi (fun q => e q.symm) b hbk) _

/-- an object is laid down: width, height, bytes -/
theorem CtxAt.putObj (h : CtxAt W F p ad cp C) {k : Nat} (hk : k < 8) (ho : Below W.heap.size W W') {ao : Option Addr} {cap n : Nat} {l : List UInt8} (hb : BS W' ao cap l) (hn : n = l.length) (hbk : ∀ b, blk ao b → W.heap.size ≤ b) (a c : Int) :
    CtxAt ((W'.setCell ⟨p, k * 2, none⟩ (.int .i64 a)).setCell ⟨p, k * 2 + 1, none⟩ (.slice ao n cap)) (more F W W') p (updA ad k ao) (updA cp k cap) { C with wd := updA C.wd k a, ht := updA C.ht k c, by_ := updA C.by_ k l } := by
  have hlt := h.lt
  have hpo : ¬ blk ao p := fun g => by have := hbk p g; omega
  have h1 := ((h.below ho).setWd hk a).ghost (updA C.ht k c)
  have e : slot k = k * 2 + 1 := by unfold slot; rw [if_pos hk]
  have := h1.putIn (k := k) (F' := more F W W') (by omega) (Only.refl _ _) (hb.setCell (p := ⟨p, k * 2, none⟩) hpo _) hn (fun b g => .inr (fun f => by have := hbk b g; have := h.inn b f; omega))
    (fun _ g => .inl g) (fun b g => .inr ⟨hbk b g, hb.lt g⟩) (fun b g => by rw [sz_setCell]; rcases g with g | g; exact Nat.lt_of_lt_of_le (h.inn b g) ho.size; exact g.2)
  rw [e] at this
  exact this

/-- a call has turned the context at p into C', and nothing else that was there -/
def Goes (F M : Nat → Prop) (w w' : World) (p : Nat) (C' : Ctx) : Prop := Only (fun b => F b ∧ ¬ M b) w w' ∧ ∃ F', Cx w' F' M p C' ∧ ∀ b, F' b → F b ∨ w.heap.size ≤ b

theorem Goes.then {F F1 : Nat → Prop} {w w1 w2 : World} {p : Nat} {C' : Ctx} (h : Only (fun b => F b ∧ ¬ M b) w w1) (h1 : ∀ b, F1 b → F b ∨ w.heap.size ≤ b) (g : Goes F1 M w1 w2 p C') : Goes F M w w2 p C' := by
  obtain ⟨g1, F2, g2, g3⟩ := g
  refine ⟨h.trans g1 (fun b hb => (h1 b hb.1).imp (fun q => ⟨q, hb.2⟩) id), F2, g2, fun b hb => ?_⟩
  rcases g3 b hb with k | k
  · exact h1 b k
  · have := h.size; exact .inr (by omega)

theorem Goes.of_below {F : Nat → Prop} {w w1 w2 : World} {p : Nat} {C' : Ctx} (h : Below w.heap.size w w1) (g : Goes F M w1 w2 p C') : Goes F M w w2 p C' :=
  Goes.then (Only.of_below h) (fun _ g => .inl g) g

theorem Goes.stay {F : Nat → Prop} {w w' : World} {p : Nat} {C : Ctx} (h : Cx w F M p C) (hb : Below w.heap.size w w') : Goes F M w w' p C :=
  ⟨Only.of_below hb, F, h.below hb, fun _ g => .inl g⟩

/-- a command's bytes stay -/
theorem Goes.bs {F : Nat → Prop} {w w' : World} {p : Nat} {C : Ctx} {ao : Option Addr} {cap : Nat} {l : List UInt8} (h : Goes F (blk ao) w w' p C) (hB : BS w ao cap l) : BS w' ao cap l :=
  hB.only h.1 (fun _ g k => k.2 g)

theorem Goes.put {k : Nat} {ao : Option Addr} {cap n : Nat} {l : List UInt8} (h : CtxAt W F p ad cp C) (hM : ∀ b, M b → blk (ad 8) b) (hk : k < 10) (h8 : k ≠ 8) (ho : Only (blk (ad k)) W W') (hb : BS W' ao cap l) (hn : n = l.length) (hbk : ∀ b, blk ao b → blk (ad k) b ∨ W.heap.size ≤ b) :
    Goes F M W (W'.setCell ⟨p, slot k, none⟩ (.slice ao n cap)) p { C with by_ := updA C.by_ k l } :=
  ⟨(ho.mono (fun b _ g => ⟨h.fb k b hk g, fun q => h.sep k 8 hk (by omega) h8 b g (hM b q)⟩)).setCell (.inl ⟨h.fp, fun q => h.own 8 (by omega) (hM p q)⟩) _, _, (h.put hk ho hb hn hbk).cx (fun b g => by rw [updA_other _ _ (Ne.symm h8)]; exact hM b g), fun _ g => g.imp id And.left⟩

theorem Goes.put8 {ao : Option Addr} {cap n : Nat} {l : List UInt8} (h : CtxAt W F p ad cp C) (ho : Only (blk (ad 8)) W W') (hb : BS W' ao cap l) (hn : n = l.length) (hbk : ∀ b, blk ao b → blk (ad 8) b ∨ W.heap.size ≤ b) :
    Goes F (fun _ => False) W (W'.setCell ⟨p, 24, none⟩ (.slice ao n cap)) p { C with by_ := updA C.by_ 8 l } :=
  ⟨(ho.mono (fun b _ g => ⟨h.fb 8 b (by omega) g, id⟩)).setCell (.inl ⟨h.fp, id⟩) _, _, (h.put (k := 8) (by omega) ho hb hn hbk).cx (fun _ g => g.elim), fun _ g => g.imp id And.left⟩

theorem Goes.putObj {k : Nat} {ao : Option Addr} {cap n : Nat} {l : List UInt8} (h : CtxAt W F p ad cp C) (hM : ∀ b, M b → blk (ad 8) b) (hk : k < 8) (ho : Below W.heap.size W W') (hb : BS W' ao cap l) (hn : n = l.length) (hbk : ∀ b, blk ao b → W.heap.size ≤ b) (a c : Int) :
    Goes F M W ((W'.setCell ⟨p, k * 2, none⟩ (.int .i64 a)).setCell ⟨p, k * 2 + 1, none⟩ (.slice ao n cap)) p { C with wd := updA C.wd k a, ht := updA C.ht k c, by_ := updA C.by_ k l } :=
  have hp : F p ∧ ¬ M p := ⟨h.fp, fun q => h.own 8 (by omega) (hM p q)⟩
  ⟨((Only.of_below ho).setCell (.inl hp) _).setCell (.inl hp) _, _, (h.putObj hk ho hb hn hbk a c).cx (fun b g => by rw [updA_other _ _ (by omega)]; exact hM b g), fun _ g => g.imp id And.left⟩

theorem Goes.setByte (h : CtxAt W F p ad cp C) (hM : ∀ b, M b → blk (ad 8) b) {k : Nat} (hk : k < 8) {b off : Nat} (ha : ad k = some ⟨b, off, none⟩) {j : Nat} (hj : j < (C.by_ k).length) (u : UInt8) {v : Int} (hv : v = u.toNat) :
    Goes F M W (W.setCell ⟨b, off + j, none⟩ (.int .u8 v)) p { C with by_ := updA C.by_ k ((C.by_ k).set j u) } :=
  have hbk : blk (ad k) b := ⟨_, ha, rfl⟩
  ⟨(Only.refl _ _).setCell (.inl ⟨h.fb k b (by omega) hbk, fun q => h.sep k 8 (by omega) (by omega) (by omega) b hbk (hM b q)⟩) _, F, (h.setByte (by omega) ha hj u hv).cx hM, fun _ g => .inl g⟩

theorem Goes.putProg (h : CtxAt W F p ad cp C) (hM : ∀ b, M b → blk (ad 8) b) {k : Nat} (hk : k < 4) (d : Bool) (l : List UInt8) :
    Goes F M W ((W.setCell ⟨p, 16 + k * 2, none⟩ (.bool d)).setCell ⟨p, 16 + k * 2 + 1, none⟩ (.string (str l))) p { C with has := updA C.has k d, cd := updA C.cd k l } :=
  have hp : F p ∧ ¬ M p := ⟨h.fp, fun q => h.own 8 (by omega) (hM p q)⟩
  ⟨((Only.refl _ _).setCell (.inl hp) _).setCell (.inl hp) _, F, ((h.setHas hk d).setCd hk l).cx hM, fun _ g => .inl g⟩

theorem Cx.setDue (h : Cx W F M p C) (d : Int) : Cx (W.setCell ⟨p, 25, none⟩ (.int .i64 d)) F M p { C with due := d } := by obtain ⟨_, _, h, hM⟩ := h; exact (h.setDue d).cx hM
theorem Goes.setDue (h : Cx W F M p C) (d : Int) : Goes F M W (W.setCell ⟨p, 25, none⟩ (.int .i64 d)) p { C with due := d } :=
  ⟨(Only.refl _ _).setCell (.inl ⟨h.fp, h.own⟩) _, F, h.setDue d, fun _ g => .inl g⟩

theorem Cx.drew (h : Cx W F M p C) : Cx W.drew F M p C := by obtain ⟨ad, cp, h, hM⟩ := h; exact ⟨ad, cp, h.drewN 1, hM⟩
theorem Goes.drew {w w' : World} {C' : Ctx} (h : Goes F M w w' p C') : Goes F M w w'.drew p C' := by
  obtain ⟨h1, F', h2, h3⟩ := h
  exact ⟨h1.drew, F', h2.drew, h3⟩
/-- what the command's blocks were is forgotten -/
theorem Goes.loose {N : Nat → Prop} {w w' : World} {C' : Ctx} (h : Goes F M w w' p C') (hN : ∀ b, N b → M b) : Goes F N w w' p C' := by
  obtain ⟨h1, F', h2, h3⟩ := h
  exact ⟨h1.mono (fun b _ g => ⟨g.1, fun q => g.2 (hN b q)⟩), F', h2.loose hN, h3⟩

end
end Go.Proofs.Ytbedkfgdhaajaab
