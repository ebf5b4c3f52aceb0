/- One context in memory. Nothing of the dump is imported. -/
import Derived.Test.YtibliodajabhbaaMem
namespace Go.Proofs.Ytibliodajabhbaa
open Go.RowKit

def updA {α : Type} (f : Nat → α) (k : Nat) (v : α) : Nat → α := fun j => if j = k then v else f j
theorem updA_same {α : Type} (f : Nat → α) (k : Nat) (v : α) : updA f k v k = v := if_pos rfl
theorem updA_other {α : Type} (f : Nat → α) {j k : Nat} (v : α) (h : j ≠ k) : updA f k v j = f j := if_neg h

/-- a context: widths and heights of its objects; bytes: 0 to 7 of the objects, 8 what waits, 9 the replies; what is due -/
structure Ctx where
  wd : Nat → Int
  ht : Nat → Int
  by_ : Nat → List UInt8
  due : Int

/-- where the slice number k lies -/
def slot (k : Nat) : Nat := if k < 8 then k * 3 + 2 else if k = 8 then 24 else 26

theorem slot_inj {i j : Nat} (hi : i < 10) (hj : j < 10) (h : slot i = slot j) : i = j := by unfold slot at h; split at h <;> split at h <;> (try split at h) <;> (try split at h) <;> omega
theorem slot_ne25 {i : Nat} (_hi : i < 10) : slot i ≠ 25 := by unfold slot; split <;> (try split) <;> omega
theorem slot_nw {i k : Nat} (hk : k < 8) : slot i ≠ k * 3 := by unfold slot; split <;> (try split) <;> omega
theorem slot_nh {i k : Nat} (_hi : i < 10) (hk : k < 8) : slot i ≠ k * 3 + 1 := by unfold slot; split <;> (try split) <;> omega

structure CtxAt (W : World) (F : Nat → Prop) (p : Nat) (ad : Nat → Option Addr) (cp : Nat → Nat) (C : Ctx) : Prop where
  wd : ∀ k, k < 8 → W.cell? ⟨p, k * 3, none⟩ = some (.int .i64 (C.wd k))
  ht : ∀ k, k < 8 → W.cell? ⟨p, k * 3 + 1, none⟩ = some (.int .i64 (C.ht k))
  sl : ∀ k, k < 10 → W.cell? ⟨p, slot k, none⟩ = some (.slice (ad k) (C.by_ k).length (cp k))
  du : W.cell? ⟨p, 25, none⟩ = some (.int .i64 C.due)
  fz : ∀ j, W.frozen? ⟨p, j, none⟩ = false
  lt : p < W.heap.size
  bs : ∀ k, k < 10 → BS W (ad k) (cp k) (C.by_ k)
  sep : ∀ i j, i < 10 → j < 10 → i ≠ j → ∀ b, blk (ad i) b → ¬ blk (ad j) b
  own : ∀ i, i < 10 → ¬ blk (ad i) p
  fp : F p
  fb : ∀ i b, i < 10 → blk (ad i) b → F b
  inn : ∀ b, F b → b < W.heap.size

/-- a context lies at p, in the blocks of F -/
def Cx (W : World) (F : Nat → Prop) (p : Nat) (C : Ctx) : Prop := ∃ ad cp, CtxAt W F p ad cp C

theorem CtxAt.cx {W : World} {F : Nat → Prop} {p : Nat} {ad : Nat → Option Addr} {cp : Nat → Nat} {C : Ctx} (h : CtxAt W F p ad cp C) : Cx W F p C := ⟨ad, cp, h⟩

section
variable {W W' : World} {F G : Nat → Prop} {p : Nat} {ad : Nat → Option Addr} {cp : Nat → Nat} {C : Ctx}

theorem CtxAt.only (h : CtxAt W F p ad cp C) (ho : Only G W W') (hn : ∀ b, F b → ¬ G b) : CtxAt W' F p ad cp C := by
  have hp := hn p h.fp
  refine ⟨fun k hk => ?_, fun k hk => ?_, fun k hk => ?_, ?_, fun j => ?_, Nat.lt_of_lt_of_le h.lt ho.size, fun k hk => (h.bs k hk).only ho (fun b hb => hn b (h.fb k b hk hb)), h.sep, h.own, h.fp, h.fb, fun b hb => Nat.lt_of_lt_of_le (h.inn b hb) ho.size⟩
  · rw [ho.cell h.lt hp]; exact h.wd k hk
  · rw [ho.cell h.lt hp]; exact h.ht k hk
  · rw [ho.cell h.lt hp]; exact h.sl k hk
  · rw [ho.cell h.lt hp]; exact h.du
  · rw [ho.frozen h.lt hp]; exact h.fz j

theorem CtxAt.below (h : CtxAt W F p ad cp C) (hb : Below W.heap.size W W') : CtxAt W' F p ad cp C := h.only (G := fun _ => False) (Only.of_below hb) (fun _ _ g => g)
theorem CtxAt.alloc (h : CtxAt W F p ad cp C) (o : Obj) : CtxAt (W.alloc o) F p ad cp C := h.below ((Below.refl _ _).alloc (Nat.le_refl _) o)
theorem CtxAt.drewN (h : CtxAt W F p ad cp C) (n : Nat) : CtxAt (W.drewN n) F p ad cp C := h.below ⟨rfl, rfl, rfl, Nat.le_refl _, fun _ _ => rfl⟩
theorem Cx.only (h : Cx W F p C) (ho : Only G W W') (hn : ∀ b, F b → ¬ G b) : Cx W' F p C := by obtain ⟨ad, cp, h⟩ := h; exact ⟨ad, cp, h.only ho hn⟩
theorem Cx.below (h : Cx W F p C) (hb : Below W.heap.size W W') : Cx W' F p C := by obtain ⟨ad, cp, h⟩ := h; exact ⟨ad, cp, h.below hb⟩

theorem addr_ne {b o o' : Nat} (h : o ≠ o') : (⟨b, o, none⟩ : Addr) ≠ ⟨b, o', none⟩ := by intro e; injection e with _ e2; exact h e2

theorem sz_setCell (W : World) (a : Addr) (v : Value) : (W.setCell a v).heap.size = W.heap.size := by simp [World.setCell]

theorem CtxAt.setDue (h : CtxAt W F p ad cp C) (d : Int) : CtxAt (W.setCell ⟨p, 25, none⟩ (.int .i64 d)) F p ad cp { C with due := d } := by
  refine ⟨fun k hk => ?_, fun k hk => ?_, fun k hk => ?_, ?_, fun j => ?_, by rw [sz_setCell]; exact h.lt, fun k hk => (h.bs k hk).setCell (h.own k hk) _, h.sep, h.own, h.fp, h.fb, fun b hb => by rw [sz_setCell]; exact h.inn b hb⟩
  · rw [World.cell?_setCell_other _ _ _ _ (addr_ne (by omega))]; exact h.wd k hk
  · rw [World.cell?_setCell_other _ _ _ _ (addr_ne (by omega))]; exact h.ht k hk
  · rw [World.cell?_setCell_other _ _ _ _ (addr_ne (slot_ne25 hk).symm)]; exact h.sl k hk
  · exact World.cell?_setCell_same _ _ _ h.du
  · rw [World.frozen?_setCell]; exact h.fz j

/-- the footprint, and what has been made since -/
def more (F : Nat → Prop) (W W' : World) : Nat → Prop := fun b => F b ∨ (W.heap.size ≤ b ∧ b < W'.heap.size)

/-- slice number k is another one now: its bytes lie in the old one's block, or in a new one -/
theorem CtxAt.putIn (h : CtxAt W F p ad cp C) {k : Nat} (hk : k < 10) (ho : Only (blk (ad k)) W W') {ao : Option Addr} {cap n : Nat} {l : List UInt8} (hb : BS W' ao cap l) (hn : n = l.length) {F' : Nat → Prop} (hbk : ∀ b, blk ao b → blk (ad k) b ∨ ¬ F b) (hF : ∀ b, F b → F' b) (hFa : ∀ b, blk ao b → F' b) (hin : ∀ b, F' b → b < W'.heap.size) :
    CtxAt (W'.setCell ⟨p, slot k, none⟩ (.slice ao n cap)) F' p (updA ad k ao) (updA cp k cap) { C with by_ := updA C.by_ k l } := by
  subst hn
  have hp : ¬ blk (ad k) p := h.own k hk
  have hpo : ¬ blk ao p := fun g => by rcases hbk p g with g | g; exact hp g; exact g h.fp
  refine ⟨fun j hj => ?_, fun j hj => ?_, fun j hj => ?_, ?_, fun j => ?_, by rw [sz_setCell]; exact Nat.lt_of_lt_of_le h.lt ho.size, fun j hj => ?_, fun i j hi hj hij b => ?_, fun i hi => ?_, hF p h.fp, fun i b hi => ?_, fun b hb' => by rw [sz_setCell]; exact hin b hb'⟩
  · rw [World.cell?_setCell_other _ _ _ _ (addr_ne (slot_nw hj)), ho.cell h.lt hp]; exact h.wd j hj
  · rw [World.cell?_setCell_other _ _ _ _ (addr_ne (slot_nh hk hj)), ho.cell h.lt hp]; exact h.ht j hj
  · by_cases e : j = k
    · subst e
      rw [updA_same, updA_same]
      show _ = some (Value.slice ao (updA C.by_ j l j).length cap)
      rw [updA_same]
      exact World.cell?_setCell_same _ _ _ ((ho.cell h.lt hp _).trans (h.sl j hj))
    · rw [updA_other _ _ e, updA_other _ _ e, World.cell?_setCell_other _ _ _ _ (addr_ne (fun g => e (slot_inj hk hj g).symm)), ho.cell h.lt hp]
      show _ = some (Value.slice (ad j) (updA C.by_ k l j).length (cp j))
      rw [updA_other _ _ e]
      exact h.sl j hj
  · rw [World.cell?_setCell_other _ _ _ _ (addr_ne (slot_ne25 hk)), ho.cell h.lt hp]; exact h.du
  · rw [World.frozen?_setCell, ho.frozen h.lt hp]; exact h.fz j
  · by_cases e : j = k
    · subst e
      rw [updA_same, updA_same]
      show BS _ ao cap (updA C.by_ j l j)
      rw [updA_same]
      exact hb.setCell hpo _
    · rw [updA_other _ _ e, updA_other _ _ e]
      show BS _ (ad j) (cp j) (updA C.by_ k l j)
      rw [updA_other _ _ e]
      exact ((h.bs j hj).only ho (fun b g => h.sep j k hj hk e b g)).setCell (h.own j hj) _
  · by_cases ei : i = k
    · subst ei
      rw [updA_same, updA_other _ _ (fun g => hij g.symm)]
      intro g1 g2
      rcases hbk b g1 with g | g
      · exact h.sep i j hi hj hij b g g2
      · exact g (h.fb j b hj g2)
    · by_cases ej : j = k
      · subst ej
        rw [updA_same, updA_other _ _ ei]
        intro g1 g2
        rcases hbk b g2 with g | g
        · exact h.sep i j hi hj hij b g1 g
        · exact g (h.fb i b hi g1)
      · rw [updA_other _ _ ei, updA_other _ _ ej]; exact h.sep i j hi hj hij b
  · by_cases e : i = k
    · subst e; rw [updA_same]; exact hpo
    · rw [updA_other _ _ e]; exact h.own i hi
  · by_cases e : i = k
    · subst e
      rw [updA_same]
      exact hFa b
    · rw [updA_other _ _ e]; exact fun g => hF b (h.fb i b hi g)

theorem CtxAt.put (h : CtxAt W F p ad cp C) {k : Nat} (hk : k < 10) (ho : Only (blk (ad k)) W W') {ao : Option Addr} {cap n : Nat} {l : List UInt8} (hb : BS W' ao cap l) (hn : n = l.length) (hbk : ∀ b, blk ao b → blk (ad k) b ∨ W.heap.size ≤ b) :
    CtxAt (W'.setCell ⟨p, slot k, none⟩ (.slice ao n cap)) (more F W W') p (updA ad k ao) (updA cp k cap) { C with by_ := updA C.by_ k l } :=
  h.putIn hk ho hb hn (fun b g => (hbk b g).imp id (fun g' f => by have := h.inn b f; omega)) (fun _ g => .inl g)
    (fun b g => by rcases hbk b g with g' | g'; exact .inl (h.fb k b hk g'); exact .inr ⟨g', hb.lt g⟩)
    (fun b g => by rcases g with g | g; exact Nat.lt_of_lt_of_le (h.inn b g) ho.size; exact g.2)

/-- .. with its width and height (an object) -/
theorem CtxAt.setWd (h : CtxAt W F p ad cp C) {k : Nat} (hk : k < 8) (d : Int) : CtxAt (W.setCell ⟨p, k * 3, none⟩ (.int .i64 d)) F p ad cp { C with wd := updA C.wd k d } := by
  refine ⟨fun j hj => ?_, fun j hj => ?_, fun j hj => ?_, ?_, fun j => ?_, by rw [sz_setCell]; exact h.lt, fun j hj => (h.bs j hj).setCell (h.own j hj) _, h.sep, h.own, h.fp, h.fb, fun b hb => by rw [sz_setCell]; exact h.inn b hb⟩
  · by_cases e : j = k
    · subst e
      show _ = some (Value.int .i64 (updA C.wd j d j))
      rw [updA_same]; exact World.cell?_setCell_same _ _ _ (h.wd j hj)
    · show _ = some (Value.int .i64 (updA C.wd k d j))
      rw [updA_other _ _ e, World.cell?_setCell_other _ _ _ _ (addr_ne (by omega))]; exact h.wd j hj
  · rw [World.cell?_setCell_other _ _ _ _ (addr_ne (by omega))]; exact h.ht j hj
  · rw [World.cell?_setCell_other _ _ _ _ (addr_ne (slot_nw hk).symm)]; exact h.sl j hj
  · rw [World.cell?_setCell_other _ _ _ _ (addr_ne (by omega))]; exact h.du
  · rw [World.frozen?_setCell]; exact h.fz j

theorem CtxAt.setHt (h : CtxAt W F p ad cp C) {k : Nat} (hk : k < 8) (d : Int) : CtxAt (W.setCell ⟨p, k * 3 + 1, none⟩ (.int .i64 d)) F p ad cp { C with ht := updA C.ht k d } := by
  refine ⟨fun j hj => ?_, fun j hj => ?_, fun j hj => ?_, ?_, fun j => ?_, by rw [sz_setCell]; exact h.lt, fun j hj => (h.bs j hj).setCell (h.own j hj) _, h.sep, h.own, h.fp, h.fb, fun b hb => by rw [sz_setCell]; exact h.inn b hb⟩
  · rw [World.cell?_setCell_other _ _ _ _ (addr_ne (by omega))]; exact h.wd j hj
  · by_cases e : j = k
    · subst e
      show _ = some (Value.int .i64 (updA C.ht j d j))
      rw [updA_same]; exact World.cell?_setCell_same _ _ _ (h.ht j hj)
    · show _ = some (Value.int .i64 (updA C.ht k d j))
      rw [updA_other _ _ e, World.cell?_setCell_other _ _ _ _ (addr_ne (by omega))]; exact h.ht j hj
  · rw [World.cell?_setCell_other _ _ _ _ (addr_ne (slot_nh hj hk).symm)]; exact h.sl j hj
  · rw [World.cell?_setCell_other _ _ _ _ (addr_ne (by omega))]; exact h.du
  · rw [World.frozen?_setCell]; exact h.fz j

/-- an object is laid down: width, height, bytes -/
theorem CtxAt.putObj (h : CtxAt W F p ad cp C) {k : Nat} (hk : k < 8) (ho : Below W.heap.size W W') {ao : Option Addr} {cap n : Nat} {l : List UInt8} (hb : BS W' ao cap l) (hn : n = l.length) (hbk : ∀ b, blk ao b → W.heap.size ≤ b) (a c : Int) :
    CtxAt (((W'.setCell ⟨p, k * 3, none⟩ (.int .i64 a)).setCell ⟨p, k * 3 + 1, none⟩ (.int .i64 c)).setCell ⟨p, k * 3 + 2, none⟩ (.slice ao n cap)) (more F W W') p (updA ad k ao) (updA cp k cap) { C with wd := updA C.wd k a, ht := updA C.ht k c, by_ := updA C.by_ k l } := by
  have hlt := h.lt
  have hpo : ¬ blk ao p := fun g => by have := hbk p g; omega
  have h1 := ((h.below ho).setWd hk a).setHt hk c
  have e : slot k = k * 3 + 2 := by unfold slot; rw [if_pos hk]
  have := h1.putIn (k := k) (F' := more F W W') (by omega) (Only.refl _ _) ((hb.setCell hpo _).setCell (p := ⟨p, k * 3 + 1, none⟩) hpo _) hn (fun b g => .inr (fun f => by have := hbk b g; have := h.inn b f; omega))
    (fun _ g => .inl g) (fun b g => .inr ⟨hbk b g, hb.lt g⟩) (fun b g => by rw [sz_setCell, sz_setCell]; rcases g with g | g; exact Nat.lt_of_lt_of_le (h.inn b g) ho.size; exact g.2)
  rw [e] at this
  exact this

/-- a call has turned the context at p into C', and nothing else that was there -/
def Goes (F : Nat → Prop) (w w' : World) (p : Nat) (C' : Ctx) : Prop := Only F w w' ∧ ∃ F', Cx w' F' p C' ∧ ∀ b, F' b → F b ∨ w.heap.size ≤ b

theorem Goes.then {F F1 : Nat → Prop} {w w1 w2 : World} {p : Nat} {C' : Ctx} (h : Only F w w1) (h1 : ∀ b, F1 b → F b ∨ w.heap.size ≤ b) (g : Goes F1 w1 w2 p C') : Goes F w w2 p C' := by
  obtain ⟨g1, F2, g2, g3⟩ := g
  refine ⟨h.trans g1 h1, F2, g2, fun b hb => ?_⟩
  rcases g3 b hb with k | k
  · exact h1 b k
  · have := h.size; exact .inr (by omega)

theorem Goes.of_below {F : Nat → Prop} {w w1 w2 : World} {p : Nat} {C' : Ctx} (h : Below w.heap.size w w1) (g : Goes F w1 w2 p C') : Goes F w w2 p C' :=
  Goes.then (Only.of_below h) (fun _ g => .inl g) g

theorem Goes.stay {F : Nat → Prop} {w w' : World} {p : Nat} {C : Ctx} (h : Cx w F p C) (hb : Below w.heap.size w w') : Goes F w w' p C :=
  ⟨Only.of_below hb, F, h.below hb, fun _ g => .inl g⟩

theorem Goes.put {k : Nat} {ao : Option Addr} {cap n : Nat} {l : List UInt8} (h : CtxAt W F p ad cp C) (hk : k < 10) (ho : Only (blk (ad k)) W W') (hb : BS W' ao cap l) (hn : n = l.length) (hbk : ∀ b, blk ao b → blk (ad k) b ∨ W.heap.size ≤ b) :
    Goes F W (W'.setCell ⟨p, slot k, none⟩ (.slice ao n cap)) p { C with by_ := updA C.by_ k l } :=
  ⟨(ho.mono (fun b _ g => h.fb k b hk g)).setCell (.inl h.fp) _, _, (h.put hk ho hb hn hbk).cx, fun _ g => g.imp id And.left⟩

theorem Goes.putObj {k : Nat} {ao : Option Addr} {cap n : Nat} {l : List UInt8} (h : CtxAt W F p ad cp C) (hk : k < 8) (ho : Below W.heap.size W W') (hb : BS W' ao cap l) (hn : n = l.length) (hbk : ∀ b, blk ao b → W.heap.size ≤ b) (a c : Int) :
    Goes F W (((W'.setCell ⟨p, k * 3, none⟩ (.int .i64 a)).setCell ⟨p, k * 3 + 1, none⟩ (.int .i64 c)).setCell ⟨p, k * 3 + 2, none⟩ (.slice ao n cap)) p { C with wd := updA C.wd k a, ht := updA C.ht k c, by_ := updA C.by_ k l } :=
  ⟨(((Only.of_below ho).setCell (.inl h.fp) _).setCell (.inl h.fp) _).setCell (.inl h.fp) _, _, (h.putObj hk ho hb hn hbk a c).cx, fun _ g => g.imp id And.left⟩

theorem Goes.setDue (h : CtxAt W F p ad cp C) (d : Int) : Goes F W (W.setCell ⟨p, 25, none⟩ (.int .i64 d)) p { C with due := d } :=
  ⟨(Only.refl _ _).setCell (.inl h.fp) _, F, (h.setDue d).cx, fun _ g => .inl g⟩

theorem Cx.drew (h : Cx W F p C) : Cx W.drew F p C := by obtain ⟨ad, cp, h⟩ := h; exact ⟨ad, cp, h.drewN 1⟩
theorem Goes.drew {w w' : World} {C' : Ctx} (h : Goes F w w' p C') : Goes F w w'.drew p C' := by
  obtain ⟨h1, F', h2, h3⟩ := h
  exact ⟨h1.drew, F', h2.drew, h3⟩

end
end Go.Proofs.Ytibliodajabhbaa
