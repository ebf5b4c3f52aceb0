/- Walks: what a Draw makes of an object's bytes, and what it costs (P13). -/
import Derived.Test.YtbedkfgdhaajaabDrawing
import Derived.Test.YtbedkfgdhaajaabRun
import Derived.Deep.RegionHeld3
namespace Go.Proofs.Ytbedkfgdhaajaab
open Go.RowKit

/-- what holds of a Draw without an error -/
structure DrawOk (R : Rm) (m : List UInt8) : Prop where
  t1 : thr R (bn m 1) = true
  pr : hsC R (bn m 2) = true
  t3 : thr R (bn m 3) = true
  ne : nea (crn m 5) (crn m 7) (crn m 9) (crn m 11) (crn m 13) (crn m 15) = true

theorem der_ok {R : Rm} {m : List UInt8} (h : der R m = 0) : DrawOk R m := by
  unfold der at h
  split at h
  · omega
  · rename_i h1
    split at h
    · omega
    · rename_i h2
      split at h
      · omega
      · rename_i h3
        split at h
        · rename_i h4
          refine ⟨by simpa using h1, ?_, by simpa using h3, ?_⟩
          · unfold hsC
            rw [Bool.and_eq_true]
            refine ⟨decide_eq_true (by omega), ?_⟩
            cases q : R.has (bn m 2)
            · exact absurd (.inr q) h2
            · rfl
          · unfold nea; rw [h4.1, h4.2.1, h4.2.2]; rfl
        · omega

theorem bytes_at (F M : Nat → Prop) (p : Nat) (g : Gst) (ht : Nat → Int) (d : Int) (w : World) (n : Nat) (s : ByteArray) (hC : Cx w F M p (mk g ht d)) (hs : str (obs g.rm n) = s) : Calls Try.prog 73 #[.pointer (some ⟨p, 0, none⟩), .int .i64 n] w fun e w' => e = .returned (.string s) ∧ w' = w := by
  have := bytes_g F M p g ht d w hC n; rw [hs] at this; exact this

/-- what a Draw asks for lies in block b -/
def DC (W : World) (b : Nat) (m : List UInt8) : Prop :=
  b < W.heap.size ∧ W.cell? ⟨b, 0, none⟩ = some (.int .i64 (bn m 1)) ∧ W.cell? ⟨b, 1, none⟩ = some (.int .i64 (bn m 2)) ∧ W.cell? ⟨b, 2, none⟩ = some (.int .i64 (bn m 3)) ∧ W.cell? ⟨b, 3, none⟩ = some (.int .i64 (bn m 4)) ∧ W.cell? ⟨b, 4, none⟩ = some (.int .i64 (crn m 5)) ∧
  W.cell? ⟨b, 5, none⟩ = some (.int .i64 (crn m 7)) ∧ W.cell? ⟨b, 6, none⟩ = some (.int .i64 (crn m 9)) ∧ W.cell? ⟨b, 7, none⟩ = some (.int .i64 (crn m 11)) ∧ W.cell? ⟨b, 8, none⟩ = some (.int .i64 (crn m 13)) ∧ W.cell? ⟨b, 9, none⟩ = some (.int .i64 (crn m 15))
theorem DC.only {W W' : World} {b : Nat} {m : List UInt8} {G : Nat → Prop} (h : DC W b m) (ho : Only G W W') (hn : ¬ G b) : DC W' b m := by
  obtain ⟨h, k0, k1, k2, k3, k4, k5, k6, k7, k8, k9⟩ := h
  exact ⟨Nat.lt_of_lt_of_le h ho.size, (ho.cell h hn _).trans k0, (ho.cell h hn _).trans k1, (ho.cell h hn _).trans k2, (ho.cell h hn _).trans k3, (ho.cell h hn _).trans k4, (ho.cell h hn _).trans k5, (ho.cell h hn _).trans k6, (ho.cell h hn _).trans k7, (ho.cell h hn _).trans k8, (ho.cell h hn _).trans k9⟩
theorem DC.below {W W' : World} {b : Nat} {m : List UInt8} (h : DC W b m) (hb : Below W.heap.size W W') : DC W' b m := h.only (G := fun _ => False) (Only.of_below hb) (fun q => q)

/-- the program's code lies in block b -/
def CC (W : World) (b : Nat) (s : ByteArray) : Prop := b < W.heap.size ∧ W.cell? ⟨b, 1, none⟩ = some (.string s)
theorem CC.only {W W' : World} {b : Nat} {s : ByteArray} {G : Nat → Prop} (h : CC W b s) (ho : Only G W W') (hn : ¬ G b) : CC W' b s := ⟨Nat.lt_of_lt_of_le h.1 ho.size, (ho.cell h.1 hn _).trans h.2⟩
theorem CC.below {W W' : World} {b : Nat} {s : ByteArray} (h : CC W b s) (hb : Below W.heap.size W W') : CC W' b s := h.only (G := fun _ => False) (Only.of_below hb) (fun q => q)

theorem width_at (F M : Nat → Prop) (p : Nat) (g : Gst) (ht : Nat → Int) (d : Int) (n : Nat) (D : Int) (w : World) (hC : Cx w F M p (mk g ht d)) (hn : thr g.rm n = true) (hD : g.rm.wd n = D) :
    Calls Try.prog 72 #[.pointer (some ⟨p, 0, none⟩), .int .i64 n] w fun e w' => e = .returned (.int .i64 D) ∧ w' = w := by
  have := width_g F M p g ht d w hC n hn; rw [hD] at this; exact this

theorem program_at (F M : Nat → Prop) (p : Nat) (g : Gst) (ht : Nat → Int) (d : Int) (n : Nat) (cd : ByteArray) (w : World) (hC : Cx w F M p (mk g ht d)) (hc : str (cdC g.rm n) = cd) :
    Calls Try.prog 71 #[.pointer (some ⟨p, 0, none⟩), .int .i64 n] w fun e w' => e = .returned (.agg #[.bool (hsC g.rm n), .string cd]) ∧ Below w.heap.size w w' := by
  have := programOf_any F M p g ht d n w hC; rw [hc] at this; exact this

theorem run_at (s : ByteArray) (x y old col v st : Int) (ao : Option Addr) (cp n : Nat) (tx : ByteArray) (w : World) (hs : (ver s).1 = 0) (ht : BS w ao cp tx.data.toList) (hn : n = tx.size) (h1 : bytey x) (h2 : bytey y) (h3 : bytey old) (h4 : bytey col) (hv : (sh s tx 64 (reg0 x y old col) 0).1 = v) (hst : (sh s tx 64 (reg0 x y old col) 0).2 = st) :
    Calls Try.prog 59 #[.string s, .agg #[.int .i64 x, .int .i64 y, .int .i64 old, .int .i64 col], .slice ao n cp] w fun e w' => e = .returned (.tuple #[.int .i64 v, .int .i64 st]) ∧ Below w.heap.size w w' := by
  subst hn
  have := run_any s x y old col ao cp tx w (ver_good hs).1 (ver_good hs).2 ht h1 h2 h3 h4
  rw [hv, hst] at this
  exact this

theorem cover_at (xa ya xb yb xc yc x y : Int) (b : Bool) (w : World) (hn : nea xa ya xb yb xc yc = true) (h1 : 0 ≤ x) (h2 : x < 24) (h3 : 0 ≤ y) (h4 : y < 24) (hb : cov xa ya xb yb xc yc x y = b) :
    Calls Try.prog 41 #[.agg #[.int .i64 xa, .int .i64 ya, .int .i64 xb, .int .i64 yb, .int .i64 xc, .int .i64 yc], .int .i64 x, .int .i64 y] w fun e w' => e = .returned (.tuple #[.bool b, .int .i64 0]) ∧ Below w.heap.size w w' := by
  have := cover_in xa ya xb yb xc yc x y w
  obtain ⟨k0, k1, k2⟩ := nea_parts hn
  rw [cvr_yes k0 k1 k2 (decide_eq_true ⟨h1, h2, h3, h4⟩), hb] at this
  exact this

theorem wrap_bn (l : List UInt8) (k : Nat) : IntKind.i64.wrap (bn l k : Int) = bn l k := by
  have := bn_le l k
  rw [IntKind.wrap_i64]
  omega

theorem pix_kept {wr w8 : World} {t : TypeId} {a b c e : Value} (hb : Below (wr.alloc (.cells #[a, b, c, e] t)).heap.size (wr.alloc (.cells #[a, b, c, e] t)).drew w8) :
    wr.heap.size < w8.heap.size ∧ w8.cell? ⟨wr.heap.size, 0, none⟩ = some a ∧ w8.cell? ⟨wr.heap.size, 1, none⟩ = some b ∧ w8.cell? ⟨wr.heap.size, 2, none⟩ = some c ∧ w8.cell? ⟨wr.heap.size, 3, none⟩ = some e ∧ Below wr.heap.size wr w8 := by
  have hs := hb.size
  simp at hs
  refine ⟨by omega, ?_, ?_, ?_, ?_, (((Below.refl wr.heap.size wr).alloc (Nat.le_refl _) _).drew).trans (hb.mono (by simp))⟩
  all_goals
    rw [hb.cell (by simp)]
    simp [go_sem]

set_option maxRecDepth 8000 in
set_option maxHeartbeats 2000000 in
theorem drawn_any (F M : Nat → Prop) (p : Nat) (g : Gst) (ht : Nat → Int) (d : Int) (ao : Option Addr) (cap : Nat) (m : List UInt8) (w : World) (hC : Cx w F M p (mk g ht d)) (hR : okR g.rm) (hB : BS w ao cap m) (h0 : der g.rm m = 0) :
    Calls Try.prog 54 #[.pointer (some ⟨p, 0, none⟩), .slice ao m.length cap] w fun e w' =>
      (∃ ao' cap', e = .returned (.tuple #[.slice ao' (dst g.rm m (g.rm.bs (bn m 1)).length).1.length cap', .int .i64 (dst g.rm m (g.rm.bs (bn m 1)).length).2]) ∧ BS w' ao' cap' (dst g.rm m (g.rm.bs (bn m 1)).length).1 ∧ ∀ b, blk ao' b → w.heap.size ≤ b) ∧ Below w.heap.size w w' := by
  have HC : Hid (Cx w F M p (mk g ht d)) := hC
  have HB : Hid (BS w ao cap m) := hB
  have hD := der_ok h0
  have HD : Hid (DrawOk g.rm m) := hD
  have h8 : bn m 1 < 8 := (of_decide_eq_true hD.t1 : _ ∧ _).1
  have h38 : bn m 3 < 8 := (of_decide_eq_true hD.t3 : _ ∧ _).1
  obtain ⟨ta, hta⟩ : ∃ ta, str (obs g.rm (bn m 1)) = ta := ⟨_, rfl⟩
  obtain ⟨tb, htb⟩ : ∃ tb, str (obs g.rm (bn m 3)) = tb := ⟨_, rfl⟩
  have HTA : Hid (str (obs g.rm (bn m 1)) = ta) := hta
  have HTB : Hid (str (obs g.rm (bn m 3)) = tb) := htb
  have za : ta.size ≤ 576 := by rw [← hta, str_size, obs_lo h8]; exact hR.len _ h8
  have zb : tb.size ≤ 576 := by rw [← htb, str_size, obs_lo h38]; exact hR.len _ h38
  obtain ⟨cd, hcd⟩ : ∃ cd, str (cdC g.rm (bn m 2)) = cd := ⟨_, rfl⟩
  have HCD : Hid (str (cdC g.rm (bn m 2)) = cd) := hcd
  obtain ⟨D, hDd⟩ : ∃ D, g.rm.wd (bn m 1) = D := ⟨_, rfl⟩
  have HDD : Hid (g.rm.wd (bn m 1) = D) := hDd
  have cva := conv_run ta (by omega)
  have cvb := conv_run tb (by omega)
  have CVA : Hid (∀ W : World, BS (cvW W ta) (some ⟨W.heap.size, 0, none⟩) (cvC W ta) ta.data.toList ∧ Below W.heap.size W (cvW W ta)) := fun W => conv_bs W ta (by omega)
  have CVB : Hid (∀ W : World, BS (cvW W tb) (some ⟨W.heap.size, 0, none⟩) (cvC W tb) tb.data.toList ∧ Below W.heap.size W (cvW W tb)) := fun W => conv_bs W tb (by omega)
  have hlt := hC.lt
  clear hC hB hD hta htb hcd hDd
  go_enter Try.func54, Try.ntmps54
  go_wp2_with (first
    | (go_at_call 70; refine (drawingOf_any _ _ _ _ HB.out).mono ?_; unfold dAgg; rintro e w1 ⟨rfl, hb1⟩; have HC1 : Hid (Cx w1 F M p (mk g ht d)) := HC.out.below hb1; have hlt1 := HC1.out.lt; have BB : Hid (Below w.heap.size w w1) := hb1; clear hb1)
    | (go_at_call 71; refine (program_at F M p g ht d _ cd _ (HC1.out.alloc _) HCD.out).mono ?_; rintro e w3 ⟨rfl, hb3⟩; have HC3 : Hid (Cx w3 F M p (mk g ht d)) := (HC1.out.alloc _).below hb3; have hlt3 := HC3.out.lt; have dc3 : DC w3 w1.heap.size m := draw_cells (n := 0) hb3; have DC3 : Hid (DC w3 w1.heap.size m) := dc3; obtain ⟨z3, k0, _⟩ := dc3; have BB3 : Hid (Below w.heap.size w w3) := (BB.out.alloc BB.out.size _).trans (hb3.mono (by have := BB.out.size; simp; omega)); clear hb3))
  go_quiet (first | (go_at_call 72; exact Calls.quiet_of_same (width_at F M p g ht d _ D _ ((HC3.out.alloc _).drewN _) HD.out.t1 HDD.out)))
  go_wp2
  refine wp_region_held_drew (S := fun W' => W'.cell? ⟨w1.heap.size, 0, none⟩ = some (.int .i64 (bn m 1))) (by kernel_rfl) (by go_simp) (fun hHeld => ?_)
  refine wpAnyH_take (i := 0) (oi := { dst := some 31, op := Op.move (Operand.tmp 0), type := 62, pos := "draw.go:62", after := #[], guard := none }) (v := .pointer (some ⟨p, 0, none⟩)) rfl (by kernel_rfl) (by kernel_rfl) (by kernel_rfl) (fun _ _ _ h => h) (Or.inl ⟨by rfl, fun W hW => by go_simp⟩) hHeld ?_
  refine wpAnyH_take (i := 1) (oi := { dst := some 32, op := Op.nilCheck (Operand.tmp 31), type := 0, pos := "draw.go:62", after := #[{ on := 0, ground := Ground.data }], guard := none }) (v := .pointer (some ⟨p, 0, none⟩)) rfl (by kernel_rfl) (by kernel_rfl) (by kernel_rfl) (fun _ _ _ h => h) (Or.inl ⟨by rfl, fun W hW => by go_simp⟩) hHeld ?_
  refine wpAnyH_take (i := 2) (oi := { dst := some 33, op := Op.fieldAddr 80 (Operand.tmp 32) 0, type := 0, pos := "draw.go:62", after := #[{ on := 1, ground := Ground.data }], guard := none }) (v := .pointer (some ⟨p, 0, none⟩)) rfl (by kernel_rfl) (by kernel_rfl) (by kernel_rfl) (fun _ _ _ h => h) (Or.inl ⟨by rfl, fun W hW => by go_simp⟩) hHeld ?_
  refine wpAnyH_take (i := 3) (oi := { dst := some 34, op := Op.fieldAddr 134 (Operand.tmp 6) 0, type := 0, pos := "draw.go:62", after := #[], guard := none }) (v := .pointer (some ⟨w1.heap.size, 0, none⟩)) rfl (by kernel_rfl) (by kernel_rfl) (by kernel_rfl) (fun _ _ _ h => h) (Or.inl ⟨by rfl, fun W hW => by go_simp⟩) hHeld ?_
  refine wpAnyH_take (i := 4) (oi := { dst := some 35, op := Op.load 3 (Operand.tmp 34), type := 3, pos := "draw.go:62", after := #[{ on := 3, ground := Ground.data }], guard := none }) (v := .int .i64 (bn m 1)) rfl (by kernel_rfl) (by kernel_rfl) (by kernel_rfl) (fun _ _ _ h => h) (Or.inl ⟨by rfl, fun W hW => by go_simp⟩) hHeld ?_
  simp only [Act.put, List.setIfInBounds_toArray, List.set_cons_zero, List.set_cons_succ]
  refine wpAnyH_ready (rs := [5]) (by kernel_rfl) (by simp) ?_
  refine AllReadyH.cons rfl (fun K hK => ?_) AllReadyH.nil
  go_simp
  (go_at_call 73; refine (bytes_at F M p g ht d _ _ ta (((HC3.out.alloc _).drewN _).drew) HTA.out).mono ?_; rintro e w5 ⟨rfl, hw5⟩; have B5 : Hid (Below w3.heap.size w3 w5) := (by rw [hw5]; exact (below_drewN ((Below.refl _ _).alloc (Nat.le_refl _) _) _).drew); have CC5 : Hid (CC w5 w3.heap.size cd) := (by rw [hw5]; exact ⟨by simp, by simp [go_sem]⟩); have S5 : Hid (w5.heap.size = w3.heap.size + 1) := (by have h : w5.heap.size = w3.heap.size + 1 := (by rw [hw5]; simp); exact h); have DC5 : Hid (DC w5 w1.heap.size m) := DC3.out.below B5.out; have e5 := DC5.out.2.1; have f5 := (DC5.out.below (CVA.out w5).2).2.1; have g5 := (DC5.out.below (CVA.out w5).2).2.2.2.1; have l5 : p < (cvW w5 ta).heap.size := ((HC3.out.below B5.out).below (CVA.out w5).2).lt; clear hw5)
  dsimp only
  refine hK.out _ _ e5 (fun hHeld2 => ?_)
  clear hK K
  refine wpAnyH_ready (rs := [6]) (by kernel_rfl) (by simp) ?_
  refine AllReadyH.cons rfl (fun K hK => ?_) AllReadyH.nil
  go_simp
  refine hK.out _ _ f5 (fun hHeld3 => ?_)
  clear hK K
  refine wpAnyH_take (i := 7) (oi := { dst := some 9, op := Op.assign (Operand.tmp 37), type := 51, pos := "draw.go:62", after := #[{ on := 6, ground := Ground.data }, { on := 5, ground := Ground.chain }, { on := 0, ground := Ground.phase }, { on := 1, ground := Ground.phase }, { on := 2, ground := Ground.phase }, { on := 3, ground := Ground.phase }, { on := 4, ground := Ground.phase }, { on := 5, ground := Ground.phase }, { on := 6, ground := Ground.phase }], guard := none }) (v := .slice (some ⟨w5.heap.size, 0, none⟩) ta.size (cvC w5 ta)) rfl (by kernel_rfl) (by kernel_rfl) (by kernel_rfl) (fun _ _ _ h => h) (Or.inl ⟨by rfl, fun W hW => by go_simp⟩) hHeld3 ?_
  refine wpAnyH_done (by kernel_rfl) ?_ _
  simp only [Act.put, List.setIfInBounds_toArray, List.set_cons_zero, List.set_cons_succ]
  clear hHeld hHeld2 hHeld3
  go_wp2
  refine wp_region_held_drew (S := fun W' => W'.cell? ⟨w1.heap.size, 2, none⟩ = some (.int .i64 (bn m 3))) (by kernel_rfl) (by go_simp) (fun hHeld => ?_)
  refine wpAnyH_take (i := 0) (oi := { dst := some 38, op := Op.move (Operand.tmp 0), type := 62, pos := "draw.go:63", after := #[], guard := none }) (v := .pointer (some ⟨p, 0, none⟩)) rfl (by kernel_rfl) (by kernel_rfl) (by kernel_rfl) (fun _ _ _ h => h) (Or.inl ⟨by rfl, fun W hW => by go_simp⟩) hHeld ?_
  refine wpAnyH_take (i := 1) (oi := { dst := some 39, op := Op.nilCheck (Operand.tmp 38), type := 0, pos := "draw.go:63", after := #[{ on := 0, ground := Ground.data }], guard := none }) (v := .pointer (some ⟨p, 0, none⟩)) rfl (by kernel_rfl) (by kernel_rfl) (by kernel_rfl) (fun _ _ _ h => h) (Or.inl ⟨by rfl, fun W hW => by go_simp⟩) hHeld ?_
  refine wpAnyH_take (i := 2) (oi := { dst := some 40, op := Op.fieldAddr 80 (Operand.tmp 39) 0, type := 0, pos := "draw.go:63", after := #[{ on := 1, ground := Ground.data }], guard := none }) (v := .pointer (some ⟨p, 0, none⟩)) rfl (by kernel_rfl) (by kernel_rfl) (by kernel_rfl) (fun _ _ _ h => h) (Or.inl ⟨by rfl, fun W hW => by go_simp⟩) hHeld ?_
  refine wpAnyH_take (i := 3) (oi := { dst := some 41, op := Op.fieldAddr 134 (Operand.tmp 6) 2, type := 0, pos := "draw.go:63", after := #[], guard := none }) (v := .pointer (some ⟨w1.heap.size, 2, none⟩)) rfl (by kernel_rfl) (by kernel_rfl) (by kernel_rfl) (fun _ _ _ h => h) (Or.inl ⟨by rfl, fun W hW => by go_simp⟩) hHeld ?_
  refine wpAnyH_take (i := 4) (oi := { dst := some 42, op := Op.load 3 (Operand.tmp 41), type := 3, pos := "draw.go:63", after := #[{ on := 3, ground := Ground.data }], guard := none }) (v := .int .i64 (bn m 3)) rfl (by kernel_rfl) (by kernel_rfl) (by kernel_rfl) (fun _ _ _ h => h) (Or.inl ⟨by rfl, fun W hW => by go_simp⟩) hHeld ?_
  simp only [Act.put, List.setIfInBounds_toArray, List.set_cons_zero, List.set_cons_succ]
  refine wpAnyH_ready (rs := [5]) (by kernel_rfl) (by simp) ?_
  refine AllReadyH.cons rfl (fun K hK => ?_) AllReadyH.nil
  go_simp
  (go_at_call 73; refine (bytes_at F M p g ht d _ _ tb (((HC3.out.below B5.out).below (CVA.out w5).2).drew) HTB.out).mono ?_; rintro e w7 ⟨rfl, hw7⟩; have B7 : Hid (Below w5.heap.size w5 w7) := (by rw [hw7]; exact (CVA.out w5).2.drew); have S7 : Hid (w7.heap.size = w5.heap.size + 1) := (by have h : w7.heap.size = w5.heap.size + 1 := (by rw [hw7]; exact cvW_size w5 ta); exact h); have BS7 : Hid (BS w7 (some ⟨w5.heap.size, 0, none⟩) (cvC w5 ta) ta.data.toList) := (by rw [hw7]; exact (CVA.out w5).1.drew); have e7 := (DC5.out.below B7.out).2.2.2.1; have f7 := ((DC5.out.below B7.out).below (CVB.out w7).2).2.2.2.1; clear hw7)
  dsimp only
  refine hK.out _ _ e7 (fun hHeld2 => ?_)
  clear hK K
  refine wpAnyH_ready (rs := [6]) (by kernel_rfl) (by simp) ?_
  refine AllReadyH.cons rfl (fun K hK => ?_) AllReadyH.nil
  go_simp
  refine hK.out _ _ f7 (fun hHeld3 => ?_)
  clear hK K
  refine wpAnyH_take (i := 7) (oi := { dst := some 10, op := Op.assign (Operand.tmp 44), type := 51, pos := "draw.go:63", after := #[{ on := 6, ground := Ground.data }, { on := 5, ground := Ground.chain }, { on := 0, ground := Ground.phase }, { on := 1, ground := Ground.phase }, { on := 2, ground := Ground.phase }, { on := 3, ground := Ground.phase }, { on := 4, ground := Ground.phase }, { on := 5, ground := Ground.phase }, { on := 6, ground := Ground.phase }], guard := none }) (v := .slice (some ⟨w7.heap.size, 0, none⟩) tb.size (cvC w7 tb)) rfl (by kernel_rfl) (by kernel_rfl) (by kernel_rfl) (fun _ _ _ h => h) (Or.inl ⟨by rfl, fun W hW => by go_simp⟩) hHeld3 ?_
  refine wpAnyH_done (by kernel_rfl) ?_ _
  simp only [Act.put, List.setIfInBounds_toArray, List.set_cons_zero, List.set_cons_succ]
  clear hHeld hHeld2 hHeld3
  go_wp2
  have dc6 := (DC5.out.below B7.out).below (CVB.out w7).2
  have DC6 : Hid (DC (cvW w7 tb) w1.heap.size m) := dc6
  have CC6 : Hid (CC (cvW w7 tb) w3.heap.size cd) := (CC5.out.below B7.out).below (CVB.out w7).2
  have BSA : Hid (BS (cvW w7 tb) (some ⟨w5.heap.size, 0, none⟩) (cvC w5 ta) ta.data.toList) := BS7.out.below (CVB.out w7).2
  have BSB : Hid (BS (cvW w7 tb) (some ⟨w7.heap.size, 0, none⟩) (cvC w7 tb) tb.data.toList) := (CVB.out w7).1
  have B6 : Hid (Below w.heap.size w (cvW w7 tb)) := by
    have h5 := B5.out.size
    have h3 := BB3.out.size
    have h7 := S7.out
    exact ((BB3.out.trans (B5.out.mono h3)).trans (B7.out.mono (by omega))).trans ((CVB.out w7).2.mono (by omega))
  have HW : Hid (w.heap.size ≤ w5.heap.size ∧ ¬ w1.heap.size = w5.heap.size ∧ ¬ w3.heap.size = w5.heap.size ∧ ¬ w7.heap.size = w5.heap.size) := by
    have h5 := S5.out
    have h7 := S7.out
    have h3 := BB3.out.size
    exact (⟨by omega, by omega, by omega, by omega⟩ : w.heap.size ≤ w5.heap.size ∧ ¬ w1.heap.size = w5.heap.size ∧ ¬ w3.heap.size = w5.heap.size ∧ ¬ w7.heap.size = w5.heap.size)
  clear dc6
  clear B7 S7 BS7 e7 f7 e5 f5 g5 l5 CVA CVB cva cvb k0
  generalize cvC w5 ta = ca at *
  generalize cvC w7 tb = cb at *
  generalize cvW w7 tb = W6 at *
  have zn : (g.rm.bs (bn m 1)).length = ta.size := by rw [← HTA.out, str_size, obs_lo h8]
  have ZN : Hid ((g.rm.bs (bn m 1)).length = ta.size) := zn
  have hD0 : 0 < D := by rw [← HDD.out]; exact (hR.zer _ h8).2 (of_decide_eq_true HD.out.t1 : _ ∧ _).2
  have hD1 : D ≤ 24 := by rw [← HDD.out]; exact (hR.wde _ h8).2
  have hD2 : (ta.size : Int) ≤ 24 * D := by rw [← HDD.out, ← zn]; exact hR.hig _ h8
  have HV : Hid ((ver cd).1 = 0) := by
    rw [← HCD.out]
    have hp := hsC_yes HD.out.pr
    have h4 : bn m 2 < 4 := by omega
    have : (ver (str (cdC g.rm (bn m 2)))).1 = 0 := by
      rw [show cdC g.rm (bn m 2) = g.rm.cd (bn m 2) from if_pos h4]
      refine hR.cde _ h4 ?_
      cases q : g.rm.has (bn m 2)
      · exact absurd (.inr q) hp
      · rfl
    exact this
  have ECD : Hid (str (g.rm.cd (bn m 2)) = cd) := by
    have hp := hsC_yes HD.out.pr
    rw [← HCD.out, show cdC g.rm (bn m 2) = g.rm.cd (bn m 2) from if_pos (by omega)]
    exact (rfl : str (g.rm.cd (bn m 2)) = _)
  have b4 := bn_le m 4
  clear zn
  go_loopw [11, 12, 13, 14, 15, 16, 17, 18] (fun c i _ _ _ _ _ _ wr => ∃ k : Nat, k ≤ ta.size ∧ i = .int .i64 k ∧ c = .int .i64 (dst g.rm m k).2 ∧ Only (fun b => b = w5.heap.size) W6 wr ∧ BS wr (some ⟨w5.heap.size, 0, none⟩) ca (dst g.rm m k).1) (fun _ i _ _ _ _ _ _ _ => ta.size - (intOf i).toNat)
  case atStart =>
    refine ⟨0, by omega, rfl, rfl, Only.refl _ _, ?_⟩
    have := BSA.out
    rw [← HTA.out, str_data, obs_lo h8] at this
    exact this
  case round =>
    obtain ⟨k, hk, rfl, rfl, hO, hS⟩ := hrel
    have KO : Hid (Only (fun b => b = w5.heap.size) W6 wr) := hO
    have KS : Hid (BS wr (some ⟨w5.heap.size, 0, none⟩) ca (dst g.rm m k).1) := hS
    by_cases hlk : k < ta.size
    · have hlen : (dst g.rm m k).1.length = ta.size := by rw [dst_len]; exact ZN.out
      have HLEN : Hid ((dst g.rm m k).1.length = ta.size) := hlen
      have kd := DC6.out.only hO HW.out.2.1
      have kc := CC6.out.only hO HW.out.2.2.1
      have KD : Hid (DC wr w1.heap.size m) := kd
      have KC : Hid (CC wr w3.heap.size cd) := kc
      have KB : Hid (BS wr (some ⟨w7.heap.size, 0, none⟩) cb tb.data.toList) := BSB.out.only hO (fun b hb => by obtain ⟨a, e, rfl⟩ := hb; cases e; exact HW.out.2.2.2)
      obtain ⟨zd, d0, d1, d2, d3, d4, d5, d6, d7, d8, d9⟩ := kd
      obtain ⟨zc, c1⟩ := kc
      have zp := (hS.hpl _ rfl).2
      simp only at zp
      have cA := hS.hce _ rfl k (by omega)
      simp only [Nat.zero_add] at cA
      rw [← bn_of (by omega)] at cA
      have cbk : (bn (dst g.rm m k).1 k : Int) ≤ 255 := by have := bn_le (dst g.rm m k).1 k; omega
      have wkb := wrap_bn (dst g.rm m k).1 k
      have k0 : (0 : Int) ≤ k := by omega
      have k1 : (k : Int) < ta.size := by omega
      obtain ⟨X, hX⟩ : ∃ X, (k : Int) % D = X := ⟨_, rfl⟩
      obtain ⟨Y, hY⟩ : ∃ Y, (k : Int) / D = Y := ⟨_, rfl⟩
      have hX0 : 0 ≤ X := by rw [← hX]; exact Int.emod_nonneg _ (by omega)
      have hX1 : X < D := by rw [← hX]; exact Int.emod_lt_of_pos _ hD0
      have hY0 : 0 ≤ Y := by rw [← hY]; exact Int.ediv_nonneg (by omega) (by omega)
      have hY1 : Y < 24 := by rw [← hY]; exact Int.ediv_lt_of_lt_mul hD0 (by omega)
      have tX : (k : Int).tmod D = X := by rw [Int.tmod_eq_emod_of_nonneg (by omega)]; exact hX
      have tY : (k : Int).tdiv D = Y := by rw [Int.tdiv_eq_ediv_of_nonneg (by omega)]; exact hY
      have hDne : (D == 0) = false := beq_false_of_ne (by omega)
      have HDP : Hid (dpx g.rm m k = cov (crn m 5) (crn m 7) (crn m 9) (crn m 11) (crn m 13) (crn m 15) X Y) := by
        have e : dpx g.rm m k = cov (crn m 5) (crn m 7) (crn m 9) (crn m 11) (crn m 13) (crn m 15) ((k : Int) % g.rm.wd (bn m 1)) ((k : Int) / g.rm.wd (bn m 1)) := rfl
        rw [HDD.out, hX, hY] at e
        exact e
      obtain ⟨tx, htx⟩ : ∃ tx, str (if bn m 3 = bn m 1 then (dst g.rm m k).1 else g.rm.bs (bn m 3)) = tx := ⟨_, rfl⟩
      have HDS : Hid (dsh g.rm m (dst g.rm m k).1 k = sh cd tx 64 (reg0 X Y (bn (dst g.rm m k).1 k) (bn m 4)) 0) := by
        have e : dsh g.rm m (dst g.rm m k).1 k = sh (str (g.rm.cd (bn m 2))) (str (if bn m 3 = bn m 1 then (dst g.rm m k).1 else g.rm.bs (bn m 3))) 64 (reg0 ((k : Int) % g.rm.wd (bn m 1)) ((k : Int) / g.rm.wd (bn m 1)) (bn (dst g.rm m k).1 k) (bn m 4)) 0 := rfl
        rw [HDD.out, hX, hY, htx, ECD.out] at e
        exact e
      obtain ⟨v, hv⟩ : ∃ v, (sh cd tx 64 (reg0 X Y (bn (dst g.rm m k).1 k) (bn m 4)) 0).1 = v := ⟨_, rfl⟩
      obtain ⟨st, hst⟩ : ∃ st, (sh cd tx 64 (reg0 X Y (bn (dst g.rm m k).1 k) (bn m 4)) 0).2 = st := ⟨_, rfl⟩
      have hsb4 := sh_bd cd tx 64 (reg0 X Y (bn (dst g.rm m k).1 k) (bn m 4)) 0 (Nat.le_refl _)
      rw [hv, hst] at hsb4
      obtain ⟨v0, v1, m2, m3⟩ := hsb4
      have HVV : Hid ((sh cd tx 64 (reg0 X Y (bn (dst g.rm m k).1 k) (bn m 4)) 0).1 = v) := hv
      have HST : Hid ((sh cd tx 64 (reg0 X Y (bn (dst g.rm m k).1 k) (bn m 4)) 0).2 = st) := hst
      have HTX : Hid (str (if bn m 3 = bn m 1 then (dst g.rm m k).1 else g.rm.bs (bn m 3)) = tx) := htx
      have hcb := dst_bd g.rm m k
      obtain ⟨kb0, kb1⟩ := hcb
      obtain ⟨cst, hcst⟩ : ∃ cst, (dst g.rm m k).2 = cst := ⟨_, rfl⟩
      have HCST : Hid ((dst g.rm m k).2 = cst) := hcst
      rw [hcst] at kb0 kb1 ⊢
      have KB2 : Hid (0 ≤ cst ∧ cst ≤ 40000) := (⟨by omega, by omega⟩ : 0 ≤ cst ∧ cst ≤ 40000)
      obtain ⟨cv, hcv⟩ : ∃ cv, cov (crn m 5) (crn m 7) (crn m 9) (crn m 11) (crn m 13) (crn m 15) X Y = cv := ⟨_, rfl⟩
      have HCV : Hid (cov (crn m 5) (crn m 7) (crn m 9) (crn m 11) (crn m 13) (crn m 15) X Y = cv) := hcv
      clear hO hS hX hY hv hst htx hcst hcv hlen kb1 kb0
      go_wp2
      go_region
      cases cv
      · go_wp2_with (go_at_call 41; refine (cover_at _ _ _ _ _ _ _ _ _ _ HD.out.ne (by omega) (by omega) (by omega) (by omega) HCV.out).mono ?_; rintro e w8 ⟨rfl, hb8⟩; obtain ⟨y8, x0, x1, x2, x3, hB8⟩ := pix_kept hb8; have B8 : Hid (Below wr.heap.size wr w8) := hB8; have kd8 := KD.out.below hB8; obtain ⟨zd8, f0, _, f2, _⟩ := kd8; obtain ⟨zc8, g1⟩ := KC.out.below hB8; clear hb8 hB8)
        go_roundw
        case rel =>
          have ed := dst_no (R := g.rm) (s := m) (i := k) (by rw [HDP.out, HCV.out]; simp)
          refine ⟨k + 1, by omega, by go_num, ?_, ?_, ?_⟩
          · rw [ed, HCST.out]
          · exact KO.out.trans (Only.of_below (F := fun x => x = w5.heap.size) B8.out) (fun _ g => .inl g)
          · rw [ed]; exact KS.out.below B8.out
        case measure => simp [intOf]; omega
      · by_cases he : bn m 3 = bn m 1
        · have he' : ((bn m 3 : Int) == (bn m 1 : Int)) = true := by rw [beq_iff_eq]; omega
          have htx : str (dst g.rm m k).1 = tx := by rw [← HTX.out, if_pos he]
          have TXB : Hid (∀ w8, Below wr.heap.size wr w8 → BS w8 (some ⟨w5.heap.size, 0, none⟩) ca tx.data.toList) := fun w8 hb => by rw [← htx]; exact KS.out.below hb
          have TXN : Hid (ta.size = tx.size) := by rw [← htx, str_size, HLEN.out]; exact (rfl : ta.size = ta.size)
          clear he htx
          go_wp2_with (first
            | (go_at_call 41; refine (cover_at _ _ _ _ _ _ _ _ _ _ HD.out.ne (by omega) (by omega) (by omega) (by omega) HCV.out).mono ?_; rintro e w8 ⟨rfl, hb8⟩; obtain ⟨y8, x0, x1, x2, x3, hB8⟩ := pix_kept hb8; have B8 : Hid (Below wr.heap.size wr w8) := hB8; have kd8 := KD.out.below hB8; obtain ⟨zd8, f0, _, f2, _⟩ := kd8; obtain ⟨zc8, g1⟩ := KC.out.below hB8; clear hb8 hB8)
            | (go_at_call 59; refine (run_at _ _ _ _ _ v st _ _ _ tx _ HV.out (TXB.out _ B8.out) TXN.out ⟨by omega, by omega⟩ ⟨by omega, by omega⟩ ⟨by omega, by omega⟩ ⟨by omega, by omega⟩ HVV.out HST.out).mono ?_; rintro e w9 ⟨rfl, hb9⟩; have B9 : Hid (Below wr.heap.size wr w9) := B8.out.trans (hb9.mono (by omega)); have KS9 : Hid (BS w9 (some ⟨w5.heap.size, 0, none⟩) ca (dst g.rm m k).1) := KS.out.below B9.out; have z9 := (KS9.out.hpl _ rfl).2; have s9 := KS9.out.hce _ rfl k (by have := HLEN.out; omega); have r9 := (KS9.out.hro _ rfl k (by have := HLEN.out; have := KS9.out.hle; omega)).2; simp only [Nat.zero_add] at z9 s9 r9; clear hb9))
          go_roundw
          case rel =>
            have ed := dst_yes (R := g.rm) (s := m) (i := k) (by rw [HDP.out]; exact HCV.out)
            rw [HDS.out, HVV.out, HST.out, HCST.out] at ed
            refine ⟨k + 1, by omega, by go_num, ?_, ?_, ?_⟩
            · rw [ed]; exact congrArg (Value.int .i64) (by have := KB2.out; first | omega | (unfold wrap64; omega))
            · exact (KO.out.trans (Only.of_below (F := fun x => x = w5.heap.size) B9.out) (fun _ g => .inl g)).setCell (.inl rfl) _
            · rw [ed]
              have := KS9.out.set (j := k) (by rw [HLEN.out]; exact hlk) (UInt8.ofNat v.toNat) (v := v) (by simp; omega)
              rw [Nat.zero_add] at this
              exact this
          case measure => simp [intOf]; omega
        · have he' : ((bn m 3 : Int) == (bn m 1 : Int)) = false := beq_false_of_ne (by omega)
          have htx : str (g.rm.bs (bn m 3)) = tx := by rw [← HTX.out, if_neg he]
          have etb : tb = tx := by rw [← HTB.out, obs_lo h38, htx]
          have TXB : Hid (∀ w8, Below wr.heap.size wr w8 → BS w8 (some ⟨w7.heap.size, 0, none⟩) cb tx.data.toList) := fun w8 hb => by rw [← etb]; exact KB.out.below hb
          have TXN : Hid (tb.size = tx.size) := by rw [← etb]; exact (rfl : tb.size = tb.size)
          clear he htx etb
          go_wp2_with (first
            | (go_at_call 41; refine (cover_at _ _ _ _ _ _ _ _ _ _ HD.out.ne (by omega) (by omega) (by omega) (by omega) HCV.out).mono ?_; rintro e w8 ⟨rfl, hb8⟩; obtain ⟨y8, x0, x1, x2, x3, hB8⟩ := pix_kept hb8; have B8 : Hid (Below wr.heap.size wr w8) := hB8; have kd8 := KD.out.below hB8; obtain ⟨zd8, f0, _, f2, _⟩ := kd8; obtain ⟨zc8, g1⟩ := KC.out.below hB8; clear hb8 hB8)
            | (go_at_call 59; refine (run_at _ _ _ _ _ v st _ _ _ tx _ HV.out (TXB.out _ B8.out) TXN.out ⟨by omega, by omega⟩ ⟨by omega, by omega⟩ ⟨by omega, by omega⟩ ⟨by omega, by omega⟩ HVV.out HST.out).mono ?_; rintro e w9 ⟨rfl, hb9⟩; have B9 : Hid (Below wr.heap.size wr w9) := B8.out.trans (hb9.mono (by omega)); have KS9 : Hid (BS w9 (some ⟨w5.heap.size, 0, none⟩) ca (dst g.rm m k).1) := KS.out.below B9.out; have z9 := (KS9.out.hpl _ rfl).2; have s9 := KS9.out.hce _ rfl k (by have := HLEN.out; omega); have r9 := (KS9.out.hro _ rfl k (by have := HLEN.out; have := KS9.out.hle; omega)).2; simp only [Nat.zero_add] at z9 s9 r9; clear hb9))
          go_roundw
          case rel =>
            have ed := dst_yes (R := g.rm) (s := m) (i := k) (by rw [HDP.out]; exact HCV.out)
            rw [HDS.out, HVV.out, HST.out, HCST.out] at ed
            refine ⟨k + 1, by omega, by go_num, ?_, ?_, ?_⟩
            · rw [ed]; exact congrArg (Value.int .i64) (by have := KB2.out; first | omega | (unfold wrap64; omega))
            · exact (KO.out.trans (Only.of_below (F := fun x => x = w5.heap.size) B9.out) (fun _ g => .inl g)).setCell (.inl rfl) _
            · rw [ed]
              have := KS9.out.set (j := k) (by rw [HLEN.out]; exact hlk) (UInt8.ofNat v.toNat) (v := v) (by simp; omega)
              rw [Nat.zero_add] at this
              exact this
          case measure => simp [intOf]; omega
    · have e : k = ta.size := by omega
      have e2 : (g.rm.bs (bn m 1)).length = k := by rw [ZN.out, e]
      have k1 : ¬ (k : Int) < ta.size := by omega
      have HE : Hid ((g.rm.bs (bn m 1)).length = k ∧ (dst g.rm m k).1.length = ta.size) := ⟨e2, by rw [dst_len]; exact ZN.out⟩
      clear hO hS e e2
      go_wp2
      go_ret2
      rw [HE.out.1]
      refine ⟨⟨some ⟨w5.heap.size, 0, none⟩, ca, ?_, KS.out, ?_⟩, ?_⟩
      · rw [HE.out.2]; rfl
      · intro b hb
        obtain ⟨a, e, rfl⟩ := hb
        cases e
        exact HW.out.1
      · exact B6.out.trans (KO.out.below B6.out.size (fun x hx => by rw [hx]; exact HW.out.1))

end Go.Proofs.Ytbedkfgdhaajaab
