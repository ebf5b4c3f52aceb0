/- Walks: the document's answer: Run (P8). -/
import Derived.Test.YtbedkfgdhaajaabRefHouse
import Derived.Test.YtbedkfgdhaajaabRefWorks
namespace Go.Proofs.Ytbedkfgdhaajaab
open Go.RowKit

set_option maxHeartbeats 400000 in
theorem hrun_no (h : Nat) (S : Nat → Option Gst) (c f : Int) (w : World) (H : HAt w h S) (hs : hshut S c) :
    Calls Try.prog 48 #[.pointer (some ⟨h, 0, none⟩), .int .i64 c, .int .i64 f] w fun e w' => e = .returned (.tuple #[.int .i64 0, .int .i64 11]) ∧ w' = w := by
  have HH : Hid (HAt w h S) := H
  have HS : Hid (hshut S c) := hs
  clear H hs
  go_enter Try.func48, Try.ntmps48
  go_wp2_with (go_at_call 60; refine (refuses_no h S c _ HH.out HS.out).mono ?_; rintro e w2 ⟨rfl, rfl⟩)
  go_ret2
  exact ⟨rfl, rfl⟩

set_option maxHeartbeats 400000 in
theorem hrun_arg (h : Nat) (S : Nat → Option Gst) (n : Nat) (g : Gst) (f : Int) (w : World) (H : HAt w h S) (hn : n < 8) (hg : S n = some g) (ho : g.op = true) (hf : f < 0 ∨ 1048576 < f) :
    Calls Try.prog 48 #[.pointer (some ⟨h, 0, none⟩), .int .i64 n, .int .i64 f] w fun e w' => e = .returned (.tuple #[.int .i64 0, .int .i64 13]) ∧ w' = w := by
  have HH : Hid (HAt w h S) := H
  have HG : Hid (S n = some g) := hg
  have HO : Hid (g.op = true) := ho
  clear H hg ho
  rcases hf with hf | hf
  · go_enter Try.func48, Try.ntmps48
    go_wp2_with (go_at_call 60; refine (refuses_yes h S n g _ HH.out hn HG.out HO.out).mono ?_; rintro e w2 ⟨rfl, w2e⟩; subst w2)
    go_ret2
    exact ⟨rfl, rfl⟩
  · have hf' : ¬ f < 0 := by omega
    go_enter Try.func48, Try.ntmps48
    go_wp2_with (go_at_call 60; refine (refuses_yes h S n g _ HH.out hn HG.out HO.out).mono ?_; rintro e w2 ⟨rfl, w2e⟩; subst w2)
    go_ret2
    exact ⟨rfl, rfl⟩

/-- the cells of a guest that is not there -/
def zGuest : Array Value := #[.bool false, .int .i64 0, .string ⟨#[]⟩, .int .i64 0, .string ⟨#[]⟩, .int .i64 0, .string ⟨#[]⟩, .int .i64 0, .string ⟨#[]⟩, .int .i64 0, .string ⟨#[]⟩, .int .i64 0, .string ⟨#[]⟩, .int .i64 0, .string ⟨#[]⟩, .int .i64 0, .string ⟨#[]⟩, .bool false, .bool false, .bool false, .bool false, .string ⟨#[]⟩, .string ⟨#[]⟩, .string ⟨#[]⟩, .string ⟨#[]⟩, .string ⟨#[]⟩, .int .i64 0, .string ⟨#[]⟩]

set_option maxRecDepth 8000 in
set_option maxHeartbeats 4000000 in
theorem hrun_ok (HD : DrawsRight) (h : Nat) (S : Nat → Option Gst) (n : Nat) (g : Gst) (f : Int) (w : World) (H : HAt w h S) (hn : n < 8) (hg : S n = some g) (ho : g.op = true) (hG : okG g) (h0 : 0 ≤ f) (h1 : f ≤ 1048576) (N : Nat) (hN : g.wait.length < N) (hl0 : 0 ≤ (dwork N g f).2 ∧ (dwork N g f).2 ≤ f) :
    Calls Try.prog 48 #[.pointer (some ⟨h, 0, none⟩), .int .i64 n, .int .i64 f] w fun e w' => e = .returned (.tuple #[.int .i64 (f - (dwork N g f).2), .int .i64 0]) ∧ HGoes h w w' (updA S n (some (dwork N g f).1)) := by
  have HDR : Hid DrawsRight := HD
  have HH : Hid (HAt w h S) := H
  have HG : Hid (S n = some g) := hg
  have HO : Hid (g.op = true) := ho
  have HK : Hid (okG g) := hG
  have ql := H.lt
  have n0 : (0 : Int) ≤ n := by omega
  have n8 : (n : Int) < 8 := by omega
  have KR : Hid (w.rangeAt h (n * 28) (gcl g)) := by
    have := (H n hn).rng
    rw [hg] at this
    exact this
  obtain ⟨L, hL⟩ : ∃ L, (dwork N g f).2 = L := ⟨_, rfl⟩
  have HL : Hid ((dwork N g f).2 = L) := hL
  obtain ⟨g2, hg2⟩ : ∃ g2, (dwork N g f).1 = g2 := ⟨_, rfl⟩
  have HG2 : Hid ((dwork N g f).1 = g2) := hg2
  rw [hL, hg2]
  obtain ⟨cs, hcs⟩ : ∃ cs, gcl g = cs := ⟨_, rfl⟩
  have HCS : Hid (gcl g = cs) := hcs
  obtain ⟨ds, hds⟩ : ∃ ds, gcl g2 = ds := ⟨_, rfl⟩
  have HDS : Hid (gcl g2 = ds) := hds
  rw [hL] at hl0
  obtain ⟨l0, l1⟩ := hl0
  clear H hg ho hG HD hL hg2 hcs hds
  go_enter Try.func48, Try.ntmps48
  go_wp2_with (first | (go_at_call 60; refine (refuses_yes h S n g _ HH.out hn HG.out HO.out).mono ?_; rintro e w2 ⟨rfl, w2e⟩; subst w2) | (refine wpList_load_mid rfl 113 (.tmp 28) rfl h (n * 28) rfl (gcl g) _ KR.out Try.underlying113 rfl (by rw [gcl_length]; kernel_rfl) ?_) | (go_at_call 63; refine (works_any HDR.out g f _ HK.out h0 h1 N hN).mono ?_; rw [HL.out, HG2.out]; rintro e w3 ⟨rfl, hb3⟩; have B3 : Hid (Below w.heap.size w w3) := hb3; clear hb3) | (refine wpList_store_mid rfl 113 (.tmp 9) (.tmp 32) rfl w3.heap.size 0 (gcl g2).toArray rfl rfl (there_made w3 zGuest 113) (by show _ = some 28; kernel_rfl) (all_oneCell_toArray (gcl_one _)) ?_))
  have hz3 := B3.out.size
  obtain ⟨w5, hw5⟩ : ∃ w5, ((w3.alloc (.cells #[.bool false, .int .i64 0, .string ⟨#[]⟩, .int .i64 0, .string ⟨#[]⟩, .int .i64 0, .string ⟨#[]⟩, .int .i64 0, .string ⟨#[]⟩, .int .i64 0, .string ⟨#[]⟩, .int .i64 0, .string ⟨#[]⟩, .int .i64 0, .string ⟨#[]⟩, .int .i64 0, .string ⟨#[]⟩, .bool false, .bool false, .bool false, .bool false, .string ⟨#[]⟩, .string ⟨#[]⟩, .string ⟨#[]⟩, .string ⟨#[]⟩, .string ⟨#[]⟩, .int .i64 0, .string ⟨#[]⟩] 113)).setCells w3.heap.size 0 (gcl g2)) = w5 := ⟨_, rfl⟩
  have B5 : Hid (Below w.heap.size w w5) := by
    have : Below w.heap.size w w5 := by
      rw [← hw5]
      exact below_setCells ((B3.out.alloc hz3 _)) hz3 _ _
    exact (this : Below w.heap.size w w5)
  have R5 : Hid (w5.drew.rangeAt w3.heap.size 0 (gcl g2)) := by
    have t : (w3.alloc (.cells zGuest 113)).there w3.heap.size 0 (gcl g2).length := there_made w3 zGuest 113
    have := World.rangeAt_setCells_same _ _ _ _ t
    rw [show (w3.alloc (.cells zGuest 113)).setCells w3.heap.size 0 (gcl g2) = w5 from hw5] at this
    exact (World.rangeAt_drew _ _ _ _).2 this
  have H5 : Hid (HAt w5.drew h S) := by
    have : HAt w5.drew h S := (HH.out.only (F := fun _ => False) ⟨B5.out.os, B5.out.tape, B5.out.output, B5.out.size, fun k hk _ => B5.out.block k hk⟩ id).only (F := fun _ => False) ((Only.refl _ _).drew) id
    exact this
  have T5 : Hid (w5.drew.there h (n * 28) 28) := (H5.out n hn).there
  rw [hw5]
  clear hw5
  refine wp_region_held_drew (S := fun W' => W'.rangeAt w3.heap.size 0 (gcl g2)) (by kernel_rfl) R5.out (fun hHeld => ?_)
  refine wpAnyH_take (i := 0) (oi := { dst := some 34, op := Op.move (Operand.tmp 0), type := 93, pos := "house.go:111", after := #[], guard := none }) (v := .pointer (some ⟨h, 0, none⟩)) rfl (by kernel_rfl) (by kernel_rfl) (by kernel_rfl) (fun _ _ _ h => h) (Or.inl ⟨by rfl, fun W hW => by go_simp⟩) hHeld ?_
  refine wpAnyH_take (i := 1) (oi := { dst := some 35, op := Op.move (Operand.tmp 1), type := 3, pos := "house.go:111", after := #[], guard := none }) (v := .int .i64 n) rfl (by kernel_rfl) (by kernel_rfl) (by kernel_rfl) (fun _ _ _ h => h) (Or.inl ⟨by rfl, fun W hW => by go_simp⟩) hHeld ?_
  refine wpAnyH_take (i := 2) (oi := { dst := some 36, op := Op.load 113 (Operand.tmp 9), type := 113, pos := "house.go:111", after := #[], guard := none }) (v := .agg (gcl g2).toArray) rfl (by kernel_rfl) (by kernel_rfl) (by kernel_rfl) (fun _ _ _ h => h) (yieldsIf_load_mid (by rfl) _ _ rfl _ _ rfl _ _ (fun w hSw => hSw) Try.underlying113 rfl (by show _ = some 28; kernel_rfl)) hHeld ?_
  refine wpAnyH_take (i := 3) (oi := { dst := some 37, op := Op.nilCheck (Operand.tmp 34), type := 0, pos := "house.go:111", after := #[{ on := 0, ground := Ground.data }], guard := none }) (v := .pointer (some ⟨h, 0, none⟩)) rfl (by kernel_rfl) (by kernel_rfl) (by kernel_rfl) (fun _ _ _ h => h) (Or.inl ⟨by rfl, fun W hW => by go_simp⟩) hHeld ?_
  refine wpAnyH_take (i := 4) (oi := { dst := some 38, op := Op.fieldAddr 116 (Operand.tmp 37) 0, type := 0, pos := "house.go:111", after := #[{ on := 3, ground := Ground.data }], guard := none }) (v := .pointer (some ⟨h, 0, none⟩)) rfl (by kernel_rfl) (by kernel_rfl) (by kernel_rfl) (fun _ _ _ h => h) (Or.inl ⟨by rfl, fun W hW => by go_simp⟩) hHeld ?_
  refine wpAnyH_take (i := 5) (oi := { dst := some 39, op := Op.indexAddr 114 (Operand.tmp 38) (Operand.tmp 35), type := 0, pos := "house.go:111", after := #[{ on := 4, ground := Ground.data }, { on := 1, ground := Ground.data }, { on := 0, ground := Ground.phase }, { on := 1, ground := Ground.phase }, { on := 2, ground := Ground.phase }], guard := none }) (v := .pointer (some ⟨h, n * 28, none⟩)) rfl (by kernel_rfl) (by kernel_rfl) (by kernel_rfl) (fun _ _ _ h => h) (Or.inl ⟨by rfl, fun W hW => by go_simp⟩) hHeld ?_
  simp only [Act.put, List.setIfInBounds_toArray, List.set_cons_zero, List.set_cons_succ]
  refine wpAnyH_ready (rs := [6]) (by kernel_rfl) (by simp) ?_
  refine AllReadyH.cons (o := { dst := none, op := Op.store 113 (Operand.tmp 39) (Operand.tmp 36), type := 0, pos := "house.go:111", after := #[{ on := 5, ground := Ground.data }, { on := 2, ground := Ground.data }, { on := 0, ground := Ground.phase }, { on := 1, ground := Ground.phase }, { on := 2, ground := Ground.phase }], guard := none }) rfl (fun K hK => ?_) AllReadyH.nil
  rw [if_pos (by rfl)]
  refine wp_store_mid 113 _ _ rfl h (n * 28) (gcl g2).toArray rfl rfl T5.out (by show _ = some 28; kernel_rfl) (all_oneCell_toArray (gcl_one _)) ?_
  refine hK.out _ _ (World.rangeAt_setCells_apart R5.out _ _ _ (.inl (by have := HH.out.lt; omega))) (fun hHeld9 => ?_)
  clear hK K hHeld9
  refine wpAnyH_done (by kernel_rfl) ?_ _
  simp only [Act.put]
  go_wp2
  go_ret2
  refine ⟨rfl, ?_⟩
  obtain ⟨p1, p2⟩ := HGoes.put H5.out hn (some g2)
  exact ⟨((Only.of_below B5.out).drew).trans p1 (fun b q => .inl q), p2⟩

end Go.Proofs.Ytbedkfgdhaajaab
