/- Rows.QuotasSaid (P10): the walk of the statement. -/
import Derived.Test.YtbedkfgdhaajaaaBook
import Derived.Test.YtbedkfgdhaajaaaKeepPg
import Derived.Sort.AtCall
namespace Go.Proofs.Ytbedkfgdhaajaaa
open Go.RowKit

def QR (W : World) (g bb N : Nat) (t i : Value) (wr : World) : Prop :=
  ∃ (k : Nat) (C : Rm) (G : Nat → Prop), k ≤ N ∧ i = .int .i64 k ∧ t = .int .i64 (tot C.bs 8) ∧ okR C ∧ Sv wr G g (one (gI C)) ∧ Bk wr bb C.bs ∧ ¬ G bb ∧ Below W.heap.size W wr ∧ (∀ b, G b → W.heap.size ≤ b) ∧ W.heap.size ≤ bb

theorem QR.next {W X1 X2 X3 : World} {g bb N k : Nat} {C : Rm} {G : Nat → Prop} {m : List UInt8} {f : Nat → List UInt8} {t i : Value} (hk : k + 1 ≤ N) (hI : okR C) (hm : Whole m) (hS : SGoes G X1 X2 g (one (gI (aftM C m)))) (hB : Bk X1 bb f) (hn : ¬ G bb)
    (hf : ∀ j, j < 8 → f j = (dn C m).2.bs j) (hW : Below W.heap.size W X1) (hG : ∀ b, G b → W.heap.size ≤ b) (hbb : W.heap.size ≤ bb) (h3 : Below X2.heap.size X2 X3) (hi : i = .int .i64 ((k + 1 : Nat) : Int)) (ht : t = .int .i64 (tot (dn C m).2.bs 8)) : QR W g bb N t i X3 := by
  obtain ⟨hA, hlo⟩ := aft_idle hI hm
  obtain ⟨ho, G', hs, hg⟩ := hS
  have hz := hW.size
  have hlt := hB.lt
  refine ⟨k + 1, aftM C m, G', hk, hi, ?_, hA, hs.below h3, ((hB.only ho hn).below h3).congr (fun j hj => (hf j hj).trans (hlo j hj).symm), fun q => ?_, (hW.trans (ho.below hz hG)).trans (h3.mono (Nat.le_trans hz ho.size)), fun b q => ?_, hbb⟩
  · rw [ht, tot_congr hlo]
  · rcases hg bb q with q | q
    · exact hn q
    · omega
  · rcases hg b q with q | q
    · exact hG b q
    · omega

theorem bn2 (a k : Nat) (ha : a ≤ 255) (hk : k ≤ 255) : bn (byts [(a : Int), (k : Int)]) 0 = a ∧ bn (byts [(a : Int), (k : Int)]) 1 = k ∧ (byts [(a : Int), (k : Int)]).length = 2 := by
  refine ⟨?_, ?_, rfl⟩
  · show (UInt8.ofNat (a : Int).toNat).toNat = a; simp; omega
  · show (UInt8.ofNat (k : Int).toNat).toNat = k; simp; omega

theorem bn4 (a k u v : Nat) (ha : a ≤ 255) (hk : k ≤ 255) (hu : u ≤ 255) (hv : v ≤ 255) :
    bn (byts [(a : Int), (k : Int), (u : Int), (v : Int)]) 0 = a ∧ bn (byts [(a : Int), (k : Int), (u : Int), (v : Int)]) 1 = k ∧ bn (byts [(a : Int), (k : Int), (u : Int), (v : Int)]) 2 = u ∧ bn (byts [(a : Int), (k : Int), (u : Int), (v : Int)]) 3 = v ∧ (byts [(a : Int), (k : Int), (u : Int), (v : Int)]).length = 4 := by
  refine ⟨?_, ?_, ?_, ?_, rfl⟩
  · show (UInt8.ofNat (a : Int).toNat).toNat = a; simp; omega
  · show (UInt8.ofNat (k : Int).toNat).toNat = k; simp; omega
  · show (UInt8.ofNat (u : Int).toNat).toNat = u; simp; omega
  · show (UInt8.ofNat (v : Int).toNat).toNat = v; simp; omega

theorem pg_zero : pg ((0 : Nat) : Int) = 0 := by decide
theorem pg_pos {n : Nat} : 0 < pg (n : Int) ↔ 0 < n := by unfold pg; omega

/-- the commands that the statement sends -/
theorem drop_cmd (K : Nat) (hK : K ≤ 255) (C : Rm) :
    Whole (byts [2, (K : Int)]) ∧ cst C (byts [2, (K : Int)]) = 1 ∧
    (¬ (K < 8 ∧ 0 < (C.bs K).length) → dn C (byts [2, (K : Int)]) = (2, C)) ∧
    (K < 8 → 0 < (C.bs K).length → (dn C (byts [2, (K : Int)])).1 = 0 ∧ (dn C (byts [2, (K : Int)])).2.bs = updA C.bs K []) := by
  obtain ⟨b0, b1, bl⟩ := bn2 2 K (by omega) hK
  rw [show (((2 : Nat) : Int)) = 2 from rfl] at b0 b1 bl
  have hh : bn (byts [2, (K : Int)]) 0 = 2 ∨ bn (byts [2, (K : Int)]) 0 = 3 ∨ bn (byts [2, (K : Int)]) 0 = 4 ∨ bn (byts [2, (K : Int)]) 0 = 6 := .inl b0
  refine ⟨⟨?_, by omega, by omega, .inr b0⟩, ?_, fun h => ?_, fun h8 h => ?_⟩
  · rw [bl, pz_n7 (by omega)]; unfold dsz; rw [bl, b0]; rfl
  · unfold cst
    by_cases ht : thr C (bn (byts [2, (K : Int)]) 1) = true
    · rw [pd_2 b0 ht]
    · rw [pd_no hh ht]
  · have ht : ¬ thr C (bn (byts [2, (K : Int)]) 1) = true := by rw [b1]; exact fun q => h (of_decide_eq_true q)
    unfold dn; rw [pd_no hh ht, per_h hh, if_neg ht]
  · have ht : thr C (bn (byts [2, (K : Int)]) 1) = true := by rw [b1]; exact decide_eq_true ⟨h8, h⟩
    unfold dn; rw [pd_2 b0 ht, per_h hh, if_pos ht, b1]; exact ⟨rfl, rfl⟩

theorem create_cmd (K U V : Nat) (hK : K ≤ 255) (hU : U ≤ 255) (hV : V ≤ 255) (C : Rm) :
    Whole (byts [1, (K : Int), (U : Int), (V : Int)]) ∧
    (¬ can C.bs K U V = 0 → dn C (byts [1, (K : Int), (U : Int), (V : Int)]) = (can C.bs K U V, C) ∧ cst C (byts [1, (K : Int), (U : Int), (V : Int)]) = 1) ∧
    (can C.bs K U V = 0 → (dn C (byts [1, (K : Int), (U : Int), (V : Int)])).1 = 0 ∧ (dn C (byts [1, (K : Int), (U : Int), (V : Int)])).2.bs = updA C.bs K (zeros (U * V)) ∧ cst C (byts [1, (K : Int), (U : Int), (V : Int)]) = 1 + (U : Int) * V) := by
  obtain ⟨b0, b1, b2, b3, bl⟩ := bn4 1 K U V (by omega) hK hU hV
  rw [show (((1 : Nat) : Int)) = 1 from rfl] at b0 b1 b2 b3 bl
  refine ⟨⟨?_, by omega, by omega, .inl b0⟩, fun h => ⟨?_, ?_⟩, fun h => ?_⟩
  · rw [bl, pz_n7 (by omega)]; unfold dsz; rw [bl, b0]; rfl
  · unfold dn; rw [pd_1 b0, per_1 b0, b1, b2, b3, if_neg h]; simp only [if_neg h]
  · unfold cst; rw [pd_1 b0, b1, b2, b3]; simp only [if_neg h]
  · unfold dn cst
    rw [pd_1 b0, per_1 b0, b1, b2, b3, h]
    exact ⟨rfl, rfl, rfl⟩

theorem kfree' (G : Nat → Prop) (g : Nat) (C : Rm) (T : Int) (w : World) (hS : Sv w G g (one (gI C))) (_h : okR C) (hT : tot C.bs 8 = T) :
    Calls Try.prog 29 #[.pointer (some ⟨g, 0, none⟩)] w fun e w' => e = .returned (.int .i64 (96 - T)) ∧ Below w.heap.size w w' := by
  subst hT; exact kfree G g (gI C) w hS

theorem Sv.setOut {W : World} {G : Nat → Prop} {g : Nat} {S : Nat → Option Gst} (h : Sv W G g S) {p : Addr} (hn : ¬ G p.block) (v : Value) : Sv (W.setCell p v) G g S :=
  h.only (H := fun b => b = p.block) ((Only.refl (fun b => b = p.block) W).setCell (.inl rfl) v) (fun _ hb q => hn (q ▸ hb))

/-- the argument: numbers in a row -/
def ArgI (W : World) (ao : Option Addr) (n : Nat) : Prop :=
  ∃ b off, (0 < n → ao = some ⟨b, off, none⟩ ∧ b < W.heap.size) ∧ ∀ i, i < n → ∃ x, W.cell? ⟨b, off + i, none⟩ = some (.int .i64 x) ∧ -9223372036854775808 ≤ x ∧ x ≤ 9223372036854775807

theorem okR_new : okR gNew.rm := ⟨fun k _ => by simp [gNew], fun k _ => by simp [gNew], fun k _ => by simp [gNew], fun k _ => by simp [gNew], fun k _ q => (by cases q), fun k _ => by simp [gNew]⟩

theorem quotas_start {W wb : World} {g N : Nat} {G0 : Nat → Prop} {t : TypeId} (hb : Below W.heap.size W wb) (hs : Sv wb G0 g (one gNew)) (hG : ∀ b, G0 b → W.heap.size ≤ b) :
    QR W g wb.heap.size N (.int .i64 0) (.int .i64 0) (wb.alloc (.cells #[.int .i64 0, .int .i64 0, .int .i64 0, .int .i64 0, .int .i64 0, .int .i64 0, .int .i64 0, .int .i64 0] t)) := by
  have hz := hb.size
  have hin : ∀ b, G0 b → b < wb.heap.size := by obtain ⟨_, _, h⟩ := hs; exact h.inn
  refine ⟨0, gNew.rm, G0, by omega, rfl, rfl, okR_new, hs.below ((Below.refl _ _).alloc (Nat.le_refl _) _), ⟨fun j hj => ?_, fun j => ?_, by simp⟩, fun q => by have := hin _ q; omega, hb.alloc hz _, hG, hz⟩
  · rw [World.cell?_alloc_at _ _ _ _ rfl]
    rcases (by omega : j = 0 ∨ j = 1 ∨ j = 2 ∨ j = 3 ∨ j = 4 ∨ j = 5 ∨ j = 6 ∨ j = 7) with rfl | rfl | rfl | rfl | rfl | rfl | rfl | rfl <;> rfl
  · rw [World.frozen?_alloc_at _ _ _ _ rfl]

set_option maxRecDepth 8000 in
set_option maxHeartbeats 4000000 in
theorem quotas_walk (ao : Option Addr) (N cap : Nat) (W : World) (hN : N ≤ maxLen) (hA : ArgI W ao N) :
    Calls Try.prog 10 #[.slice ao N cap] W fun e w' => e = .returned (.bool true) ∧ Below W.heap.size W w' := by
  obtain ⟨ab, aoff, ha, hcells⟩ := hA
  have HA : Hid (0 < N → ao = some ⟨ab, aoff, none⟩ ∧ ab < W.heap.size) := ha
  have HCE : Hid (∀ i, i < N → ∃ x, W.cell? ⟨ab, aoff + i, none⟩ = some (.int .i64 x) ∧ -9223372036854775808 ≤ x ∧ x ≤ 9223372036854775807) := hcells
  unfold maxLen at hN
  clear ha hcells
  go_enter Try.func10, Try.ntmps10
  go_wp2_with (go_at_call 25; refine (begun_any _).mono ?_; rintro e wb ⟨g, G0, rfl, hbb, hsb, hGb⟩; have BB0 : Hid (Below W.heap.size W wb) := hbb; have SS0 : Hid (Sv wb G0 g (one gNew)) := hsb; have GG0 : Hid (∀ b, G0 b → W.heap.size ≤ b) := hGb; have zb := hbb.size; clear hbb hsb hGb)
  go_loopw [6, 7] (fun t i wr => QR W g wb.heap.size N t i wr) (fun _ i _ => N - (intOf i).toNat)
  case atStart => exact quotas_start BB0.out SS0.out GG0.out
  case round =>
    obtain ⟨k, C, G, hk, rfl, rfl, hI, hS, hB, hGn, hW, hG, hbb⟩ := hrel
    have KI : Hid (okR C) := hI
    have KS : Hid (Sv wr G g (one (gI C))) := hS
    have KB : Hid (Bk wr wb.heap.size C.bs) := hB
    have KN : Hid (¬ G wb.heap.size) := hGn
    have KW : Hid (Below W.heap.size W wr) := hW
    have KG : Hid (∀ b, G b → W.heap.size ≤ b) := hG
    obtain ⟨t1, t2⟩ := tot_bd (f := C.bs) (n := 8) hI.len
    have hblt := hB.lt
    have zW := hW.size
    clear hI hS hB hGn hG
    by_cases hlt : k < N
    · obtain ⟨eao, hab⟩ := HA.out (by omega)
      obtain ⟨x, hx, zlo, zhi⟩ := HCE.out k hlt
      have cx := (hW.cell (p := ⟨ab, aoff + k, none⟩) hab).trans hx
      have k0 : (0 : Int) ≤ k := by omega
      have k1 : (k : Int) < N := by omega
      obtain ⟨v0, v1⟩ := pck_bd (c := x) (n := 33554432) (by omega)
      obtain ⟨K, hK⟩ : ∃ K : Nat, pck x 33554432 % 256 = (K : Int) := ⟨(pck x 33554432 % 256).toNat, by omega⟩
      obtain ⟨U, hU'⟩ : ∃ U : Nat, pck x 33554432 / 256 % 256 = (U : Int) := ⟨(pck x 33554432 / 256 % 256).toNat, by omega⟩
      obtain ⟨V, hV'⟩ : ∃ V : Nat, pck x 33554432 / 65536 % 256 = (V : Int) := ⟨(pck x 33554432 / 65536 % 256).toNat, by omega⟩
      have hK1 : K ≤ 255 := by omega
      have hU : U ≤ 255 := by omega
      have hV : V ≤ 255 := by omega
      subst eao
      clear hW hx
      by_cases hv : 16777216 ≤ pck x 33554432
      · have CM : Hid _ := drop_cmd K hK1 C
        by_cases h8 : K < 8
        · have q := KB.out.ce K h8
          have K0 : (0 : Int) ≤ K := by omega
          have K8 : (K : Int) < 8 := by omega
          by_cases ht : 0 < (C.bs K).length
          · have hd : decide (0 < pg ((C.bs K).length : Int)) = true := decide_eq_true (pg_pos.2 ht)
            have hq : 0 ≤ pg ((C.bs K).length : Int) ∧ pg ((C.bs K).length : Int) ≤ 9 := by have := KI.out.len K h8; unfold pg; omega
            obtain ⟨hq0, hq1⟩ := hq
            have HT : Hid (tot (aftM C (byts [2, (K : Int)])).bs 8 = tot C.bs 8 - pg ((C.bs K).length : Int)) := by
              have e0 : tot (aftM C (byts [2, (K : Int)])).bs 8 = tot (dn C (byts [2, (K : Int)])).2.bs 8 := tot_congr (aft_idle KI.out CM.out.1).2
              have e1 : tot (dn C (byts [2, (K : Int)])).2.bs 8 = tot C.bs 8 - pg ((C.bs K).length : Int) := by rw [(CM.out.2.2.2 h8 ht).2, tot_upd h8, List.length_nil, pg_zero]; omega
              exact e0.trans e1
            go_wp2_with (first | (go_at_call 18; refine (kpick_any _ _ _ zlo zhi (by omega) (by omega)).mono ?_; rintro e w0 ⟨rfl, hw0⟩; subst w0) | (go_at_call_has 32 (2 : Nat); refine (text2 _ _ _ _ _ rfl ⟨by omega, by omega⟩ ⟨by omega, by omega⟩).mono ?_; rintro e w1 ⟨rfl, hb1⟩; have B1 : Hid (Below wr.heap.size wr w1) := hb1; have k1 := KB.out.below hb1; have z1 := hb1.size; have q1 := k1.ce K h8; have f1 := k1.fz K; have l1 := k1.lt; clear hb1 k1) | (go_at_call_has 32 (1 : Nat); refine (text1 _ _ _ _ (by first | with_reducible rfl | rw [sz_setCell]) ⟨by omega, by omega⟩).mono ?_; rintro e w3 ⟨rfl, hb3⟩; have B3 : Hid _ := hb3; have z3 := hb3.size; clear hb3) | (go_at_call 31; refine (ask_as G g C (byts [2, (K : Int)]) _ _ _ (((KS.out.below B1.out).setOut (p := ⟨wb.heap.size, K, none⟩) KN.out _).below B3.out) KI.out CM.out.1 (CM.out.2.2.2 h8 ht).1 CM.out.2.1).mono ?_; rintro e w4 ⟨rfl, hg4⟩; have G4 : Hid _ := hg4; obtain ⟨_, G', hs4, _⟩ := hg4; have S4 : Hid _ := hs4; clear hs4) | (go_at_call 29; refine (kfree' G' g _ _ _ S4.out (aft_idle KI.out CM.out.1).1 HT.out).mono ?_; rintro e w6 ⟨rfl, hb6⟩))
            refine ⟨QR.next (m := byts [2, (K : Int)]) (k := k) hlt KI.out CM.out.1 G4.out (((KB.out.below B1.out).set (l := []) h8 (by rfl)).below B3.out) KN.out (fun j _ => by rw [(CM.out.2.2.2 h8 ht).2]) ((((KW.out.trans (B1.out.mono zW))).setCell (p := ⟨wb.heap.size, K, none⟩) hbb _).trans (B3.out.mono (by rw [sz_setCell]; omega))) KG.out hbb hb6 (by go_num) (by rw [(CM.out.2.2.2 h8 ht).2, tot_upd h8, List.length_nil, pg_zero]; go_num), ?_⟩
            simp [intOf]; omega
          · have hd : decide (0 < pg ((C.bs K).length : Int)) = false := decide_eq_false (fun p => ht (pg_pos.1 p))
            have HT : Hid (tot (aftM C (byts [2, (K : Int)])).bs 8 = tot C.bs 8) := by
              have e0 : tot (aftM C (byts [2, (K : Int)])).bs 8 = tot (dn C (byts [2, (K : Int)])).2.bs 8 := tot_congr (aft_idle KI.out CM.out.1).2
              have e1 : tot (dn C (byts [2, (K : Int)])).2.bs 8 = tot C.bs 8 := by rw [CM.out.2.2.1 (fun p => ht p.2)]
              exact e0.trans e1
            go_wp2_with (first | (go_at_call 18; refine (kpick_any _ _ _ zlo zhi (by omega) (by omega)).mono ?_; rintro e w0 ⟨rfl, hw0⟩; subst w0) | (go_at_call_has 32 (2 : Nat); refine (text2 _ _ _ _ _ rfl ⟨by omega, by omega⟩ ⟨by omega, by omega⟩).mono ?_; rintro e w1 ⟨rfl, hb1⟩; have B1 : Hid (Below wr.heap.size wr w1) := hb1; have k1 := KB.out.below hb1; have z1 := hb1.size; clear hb1 k1) | (go_at_call_has 32 (1 : Nat); refine (text1 _ _ _ _ (by first | with_reducible rfl | rw [sz_setCell]) ⟨by omega, by omega⟩).mono ?_; rintro e w3 ⟨rfl, hb3⟩; have B3 : Hid _ := hb3; have z3 := hb3.size; clear hb3) | (go_at_call 31; refine (ask_as G g C (byts [2, (K : Int)]) _ _ _ ((KS.out.below B1.out).below B3.out) KI.out CM.out.1 (by rw [CM.out.2.2.1 (fun p => ht p.2)]) CM.out.2.1).mono ?_; rintro e w4 ⟨rfl, hg4⟩; have G4 : Hid _ := hg4; obtain ⟨_, G', hs4, _⟩ := hg4; have S4 : Hid _ := hs4; clear hs4) | (go_at_call 29; refine (kfree' G' g _ _ _ S4.out (aft_idle KI.out CM.out.1).1 HT.out).mono ?_; rintro e w6 ⟨rfl, hb6⟩))
            refine ⟨QR.next (m := byts [2, (K : Int)]) (k := k) hlt KI.out CM.out.1 G4.out ((KB.out.below B1.out).below B3.out) KN.out (fun j _ => by rw [CM.out.2.2.1 (fun p => ht p.2)]) ((KW.out.trans (B1.out.mono zW)).trans (B3.out.mono (by omega))) KG.out hbb hb6 (by go_num) (by rw [CM.out.2.2.1 (fun p => ht p.2)]), ?_⟩
            simp [intOf]; omega
        · have K8 : ¬ (K : Int) < 8 := by omega
          have ht : ¬ (K < 8 ∧ 0 < (C.bs K).length) := fun p => h8 p.1
          have HT : Hid (tot (aftM C (byts [2, (K : Int)])).bs 8 = tot C.bs 8) := by
            have e0 : tot (aftM C (byts [2, (K : Int)])).bs 8 = tot (dn C (byts [2, (K : Int)])).2.bs 8 := tot_congr (aft_idle KI.out CM.out.1).2
            have e1 : tot (dn C (byts [2, (K : Int)])).2.bs 8 = tot C.bs 8 := by rw [CM.out.2.2.1 (ht)]
            exact e0.trans e1
          go_wp2_with (first | (go_at_call 18; refine (kpick_any _ _ _ zlo zhi (by omega) (by omega)).mono ?_; rintro e w0 ⟨rfl, hw0⟩; subst w0) | (go_at_call_has 32 (2 : Nat); refine (text2 _ _ _ _ _ rfl ⟨by omega, by omega⟩ ⟨by omega, by omega⟩).mono ?_; rintro e w1 ⟨rfl, hb1⟩; have B1 : Hid (Below wr.heap.size wr w1) := hb1; have k1 := KB.out.below hb1; have z1 := hb1.size; clear hb1 k1) | (go_at_call_has 32 (1 : Nat); refine (text1 _ _ _ _ (by first | with_reducible rfl | rw [sz_setCell]) ⟨by omega, by omega⟩).mono ?_; rintro e w3 ⟨rfl, hb3⟩; have B3 : Hid _ := hb3; have z3 := hb3.size; clear hb3) | (go_at_call 31; refine (ask_as G g C (byts [2, (K : Int)]) _ _ _ ((KS.out.below B1.out).below B3.out) KI.out CM.out.1 (by rw [CM.out.2.2.1 (ht)]) CM.out.2.1).mono ?_; rintro e w4 ⟨rfl, hg4⟩; have G4 : Hid _ := hg4; obtain ⟨_, G', hs4, _⟩ := hg4; have S4 : Hid _ := hs4; clear hs4) | (go_at_call 29; refine (kfree' G' g _ _ _ S4.out (aft_idle KI.out CM.out.1).1 HT.out).mono ?_; rintro e w6 ⟨rfl, hb6⟩))
          refine ⟨QR.next (m := byts [2, (K : Int)]) (k := k) hlt KI.out CM.out.1 G4.out ((KB.out.below B1.out).below B3.out) KN.out (fun j _ => by rw [CM.out.2.2.1 (ht)]) ((KW.out.trans (B1.out.mono zW)).trans (B3.out.mono (by omega))) KG.out hbb hb6 (by go_num) (by rw [CM.out.2.2.1 (ht)]), ?_⟩
          simp [intOf]; omega
      · have CM : Hid _ := create_cmd K U V hK1 hU hV C
        by_cases h8 : K < 8
        · have q := KB.out.ce K h8
          have K0 : (0 : Int) ≤ K := by omega
          have K8 : (K : Int) < 8 := by omega
          by_cases ht : 0 < (C.bs K).length
          · have hd : decide (0 < pg ((C.bs K).length : Int)) = true := decide_eq_true (pg_pos.2 ht)
            have hcn : can C.bs K U V = 3 := by unfold can; rw [if_neg (by omega), if_pos ht]
            have hcn0 : ¬ can C.bs K U V = 0 := by omega
            have HCN : Hid (¬ can C.bs K U V = 0) := hcn0
            have HCE1 : Hid (can C.bs K U V = 3) := hcn
            clear hcn hcn0
            have HT : Hid (tot (aftM C (byts [1, (K : Int), (U : Int), (V : Int)])).bs 8 = tot C.bs 8) := by
              have e0 : tot (aftM C (byts [1, (K : Int), (U : Int), (V : Int)])).bs 8 = tot (dn C (byts [1, (K : Int), (U : Int), (V : Int)])).2.bs 8 := tot_congr (aft_idle KI.out CM.out.1).2
              have e1 : tot (dn C (byts [1, (K : Int), (U : Int), (V : Int)])).2.bs 8 = tot C.bs 8 := by rw [(CM.out.2.1 HCN.out).1]
              exact e0.trans e1
            go_wp2_with (first | (go_at_call 18; refine (kpick_any _ _ _ zlo zhi (by omega) (by omega)).mono ?_; rintro e w0 ⟨rfl, hw0⟩; subst w0) | (go_at_call_has 32 (2 : Nat); refine (text2 _ _ _ _ _ rfl ⟨by omega, by omega⟩ ⟨by omega, by omega⟩).mono ?_; rintro e w1 ⟨rfl, hb1⟩; have B1 : Hid (Below wr.heap.size wr w1) := hb1; have k1 := KB.out.below hb1; have z1 := hb1.size; clear hb1 k1) | (go_at_call_has 32 (4 : Nat); refine (text4 _ _ _ _ _ _ _ rfl ⟨by omega, by omega⟩ ⟨by omega, by omega⟩ ⟨by omega, by omega⟩ ⟨by omega, by omega⟩).mono ?_; rintro e w2 ⟨rfl, hb2⟩; have B2 : Hid (Below w1.heap.size w1 w2) := hb2; have k2 := (KB.out.below B1.out).below hb2; have z2 := hb2.size; clear hb2 k2) | (go_at_call_has 32 (1 : Nat); refine (text1 _ _ _ _ (by first | with_reducible rfl | rw [sz_setCell]) ⟨by omega, by omega⟩).mono ?_; rintro e w3 ⟨rfl, hb3⟩; have B3 : Hid _ := hb3; have z3 := hb3.size; clear hb3) | (go_at_call 33; refine (kpages_any _ _ _ hU hV).mono ?_; rintro e w5 ⟨rfl, hw5⟩; subst w5) | (go_at_call 31; refine (ask_as G g C (byts [1, (K : Int), (U : Int), (V : Int)]) _ _ _ (((KS.out.below B1.out).below B2.out).below B3.out) KI.out CM.out.1 (by rw [(CM.out.2.1 HCN.out).1, HCE1.out]) (CM.out.2.1 HCN.out).2).mono ?_; rintro e w4 ⟨rfl, hg4⟩; have G4 : Hid _ := hg4; obtain ⟨_, G', hs4, _⟩ := hg4; have S4 : Hid _ := hs4; clear hs4) | (go_at_call 29; refine (kfree' G' g _ _ _ S4.out (aft_idle KI.out CM.out.1).1 HT.out).mono ?_; rintro e w6 ⟨rfl, hb6⟩))
            refine ⟨QR.next (m := byts [1, (K : Int), (U : Int), (V : Int)]) (k := k) hlt KI.out CM.out.1 G4.out (((KB.out.below B1.out).below B2.out).below B3.out) KN.out (fun j _ => by rw [(CM.out.2.1 HCN.out).1]) (((KW.out.trans (B1.out.mono zW)).trans (B2.out.mono (by omega))).trans (B3.out.mono (by omega))) KG.out hbb hb6 (by go_num) (by rw [(CM.out.2.1 HCN.out).1]), ?_⟩
            simp [intOf]; omega
          · have hd : decide (0 < pg ((C.bs K).length : Int)) = false := decide_eq_false (fun p => ht (pg_pos.1 p))
            by_cases u1 : U < 1
            · have u1' : (U : Int) < 1 := by omega
              have su : ¬ side U = true := fun p => by have := side_bd p; omega
              have hcn : can C.bs K U V = 4 := by unfold can; rw [if_neg (by omega), if_neg ht, if_neg (fun p => su p.1)]
              have hcn0 : ¬ can C.bs K U V = 0 := by omega
              have HCN : Hid (¬ can C.bs K U V = 0) := hcn0
              have HCE1 : Hid (can C.bs K U V = 4) := hcn
              clear hcn hcn0
              have HT : Hid (tot (aftM C (byts [1, (K : Int), (U : Int), (V : Int)])).bs 8 = tot C.bs 8) := by
                have e0 : tot (aftM C (byts [1, (K : Int), (U : Int), (V : Int)])).bs 8 = tot (dn C (byts [1, (K : Int), (U : Int), (V : Int)])).2.bs 8 := tot_congr (aft_idle KI.out CM.out.1).2
                have e1 : tot (dn C (byts [1, (K : Int), (U : Int), (V : Int)])).2.bs 8 = tot C.bs 8 := by rw [(CM.out.2.1 HCN.out).1]
                exact e0.trans e1
              go_wp2_with (first | (go_at_call 18; refine (kpick_any _ _ _ zlo zhi (by omega) (by omega)).mono ?_; rintro e w0 ⟨rfl, hw0⟩; subst w0) | (go_at_call_has 32 (2 : Nat); refine (text2 _ _ _ _ _ rfl ⟨by omega, by omega⟩ ⟨by omega, by omega⟩).mono ?_; rintro e w1 ⟨rfl, hb1⟩; have B1 : Hid (Below wr.heap.size wr w1) := hb1; have k1 := KB.out.below hb1; have z1 := hb1.size; clear hb1 k1) | (go_at_call_has 32 (4 : Nat); refine (text4 _ _ _ _ _ _ _ rfl ⟨by omega, by omega⟩ ⟨by omega, by omega⟩ ⟨by omega, by omega⟩ ⟨by omega, by omega⟩).mono ?_; rintro e w2 ⟨rfl, hb2⟩; have B2 : Hid (Below w1.heap.size w1 w2) := hb2; have k2 := (KB.out.below B1.out).below hb2; have z2 := hb2.size; clear hb2 k2) | (go_at_call_has 32 (1 : Nat); refine (text1 _ _ _ _ (by first | with_reducible rfl | rw [sz_setCell]) ⟨by omega, by omega⟩).mono ?_; rintro e w3 ⟨rfl, hb3⟩; have B3 : Hid _ := hb3; have z3 := hb3.size; clear hb3) | (go_at_call 33; refine (kpages_any _ _ _ hU hV).mono ?_; rintro e w5 ⟨rfl, hw5⟩; subst w5) | (go_at_call 31; refine (ask_as G g C (byts [1, (K : Int), (U : Int), (V : Int)]) _ _ _ (((KS.out.below B1.out).below B2.out).below B3.out) KI.out CM.out.1 (by rw [(CM.out.2.1 HCN.out).1, HCE1.out]) (CM.out.2.1 HCN.out).2).mono ?_; rintro e w4 ⟨rfl, hg4⟩; have G4 : Hid _ := hg4; obtain ⟨_, G', hs4, _⟩ := hg4; have S4 : Hid _ := hs4; clear hs4) | (go_at_call 29; refine (kfree' G' g _ _ _ S4.out (aft_idle KI.out CM.out.1).1 HT.out).mono ?_; rintro e w6 ⟨rfl, hb6⟩))
              refine ⟨QR.next (m := byts [1, (K : Int), (U : Int), (V : Int)]) (k := k) hlt KI.out CM.out.1 G4.out (((KB.out.below B1.out).below B2.out).below B3.out) KN.out (fun j _ => by rw [(CM.out.2.1 HCN.out).1]) (((KW.out.trans (B1.out.mono zW)).trans (B2.out.mono (by omega))).trans (B3.out.mono (by omega))) KG.out hbb hb6 (by go_num) (by rw [(CM.out.2.1 HCN.out).1]), ?_⟩
              simp [intOf]; omega
            · have u1' : ¬ (U : Int) < 1 := by omega
              by_cases v1 : V < 1
              · have v1' : (V : Int) < 1 := by omega
                have sv : ¬ side V = true := fun p => by have := side_bd p; omega
                have hcn : can C.bs K U V = 4 := by unfold can; rw [if_neg (by omega), if_neg ht, if_neg (fun p => sv p.2)]
                have hcn0 : ¬ can C.bs K U V = 0 := by omega
                have HCN : Hid (¬ can C.bs K U V = 0) := hcn0
                have HCE1 : Hid (can C.bs K U V = 4) := hcn
                clear hcn hcn0
                have HT : Hid (tot (aftM C (byts [1, (K : Int), (U : Int), (V : Int)])).bs 8 = tot C.bs 8) := by
                  have e0 : tot (aftM C (byts [1, (K : Int), (U : Int), (V : Int)])).bs 8 = tot (dn C (byts [1, (K : Int), (U : Int), (V : Int)])).2.bs 8 := tot_congr (aft_idle KI.out CM.out.1).2
                  have e1 : tot (dn C (byts [1, (K : Int), (U : Int), (V : Int)])).2.bs 8 = tot C.bs 8 := by rw [(CM.out.2.1 HCN.out).1]
                  exact e0.trans e1
                go_wp2_with (first | (go_at_call 18; refine (kpick_any _ _ _ zlo zhi (by omega) (by omega)).mono ?_; rintro e w0 ⟨rfl, hw0⟩; subst w0) | (go_at_call_has 32 (2 : Nat); refine (text2 _ _ _ _ _ rfl ⟨by omega, by omega⟩ ⟨by omega, by omega⟩).mono ?_; rintro e w1 ⟨rfl, hb1⟩; have B1 : Hid (Below wr.heap.size wr w1) := hb1; have k1 := KB.out.below hb1; have z1 := hb1.size; clear hb1 k1) | (go_at_call_has 32 (4 : Nat); refine (text4 _ _ _ _ _ _ _ rfl ⟨by omega, by omega⟩ ⟨by omega, by omega⟩ ⟨by omega, by omega⟩ ⟨by omega, by omega⟩).mono ?_; rintro e w2 ⟨rfl, hb2⟩; have B2 : Hid (Below w1.heap.size w1 w2) := hb2; have k2 := (KB.out.below B1.out).below hb2; have z2 := hb2.size; clear hb2 k2) | (go_at_call_has 32 (1 : Nat); refine (text1 _ _ _ _ (by first | with_reducible rfl | rw [sz_setCell]) ⟨by omega, by omega⟩).mono ?_; rintro e w3 ⟨rfl, hb3⟩; have B3 : Hid _ := hb3; have z3 := hb3.size; clear hb3) | (go_at_call 33; refine (kpages_any _ _ _ hU hV).mono ?_; rintro e w5 ⟨rfl, hw5⟩; subst w5) | (go_at_call 31; refine (ask_as G g C (byts [1, (K : Int), (U : Int), (V : Int)]) _ _ _ (((KS.out.below B1.out).below B2.out).below B3.out) KI.out CM.out.1 (by rw [(CM.out.2.1 HCN.out).1, HCE1.out]) (CM.out.2.1 HCN.out).2).mono ?_; rintro e w4 ⟨rfl, hg4⟩; have G4 : Hid _ := hg4; obtain ⟨_, G', hs4, _⟩ := hg4; have S4 : Hid _ := hs4; clear hs4) | (go_at_call 29; refine (kfree' G' g _ _ _ S4.out (aft_idle KI.out CM.out.1).1 HT.out).mono ?_; rintro e w6 ⟨rfl, hb6⟩))
                refine ⟨QR.next (m := byts [1, (K : Int), (U : Int), (V : Int)]) (k := k) hlt KI.out CM.out.1 G4.out (((KB.out.below B1.out).below B2.out).below B3.out) KN.out (fun j _ => by rw [(CM.out.2.1 HCN.out).1]) (((KW.out.trans (B1.out.mono zW)).trans (B2.out.mono (by omega))).trans (B3.out.mono (by omega))) KG.out hbb hb6 (by go_num) (by rw [(CM.out.2.1 HCN.out).1]), ?_⟩
                simp [intOf]; omega
              · have v1' : ¬ (V : Int) < 1 := by omega
                by_cases u2 : 24 < U
                · have u2' : (24 : Int) < U := by omega
                  have su : ¬ side U = true := fun p => by have := side_bd p; omega
                  have hcn : can C.bs K U V = 4 := by unfold can; rw [if_neg (by omega), if_neg ht, if_neg (fun p => su p.1)]
                  have hcn0 : ¬ can C.bs K U V = 0 := by omega
                  have HCN : Hid (¬ can C.bs K U V = 0) := hcn0
                  have HCE1 : Hid (can C.bs K U V = 4) := hcn
                  clear hcn hcn0
                  have HT : Hid (tot (aftM C (byts [1, (K : Int), (U : Int), (V : Int)])).bs 8 = tot C.bs 8) := by
                    have e0 : tot (aftM C (byts [1, (K : Int), (U : Int), (V : Int)])).bs 8 = tot (dn C (byts [1, (K : Int), (U : Int), (V : Int)])).2.bs 8 := tot_congr (aft_idle KI.out CM.out.1).2
                    have e1 : tot (dn C (byts [1, (K : Int), (U : Int), (V : Int)])).2.bs 8 = tot C.bs 8 := by rw [(CM.out.2.1 HCN.out).1]
                    exact e0.trans e1
                  go_wp2_with (first | (go_at_call 18; refine (kpick_any _ _ _ zlo zhi (by omega) (by omega)).mono ?_; rintro e w0 ⟨rfl, hw0⟩; subst w0) | (go_at_call_has 32 (2 : Nat); refine (text2 _ _ _ _ _ rfl ⟨by omega, by omega⟩ ⟨by omega, by omega⟩).mono ?_; rintro e w1 ⟨rfl, hb1⟩; have B1 : Hid (Below wr.heap.size wr w1) := hb1; have k1 := KB.out.below hb1; have z1 := hb1.size; clear hb1 k1) | (go_at_call_has 32 (4 : Nat); refine (text4 _ _ _ _ _ _ _ rfl ⟨by omega, by omega⟩ ⟨by omega, by omega⟩ ⟨by omega, by omega⟩ ⟨by omega, by omega⟩).mono ?_; rintro e w2 ⟨rfl, hb2⟩; have B2 : Hid (Below w1.heap.size w1 w2) := hb2; have k2 := (KB.out.below B1.out).below hb2; have z2 := hb2.size; clear hb2 k2) | (go_at_call_has 32 (1 : Nat); refine (text1 _ _ _ _ (by first | with_reducible rfl | rw [sz_setCell]) ⟨by omega, by omega⟩).mono ?_; rintro e w3 ⟨rfl, hb3⟩; have B3 : Hid _ := hb3; have z3 := hb3.size; clear hb3) | (go_at_call 33; refine (kpages_any _ _ _ hU hV).mono ?_; rintro e w5 ⟨rfl, hw5⟩; subst w5) | (go_at_call 31; refine (ask_as G g C (byts [1, (K : Int), (U : Int), (V : Int)]) _ _ _ (((KS.out.below B1.out).below B2.out).below B3.out) KI.out CM.out.1 (by rw [(CM.out.2.1 HCN.out).1, HCE1.out]) (CM.out.2.1 HCN.out).2).mono ?_; rintro e w4 ⟨rfl, hg4⟩; have G4 : Hid _ := hg4; obtain ⟨_, G', hs4, _⟩ := hg4; have S4 : Hid _ := hs4; clear hs4) | (go_at_call 29; refine (kfree' G' g _ _ _ S4.out (aft_idle KI.out CM.out.1).1 HT.out).mono ?_; rintro e w6 ⟨rfl, hb6⟩))
                  refine ⟨QR.next (m := byts [1, (K : Int), (U : Int), (V : Int)]) (k := k) hlt KI.out CM.out.1 G4.out (((KB.out.below B1.out).below B2.out).below B3.out) KN.out (fun j _ => by rw [(CM.out.2.1 HCN.out).1]) (((KW.out.trans (B1.out.mono zW)).trans (B2.out.mono (by omega))).trans (B3.out.mono (by omega))) KG.out hbb hb6 (by go_num) (by rw [(CM.out.2.1 HCN.out).1]), ?_⟩
                  simp [intOf]; omega
                · have u2' : ¬ (24 : Int) < U := by omega
                  by_cases v2 : 24 < V
                  · have v2' : (24 : Int) < V := by omega
                    have sv : ¬ side V = true := fun p => by have := side_bd p; omega
                    have hcn : can C.bs K U V = 4 := by unfold can; rw [if_neg (by omega), if_neg ht, if_neg (fun p => sv p.2)]
                    have hcn0 : ¬ can C.bs K U V = 0 := by omega
                    have HCN : Hid (¬ can C.bs K U V = 0) := hcn0
                    have HCE1 : Hid (can C.bs K U V = 4) := hcn
                    clear hcn hcn0
                    have HT : Hid (tot (aftM C (byts [1, (K : Int), (U : Int), (V : Int)])).bs 8 = tot C.bs 8) := by
                      have e0 : tot (aftM C (byts [1, (K : Int), (U : Int), (V : Int)])).bs 8 = tot (dn C (byts [1, (K : Int), (U : Int), (V : Int)])).2.bs 8 := tot_congr (aft_idle KI.out CM.out.1).2
                      have e1 : tot (dn C (byts [1, (K : Int), (U : Int), (V : Int)])).2.bs 8 = tot C.bs 8 := by rw [(CM.out.2.1 HCN.out).1]
                      exact e0.trans e1
                    go_wp2_with (first | (go_at_call 18; refine (kpick_any _ _ _ zlo zhi (by omega) (by omega)).mono ?_; rintro e w0 ⟨rfl, hw0⟩; subst w0) | (go_at_call_has 32 (2 : Nat); refine (text2 _ _ _ _ _ rfl ⟨by omega, by omega⟩ ⟨by omega, by omega⟩).mono ?_; rintro e w1 ⟨rfl, hb1⟩; have B1 : Hid (Below wr.heap.size wr w1) := hb1; have k1 := KB.out.below hb1; have z1 := hb1.size; clear hb1 k1) | (go_at_call_has 32 (4 : Nat); refine (text4 _ _ _ _ _ _ _ rfl ⟨by omega, by omega⟩ ⟨by omega, by omega⟩ ⟨by omega, by omega⟩ ⟨by omega, by omega⟩).mono ?_; rintro e w2 ⟨rfl, hb2⟩; have B2 : Hid (Below w1.heap.size w1 w2) := hb2; have k2 := (KB.out.below B1.out).below hb2; have z2 := hb2.size; clear hb2 k2) | (go_at_call_has 32 (1 : Nat); refine (text1 _ _ _ _ (by first | with_reducible rfl | rw [sz_setCell]) ⟨by omega, by omega⟩).mono ?_; rintro e w3 ⟨rfl, hb3⟩; have B3 : Hid _ := hb3; have z3 := hb3.size; clear hb3) | (go_at_call 33; refine (kpages_any _ _ _ hU hV).mono ?_; rintro e w5 ⟨rfl, hw5⟩; subst w5) | (go_at_call 31; refine (ask_as G g C (byts [1, (K : Int), (U : Int), (V : Int)]) _ _ _ (((KS.out.below B1.out).below B2.out).below B3.out) KI.out CM.out.1 (by rw [(CM.out.2.1 HCN.out).1, HCE1.out]) (CM.out.2.1 HCN.out).2).mono ?_; rintro e w4 ⟨rfl, hg4⟩; have G4 : Hid _ := hg4; obtain ⟨_, G', hs4, _⟩ := hg4; have S4 : Hid _ := hs4; clear hs4) | (go_at_call 29; refine (kfree' G' g _ _ _ S4.out (aft_idle KI.out CM.out.1).1 HT.out).mono ?_; rintro e w6 ⟨rfl, hb6⟩))
                    refine ⟨QR.next (m := byts [1, (K : Int), (U : Int), (V : Int)]) (k := k) hlt KI.out CM.out.1 G4.out (((KB.out.below B1.out).below B2.out).below B3.out) KN.out (fun j _ => by rw [(CM.out.2.1 HCN.out).1]) (((KW.out.trans (B1.out.mono zW)).trans (B2.out.mono (by omega))).trans (B3.out.mono (by omega))) KG.out hbb hb6 (by go_num) (by rw [(CM.out.2.1 HCN.out).1]), ?_⟩
                    simp [intOf]; omega
                  · have v2' : ¬ (24 : Int) < V := by omega
                    have su : side U = true := decide_eq_true ⟨by omega, by omega⟩
                    have sv : side V = true := decide_eq_true ⟨by omega, by omega⟩
                    have hpg : 1 ≤ pg ((U : Int) * V) ∧ pg ((U : Int) * V) ≤ 9 := by have := mul24 (side_bd su) (side_bd sv); unfold pg; omega
                    obtain ⟨p0, p1⟩ := hpg
                    obtain ⟨m0, m1⟩ := mul24 (side_bd su) (side_bd sv)
                    by_cases hq : 12 < tot C.bs 8 + pg ((U : Int) * V)
                    · have hcn : can C.bs K U V = 5 := by unfold can; rw [if_neg (by omega), if_neg ht, if_pos ⟨su, sv⟩, if_pos hq]
                      have hcn0 : ¬ can C.bs K U V = 0 := by omega
                      have HCN : Hid (¬ can C.bs K U V = 0) := hcn0
                      have HCE1 : Hid (can C.bs K U V = 5) := hcn
                      clear hcn hcn0
                      have HT : Hid (tot (aftM C (byts [1, (K : Int), (U : Int), (V : Int)])).bs 8 = tot C.bs 8) := by
                        have e0 : tot (aftM C (byts [1, (K : Int), (U : Int), (V : Int)])).bs 8 = tot (dn C (byts [1, (K : Int), (U : Int), (V : Int)])).2.bs 8 := tot_congr (aft_idle KI.out CM.out.1).2
                        have e1 : tot (dn C (byts [1, (K : Int), (U : Int), (V : Int)])).2.bs 8 = tot C.bs 8 := by rw [(CM.out.2.1 HCN.out).1]
                        exact e0.trans e1
                      go_wp2_with (first | (go_at_call 18; refine (kpick_any _ _ _ zlo zhi (by omega) (by omega)).mono ?_; rintro e w0 ⟨rfl, hw0⟩; subst w0) | (go_at_call_has 32 (2 : Nat); refine (text2 _ _ _ _ _ rfl ⟨by omega, by omega⟩ ⟨by omega, by omega⟩).mono ?_; rintro e w1 ⟨rfl, hb1⟩; have B1 : Hid (Below wr.heap.size wr w1) := hb1; have k1 := KB.out.below hb1; have z1 := hb1.size; clear hb1 k1) | (go_at_call_has 32 (4 : Nat); refine (text4 _ _ _ _ _ _ _ rfl ⟨by omega, by omega⟩ ⟨by omega, by omega⟩ ⟨by omega, by omega⟩ ⟨by omega, by omega⟩).mono ?_; rintro e w2 ⟨rfl, hb2⟩; have B2 : Hid (Below w1.heap.size w1 w2) := hb2; have k2 := (KB.out.below B1.out).below hb2; have z2 := hb2.size; clear hb2 k2) | (go_at_call_has 32 (1 : Nat); refine (text1 _ _ _ _ (by first | with_reducible rfl | rw [sz_setCell]) ⟨by omega, by omega⟩).mono ?_; rintro e w3 ⟨rfl, hb3⟩; have B3 : Hid _ := hb3; have z3 := hb3.size; clear hb3) | (go_at_call 33; refine (kpages_any _ _ _ hU hV).mono ?_; rintro e w5 ⟨rfl, hw5⟩; subst w5) | (go_at_call 31; refine (ask_as G g C (byts [1, (K : Int), (U : Int), (V : Int)]) _ _ _ (((KS.out.below B1.out).below B2.out).below B3.out) KI.out CM.out.1 (by rw [(CM.out.2.1 HCN.out).1, HCE1.out]) (CM.out.2.1 HCN.out).2).mono ?_; rintro e w4 ⟨rfl, hg4⟩; have G4 : Hid _ := hg4; obtain ⟨_, G', hs4, _⟩ := hg4; have S4 : Hid _ := hs4; clear hs4) | (go_at_call 29; refine (kfree' G' g _ _ _ S4.out (aft_idle KI.out CM.out.1).1 HT.out).mono ?_; rintro e w6 ⟨rfl, hb6⟩))
                      refine ⟨QR.next (m := byts [1, (K : Int), (U : Int), (V : Int)]) (k := k) hlt KI.out CM.out.1 G4.out (((KB.out.below B1.out).below B2.out).below B3.out) KN.out (fun j _ => by rw [(CM.out.2.1 HCN.out).1]) (((KW.out.trans (B1.out.mono zW)).trans (B2.out.mono (by omega))).trans (B3.out.mono (by omega))) KG.out hbb hb6 (by go_num) (by rw [(CM.out.2.1 HCN.out).1]), ?_⟩
                      simp [intOf]; omega
                    · have zlen : ((zeros (U * V)).length : Int) = (U : Int) * V := by simp [zeros]
                      have e1K : (C.bs K).length = 0 := by omega
                      have e0K' : pg ((C.bs K).length : Int) = 0 := by rw [e1K]; exact pg_zero
                      have e0K : Hid (pg ((C.bs K).length : Int) = 0) := e0K'
                      have ZL : Hid (((zeros (U * V)).length : Int) = (U : Int) * V) := zlen
                      clear e1K e0K' zlen
                      have hcn : can C.bs K U V = 0 := by unfold can; rw [if_neg (by omega), if_neg ht, if_pos ⟨su, sv⟩, if_neg (by omega)]
                      have HCN : Hid (can C.bs K U V = 0) := hcn
                      clear hcn
                      have HT : Hid (tot (aftM C (byts [1, (K : Int), (U : Int), (V : Int)])).bs 8 = tot C.bs 8 + pg ((U : Int) * V)) := by
                        have e0 : tot (aftM C (byts [1, (K : Int), (U : Int), (V : Int)])).bs 8 = tot (dn C (byts [1, (K : Int), (U : Int), (V : Int)])).2.bs 8 := tot_congr (aft_idle KI.out CM.out.1).2
                        have e1 : tot (dn C (byts [1, (K : Int), (U : Int), (V : Int)])).2.bs 8 = tot C.bs 8 + pg ((U : Int) * V) := by rw [(CM.out.2.2 HCN.out).2.1, tot_upd h8, ZL.out, e0K.out]; omega
                        exact e0.trans e1
                      go_wp2_with (first | (go_at_call 18; refine (kpick_any _ _ _ zlo zhi (by omega) (by omega)).mono ?_; rintro e w0 ⟨rfl, hw0⟩; subst w0) | (go_at_call_has 32 (2 : Nat); refine (text2 _ _ _ _ _ rfl ⟨by omega, by omega⟩ ⟨by omega, by omega⟩).mono ?_; rintro e w1 ⟨rfl, hb1⟩; have B1 : Hid (Below wr.heap.size wr w1) := hb1; have k1 := KB.out.below hb1; have z1 := hb1.size; clear hb1 k1) | (go_at_call_has 32 (4 : Nat); refine (text4 _ _ _ _ _ _ _ rfl ⟨by omega, by omega⟩ ⟨by omega, by omega⟩ ⟨by omega, by omega⟩ ⟨by omega, by omega⟩).mono ?_; rintro e w2 ⟨rfl, hb2⟩; have B2 : Hid (Below w1.heap.size w1 w2) := hb2; have k2 := (KB.out.below B1.out).below hb2; have z2 := hb2.size; have q2 := k2.ce K h8; have f2 := k2.fz K; have l2 := k2.lt; clear hb2 k2) | (go_at_call_has 32 (1 : Nat); refine (text1 _ _ _ _ (by first | with_reducible rfl | rw [sz_setCell]) ⟨by omega, by omega⟩).mono ?_; rintro e w3 ⟨rfl, hb3⟩; have B3 : Hid _ := hb3; have z3 := hb3.size; clear hb3) | (go_at_call 33; refine (kpages_any _ _ _ hU hV).mono ?_; rintro e w5 ⟨rfl, hw5⟩; subst w5) | (go_at_call 31; refine (ask_as G g C (byts [1, (K : Int), (U : Int), (V : Int)]) _ _ _ ((((KS.out.below B1.out).below B2.out).setOut (p := ⟨wb.heap.size, K, none⟩) KN.out _).below B3.out) KI.out CM.out.1 (CM.out.2.2 HCN.out).1 (CM.out.2.2 HCN.out).2.2).mono ?_; rintro e w4 ⟨rfl, hg4⟩; have G4 : Hid _ := hg4; obtain ⟨_, G', hs4, _⟩ := hg4; have S4 : Hid _ := hs4; clear hs4) | (go_at_call 29; refine (kfree' G' g _ _ _ S4.out (aft_idle KI.out CM.out.1).1 HT.out).mono ?_; rintro e w6 ⟨rfl, hb6⟩))
                      refine ⟨QR.next (m := byts [1, (K : Int), (U : Int), (V : Int)]) (k := k) hlt KI.out CM.out.1 G4.out ((((KB.out.below B1.out).below B2.out).set (l := zeros (U * V)) h8 (by rw [ZL.out])).below B3.out) KN.out (fun j _ => by rw [(CM.out.2.2 HCN.out).2.1]) (((((KW.out.trans (B1.out.mono zW)).trans (B2.out.mono (by omega)))).setCell (p := ⟨wb.heap.size, K, none⟩) hbb _).trans (B3.out.mono (by rw [sz_setCell]; omega))) KG.out hbb hb6 (by go_num) (by rw [(CM.out.2.2 HCN.out).2.1, tot_upd h8, ZL.out, e0K.out]; go_num), ?_⟩
                      simp [intOf]; omega
        · have K8 : ¬ (K : Int) < 8 := by omega
          have K8' : (8 : Int) ≤ K := by omega
          have hcn : can C.bs K U V = 2 := by unfold can; rw [if_pos (by omega)]
          have hcn0 : ¬ can C.bs K U V = 0 := by omega
          have HCN : Hid (¬ can C.bs K U V = 0) := hcn0
          have HCE1 : Hid (can C.bs K U V = 2) := hcn
          clear hcn hcn0
          have HT : Hid (tot (aftM C (byts [1, (K : Int), (U : Int), (V : Int)])).bs 8 = tot C.bs 8) := by
            have e0 : tot (aftM C (byts [1, (K : Int), (U : Int), (V : Int)])).bs 8 = tot (dn C (byts [1, (K : Int), (U : Int), (V : Int)])).2.bs 8 := tot_congr (aft_idle KI.out CM.out.1).2
            have e1 : tot (dn C (byts [1, (K : Int), (U : Int), (V : Int)])).2.bs 8 = tot C.bs 8 := by rw [(CM.out.2.1 HCN.out).1]
            exact e0.trans e1
          go_wp2_with (first | (go_at_call 18; refine (kpick_any _ _ _ zlo zhi (by omega) (by omega)).mono ?_; rintro e w0 ⟨rfl, hw0⟩; subst w0) | (go_at_call_has 32 (2 : Nat); refine (text2 _ _ _ _ _ rfl ⟨by omega, by omega⟩ ⟨by omega, by omega⟩).mono ?_; rintro e w1 ⟨rfl, hb1⟩; have B1 : Hid (Below wr.heap.size wr w1) := hb1; have k1 := KB.out.below hb1; have z1 := hb1.size; clear hb1 k1) | (go_at_call_has 32 (4 : Nat); refine (text4 _ _ _ _ _ _ _ rfl ⟨by omega, by omega⟩ ⟨by omega, by omega⟩ ⟨by omega, by omega⟩ ⟨by omega, by omega⟩).mono ?_; rintro e w2 ⟨rfl, hb2⟩; have B2 : Hid (Below w1.heap.size w1 w2) := hb2; have k2 := (KB.out.below B1.out).below hb2; have z2 := hb2.size; clear hb2 k2) | (go_at_call_has 32 (1 : Nat); refine (text1 _ _ _ _ (by first | with_reducible rfl | rw [sz_setCell]) ⟨by omega, by omega⟩).mono ?_; rintro e w3 ⟨rfl, hb3⟩; have B3 : Hid _ := hb3; have z3 := hb3.size; clear hb3) | (go_at_call 33; refine (kpages_any _ _ _ hU hV).mono ?_; rintro e w5 ⟨rfl, hw5⟩; subst w5) | (go_at_call 31; refine (ask_as G g C (byts [1, (K : Int), (U : Int), (V : Int)]) _ _ _ (((KS.out.below B1.out).below B2.out).below B3.out) KI.out CM.out.1 (by rw [(CM.out.2.1 HCN.out).1, HCE1.out]) (CM.out.2.1 HCN.out).2).mono ?_; rintro e w4 ⟨rfl, hg4⟩; have G4 : Hid _ := hg4; obtain ⟨_, G', hs4, _⟩ := hg4; have S4 : Hid _ := hs4; clear hs4) | (go_at_call 29; refine (kfree' G' g _ _ _ S4.out (aft_idle KI.out CM.out.1).1 HT.out).mono ?_; rintro e w6 ⟨rfl, hb6⟩))
          refine ⟨QR.next (m := byts [1, (K : Int), (U : Int), (V : Int)]) (k := k) hlt KI.out CM.out.1 G4.out (((KB.out.below B1.out).below B2.out).below B3.out) KN.out (fun j _ => by rw [(CM.out.2.1 HCN.out).1]) (((KW.out.trans (B1.out.mono zW)).trans (B2.out.mono (by omega))).trans (B3.out.mono (by omega))) KG.out hbb hb6 (by go_num) (by rw [(CM.out.2.1 HCN.out).1]), ?_⟩
          simp [intOf]; omega
    · have k1 : ¬ (k : Int) < N := by omega
      go_wp2_with (go_at_call 29; refine (kfree' G g C _ _ KS.out KI.out rfl).mono ?_; rintro e w6 ⟨rfl, hb6⟩)
      go_ret
      exact ⟨rfl, KW.out.trans (hb6.mono zW)⟩

end Go.Proofs.Ytbedkfgdhaajaaa
