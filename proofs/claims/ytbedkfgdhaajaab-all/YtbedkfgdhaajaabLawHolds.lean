/- Walks: holds (package tenantslaw): a script on pairs (P1, P2, P6 to P13). -/
import Derived.Test.YtbedkfgdhaajaabLawScript
import Derived.Deep.RegionHeld3
namespace Go.Proofs.Ytbedkfgdhaajaab
open Go.RowKit

/-- the argument: a script's steps in a row -/
def ArgS (W : World) (ao : Option Addr) (n : Nat) : Prop :=
  ∃ b off, (0 < n → ao = some ⟨b, off, none⟩ ∧ b < W.heap.size) ∧ ∀ i, i < n → ∃ (K A C N : Int) (s : ByteArray), W.cell? ⟨b, off + i * 5, none⟩ = some (.int .i64 K) ∧ W.cell? ⟨b, off + i * 5 + 1, none⟩ = some (.int .i64 A) ∧ W.cell? ⟨b, off + i * 5 + 2, none⟩ = some (.int .i64 C) ∧ W.cell? ⟨b, off + i * 5 + 3, none⟩ = some (.int .i64 N) ∧ W.cell? ⟨b, off + i * 5 + 4, none⟩ = some (.string s) ∧ (-9223372036854775808 ≤ A ∧ A ≤ 9223372036854775807) ∧ s.size ≤ 140737488355328

def HR (W : World) (N : Nat) (l i : Value) (wr : World) : Prop :=
  ∃ (k n cap : Nat) (ao : Option Addr) (X H : Nat → Option Addr) (Gs : Nat → Nat → Prop), k ≤ N ∧ n ≤ k ∧ i = .int .i64 k ∧ l = .slice ao n cap ∧ LS W wr ao cap n X H Gs

theorem info_pair : (Try.prog.info? 96).map (fun i => (i.zero, i.size, i.bytes)) = some (some (.agg #[.pointer none, .pointer none]), 2, 16) := by kernel_rfl

/-- the step's copy, behind undrawn -/
theorem o_cells {w w2 : World} {K A C N : Int} {s : ByteArray} {t : TypeId} (hb : Below (w.alloc (.cells #[.int .i64 K, .int .i64 A, .int .i64 C, .int .i64 N, .string s] t)).heap.size (w.alloc (.cells #[.int .i64 K, .int .i64 A, .int .i64 C, .int .i64 N, .string s] t)) w2) :
    w2.cell? ⟨w.heap.size, 0, none⟩ = some (.int .i64 K) ∧ w2.cell? ⟨w.heap.size, 1, none⟩ = some (.int .i64 A) ∧ w2.cell? ⟨w.heap.size, 2, none⟩ = some (.int .i64 C) ∧ w2.cell? ⟨w.heap.size, 3, none⟩ = some (.int .i64 N) ∧ w2.cell? ⟨w.heap.size, 4, none⟩ = some (.string s) ∧ (∀ j, w2.frozen? ⟨w.heap.size, j, none⟩ = false) ∧ w.heap.size < w2.heap.size ∧ Below w.heap.size w w2 := by
  have hz := hb.size
  simp only [World.size_alloc] at hz
  refine ⟨?_, ?_, ?_, ?_, ?_, fun j => ?_, by omega, ((Below.refl _ _).alloc (Nat.le_refl _) _).trans (hb.mono (by simp))⟩
  · rw [hb.cell (by simp), World.cell?_alloc_at _ _ _ _ rfl]; rfl
  · rw [hb.cell (by simp), World.cell?_alloc_at _ _ _ _ rfl]; rfl
  · rw [hb.cell (by simp), World.cell?_alloc_at _ _ _ _ rfl]; rfl
  · rw [hb.cell (by simp), World.cell?_alloc_at _ _ _ _ rfl]; rfl
  · rw [hb.cell (by simp), World.cell?_alloc_at _ _ _ _ rfl]; rfl
  · rw [hb.frozen (by simp), World.frozen?_alloc_at _ _ _ _ rfl]

theorem src_pair (w : World) (x h : Option Addr) (t : TypeId) (b : Nat) (hb : b = w.heap.size) : Src Try.prog 2 89 (.slice (some ⟨b, 0, none⟩) 1 1) 1 [.pointer x, .pointer h] (w.alloc (.cells #[.pointer x, .pointer h] t)) := by
  subst hb
  refine Src.ofSlice _ Try.underlying89 ⟨w.heap.size, 0, none⟩ 1 1 _ rfl (fun j u hj => ?_) (fun u hu => ?_)
  · rw [Addr.add_lit, Nat.zero_add, World.cell?_alloc_at _ _ _ _ rfl, ← hj]
    exact List.getElem?_toArray
  · simp at hu
    rcases hu with rfl | rfl <;> rfl

theorem chain3 {a w2 : World} {v : Value} (h2 : Below a.heap.size a w2) : Below a.heap.size a (w2.setCell ⟨a.heap.size, 4, none⟩ v) := h2.setCell (Nat.le_refl _) _
theorem chain5 {a w2 w4 w5 : World} {v : Value} (h2 : Below a.heap.size a w2) (h4 : Below (w2.setCell ⟨a.heap.size, 4, none⟩ v).heap.size (w2.setCell ⟨a.heap.size, 4, none⟩ v) w4) (h5 : Below w4.heap.size w4 w5) : Below a.heap.size a w5 := by
  have z2 := h2.size
  have z4 := h4.size
  rw [sz_setCell] at z4
  exact ((chain3 h2).trans (h4.mono (by rw [sz_setCell]; exact z2))).trans (h5.mono (by omega))

/-- a pair of both more: what the next round starts from -/
theorem hr_new {W wr w2 w4 w5 w7 : World} {al ao2 : Option Addr} {cp n k N cap2 : Nat} {X H : Nat → Option Addr} {Gs : Nat → Nat → Prop} {v : Value} {O : Obj} (KL : LS W wr al cp n X H Gs) (hk : k < N) (hn : n ≤ k) (h2 : Below wr.heap.size wr w2) (h4 : Below (w2.setCell ⟨wr.heap.size, 4, none⟩ v).heap.size (w2.setCell ⟨wr.heap.size, 4, none⟩ v) w4)
    (s4 : Sv w4 (fun b => b = (w2.setCell ⟨wr.heap.size, 4, none⟩ v).heap.size) (w2.setCell ⟨wr.heap.size, 4, none⟩ v).heap.size (fun _ => none)) (h5 : Below w4.heap.size w4 w5) (s5 : HAt w5 w4.heap.size (fun _ => none))
    (hv : VS w7 ao2 cap2 2 (n + 1) (pcl X H n ++ [.pointer (some ⟨w2.heap.size, 0, none⟩), .pointer (some ⟨w4.heap.size, 0, none⟩)])) (h7 : Only (blk al) (w5.alloc O) w7) (hb : ∀ b, blk ao2 b → blk al b ∨ (w5.alloc O).heap.size ≤ b) {i : Value} (hi : i = .int .i64 ((k + 1 : Nat) : Int)) :
    HR W N (.slice ao2 (n + 1) cap2) i w7 := by
  have z2 := h2.size
  have hP := pr_new s4 h5 s5
  rw [sz_setCell] at hP
  have L5 := KL.below (chain5 h2 h4 h5)
  have hz := KL.bel.size
  refine ⟨k + 1, n + 1, cap2, ao2, _, _, _, by omega, by omega, hi, rfl, L5.push hP (fun i b hi q1 q2 => ?_) (fun b q1 q2 => ?_) (fun b q => by omega) hv h7 hb⟩
  · have := (KL.pr i hi).1 b q2; omega
  · have := KL.vs.lt q2; omega

/-- a pair of none more -/
theorem hr_nil {W wr w2 w7 : World} {al ao2 : Option Addr} {cp n k N cap2 : Nat} {X H : Nat → Option Addr} {Gs : Nat → Nat → Prop} {v : Value} {O : Obj} (KL : LS W wr al cp n X H Gs) (hk : k < N) (hn : n ≤ k) (h2 : Below wr.heap.size wr w2)
    (hv : VS w7 ao2 cap2 2 (n + 1) (pcl X H n ++ [.pointer none, .pointer none])) (h7 : Only (blk al) ((w2.setCell ⟨wr.heap.size, 4, none⟩ v).alloc O) w7) (hb : ∀ b, blk ao2 b → blk al b ∨ ((w2.setCell ⟨wr.heap.size, 4, none⟩ v).alloc O).heap.size ≤ b) {i : Value} (hi : i = .int .i64 ((k + 1 : Nat) : Int)) :
    HR W N (.slice ao2 (n + 1) cap2) i w7 :=
  ⟨k + 1, n + 1, cap2, ao2, _, _, _, by omega, by omega, hi, rfl, (KL.below (chain3 h2)).push (G := fun _ => False) ⟨fun _ q => q.elim, .inl ⟨rfl, rfl⟩⟩ (fun _ _ _ q => q.elim) (fun _ q => q.elim) (fun _ q => q.elim) hv h7 hb⟩

theorem LS.cells' {W w : World} {b off cap n : Nat} {X H : Nat → Option Addr} {Gs : Nat → Nat → Prop} (h : LS W w (some ⟨b, off, none⟩) cap n X H Gs) {i : Nat} (hi : i < n) : w.cell? ⟨b, off + i * 2, none⟩ = some (.pointer (X i)) ∧ w.cell? ⟨b, off + i * 2 + 1, none⟩ = some (.pointer (H i)) := by
  obtain ⟨b', off', e, _, h1, h2⟩ := h.cells hi
  injection e with e
  injection e with e1 e2 _
  subst e1 e2
  exact ⟨h1, h2⟩

theorem lpick_as (c n v : Int) (w : World) (h : -9223372036854775808 ≤ c ∧ c ≤ 9223372036854775807) (h3 : 0 < n) (h4 : n ≤ 140737488355328) (hv : lpk c n = v) :
    Calls Try.prog 34 #[.int .i64 c, .int .i64 n] w fun e w' => e = .returned (.int .i64 v) ∧ w' = w := by
  subst hv; exact lpick_any c n w h.1 h.2 h3 h4

/-- a step has been played -/
theorem hr_play {W wr w2 w3 w9 : World} {al : Option Addr} {cp n k N p : Nat} {X H : Nat → Option Addr} {Gs : Nat → Nat → Prop} {v : Value} (KL : LS W wr al cp n X H Gs) (hk : k < N) (hn : n ≤ k) (hp : p < n) (h2 : Below wr.heap.size wr w2) (h3 : Below (w2.setCell ⟨wr.heap.size, 4, none⟩ v).heap.size (w2.setCell ⟨wr.heap.size, 4, none⟩ v) w3) (hg : PGo (Gs p) w3 w9 (X p) (H p)) {i : Value} (hi : i = .int .i64 ((k + 1 : Nat) : Int)) :
    HR W N (.slice al n cp) i w9 := by
  obtain ⟨G, hL⟩ := ((KL.below (chain3 h2)).below h3).step hp hg
  exact ⟨k + 1, n, cp, al, X, H, _, by omega, by omega, hi, rfl, hL⟩

set_option maxRecDepth 8000 in
set_option maxHeartbeats 4000000 in
theorem lholds_any (HD : DrawsRight) (ao : Option Addr) (N cap : Nat) (held : Int) (W : World) (hN : N ≤ 2932031007402) (hA : ArgS W ao N) :
    Calls Try.prog 22 #[.slice ao N cap, .int .i64 held, .bool true] W fun e w' => e = .returned (.bool true) ∧ Below W.heap.size W w' := by
  obtain ⟨ab, aoff, ha, hcells⟩ := hA
  have HA : Hid (0 < N → ao = some ⟨ab, aoff, none⟩ ∧ ab < W.heap.size) := ha
  have HCE : Hid (∀ i, i < N → ∃ (K A C N : Int) (s : ByteArray), W.cell? ⟨ab, aoff + i * 5, none⟩ = some (.int .i64 K) ∧ W.cell? ⟨ab, aoff + i * 5 + 1, none⟩ = some (.int .i64 A) ∧ W.cell? ⟨ab, aoff + i * 5 + 2, none⟩ = some (.int .i64 C) ∧ W.cell? ⟨ab, aoff + i * 5 + 3, none⟩ = some (.int .i64 N) ∧ W.cell? ⟨ab, aoff + i * 5 + 4, none⟩ = some (.string s) ∧ (-9223372036854775808 ≤ A ∧ A ≤ 9223372036854775807) ∧ s.size ≤ 140737488355328) := hcells
  have HDR : Hid DrawsRight := HD
  have hN' : (N : Int) ≤ 2932031007402 := by omega
  have HNN : Hid (N ≤ 2932031007402) := hN
  clear ha hcells HD hN
  go_enter Try.func22, Try.ntmps22
  go_wp2
  go_loopw [7, 8, 9, 10, 11, 12] (fun l i _ _ _ _ wr => HR W N l i wr) (fun _ i _ _ _ _ _ => N - (intOf i).toNat)
  case atStart => exact ⟨0, 0, 0, none, fun _ => none, fun _ => none, fun _ _ => False, by omega, by omega, rfl, rfl, ⟨VS.bare _ _, fun i hi => by omega, fun i j b hi => by omega, fun i b hi => by omega, fun i b hi => by omega, fun b q => (blk_none q).elim, Below.refl _ _⟩⟩
  case round =>
    obtain ⟨k, n, cp, al, X, H, Gs, hk, hn, rfl, rfl, hL⟩ := hrel
    have KL : Hid (LS W wr al cp n X H Gs) := hL
    by_cases hlt : k < N
    · obtain ⟨eao, hab⟩ := HA.out (by omega)
      obtain ⟨K, A, C, M, s, x0, x1, x2, x3, x4, xA, xs⟩ := HCE.out k hlt
      have q0 := (hL.bel.cell (p := ⟨ab, aoff + k * 5, none⟩) hab).trans x0
      have q1 := (hL.bel.cell (p := ⟨ab, aoff + k * 5 + 1, none⟩) hab).trans x1
      have q2 := (hL.bel.cell (p := ⟨ab, aoff + k * 5 + 2, none⟩) hab).trans x2
      have q3 := (hL.bel.cell (p := ⟨ab, aoff + k * 5 + 3, none⟩) hab).trans x3
      have q4 := (hL.bel.cell (p := ⟨ab, aoff + k * 5 + 4, none⟩) hab).trans x4
      have XA : Hid (-9223372036854775808 ≤ A ∧ A ≤ 9223372036854775807) := xA
      have XS : Hid (s.size ≤ 140737488355328) := xs
      have k0 : (0 : Int) ≤ k := by omega
      have k1 : (k : Int) < N := by omega
      have qab : ab < wr.heap.size := by have := hL.bel.size; omega
      subst eao
      clear hL x0 x1 x2 x3 x4 xA xs
      by_cases e1 : K = 1
      · have d1 : (K == 1) = true := by rw [beq_iff_eq]; exact e1
        clear e1
        go_wp2_with (first | (go_at_call 32; refine (undrawn_any s _ XS.out).mono ?_; rintro e w2 ⟨⟨s', rfl, hsz, h7⟩, hb2⟩; obtain ⟨y0, y1, y2, y3, y4, yf, yl, yB⟩ := o_cells hb2; have HB2 : Hid (Below wr.heap.size wr w2) := yB; have H7 : Hid (no7 s'.data.toList) := h7; have HSZ : Hid (s'.size = s.size) := hsz; clear hb2 h7 hsz yB) | (go_at_call 23; refine (new_any _).mono ?_; rintro e w4 ⟨rfl, hb4, hs4⟩; have B4 : Hid (Below (w2.setCell ⟨wr.heap.size, 4, none⟩ (.string s')).heap.size (w2.setCell ⟨wr.heap.size, 4, none⟩ (.string s')) w4) := hb4; have S4 : Hid (Sv w4 (fun b => b = (w2.setCell ⟨wr.heap.size, 4, none⟩ (.string s')).heap.size) (w2.setCell ⟨wr.heap.size, 4, none⟩ (.string s')).heap.size (fun _ => none)) := hs4; clear hb4 hs4) | (go_at_call 33; refine (hnew_any _).mono ?_; rintro e w5 ⟨rfl, hb5, hs5⟩; have B5 : Hid (Below w4.heap.size w4 w5) := hb5; have S5 : Hid (HAt w5 w4.heap.size (fun _ => none)) := hs5; have VS5 : Hid (VS w5 al cp 2 n (pcl X H n)) := (KL.out.below (chain5 HB2.out B4.out hb5)).vs; clear hb5 hs5) | (at_builtin; refine wpList_append_v rfl (.tmp 36) (.tmp 40) 89 89 rfl 96 (.agg #[.pointer none, .pointer none]) 2 16 Try.underlying89 info_pair rfl (VS5.out.alloc _) rfl _ 1 [.pointer (some ⟨w2.heap.size, 0, none⟩), .pointer (some ⟨w4.heap.size, 0, none⟩)] rfl (src_pair w5 _ _ _ _ rfl) (by have := HNN.out; omega) (by have := HNN.out; omega) ?_; intro ao2 cap2 w7 hv7 ho7 hk7; have V7 : Hid (VS w7 ao2 cap2 2 (n + 1) (pcl X H n ++ [.pointer (some ⟨w2.heap.size, 0, none⟩), .pointer (some ⟨w4.heap.size, 0, none⟩)])) := hv7; have O7 : Hid (Only (blk al) (w5.alloc (.cells #[.pointer (some ⟨w2.heap.size, 0, none⟩), .pointer (some ⟨w4.heap.size, 0, none⟩)] 96)) w7) := ho7; have K7 : Hid (∀ b, blk ao2 b → blk al b ∨ (w5.alloc (.cells #[.pointer (some ⟨w2.heap.size, 0, none⟩), .pointer (some ⟨w4.heap.size, 0, none⟩)] 96)).heap.size ≤ b) := hk7; clear hv7 ho7 hk7))
        all_goals
          go_roundw
          case rel => exact hr_new KL.out hlt hn HB2.out B4.out S4.out B5.out S5.out V7.out O7.out K7.out (by go_num)
          case measure => simp [intOf]; omega
      · have d1 : (K == 1) = false := beq_false_of_ne e1
        by_cases e2 : K = 2
        · have d2 : (K == 2) = true := by rw [beq_iff_eq]; exact e2
          clear e1 e2
          go_wp2_with (first | (go_at_call 32; refine (undrawn_any s _ XS.out).mono ?_; rintro e w2 ⟨⟨s', rfl, hsz, h7⟩, hb2⟩; obtain ⟨y0, y1, y2, y3, y4, yf, yl, yB⟩ := o_cells hb2; have HB2 : Hid (Below wr.heap.size wr w2) := yB; have H7 : Hid (no7 s'.data.toList) := h7; have HSZ : Hid (s'.size = s.size) := hsz; clear hb2 h7 hsz yB) | (at_builtin; refine wpList_append_v rfl (.tmp 46) (.tmp 48) 89 89 rfl 96 (.agg #[.pointer none, .pointer none]) 2 16 Try.underlying89 info_pair rfl (((KL.out.below (chain3 HB2.out)).vs).alloc _) rfl _ 1 [.pointer none, .pointer none] rfl (src_pair (w2.setCell ⟨wr.heap.size, 4, none⟩ (.string s')) _ _ _ _ (by rw [sz_setCell])) (by have := HNN.out; omega) (by have := HNN.out; omega) ?_; intro ao2 cap2 w7 hv7 ho7 hk7; have V7 : Hid (VS w7 ao2 cap2 2 (n + 1) (pcl X H n ++ [.pointer none, .pointer none])) := hv7; have O7 : Hid _ := ho7; have K7 : Hid _ := hk7; clear hv7 ho7 hk7))
          all_goals
            go_roundw
            case rel => exact hr_nil KL.out hlt hn HB2.out V7.out O7.out K7.out (by go_num)
            case measure => simp [intOf]; omega
        · have d2 : (K == 2) = false := beq_false_of_ne e2
          by_cases hn0 : n = 0
          · have d3 : ¬ (0 : Int) < n := by omega
            clear e1 e2 hn0
            go_wp2_with (first | (go_at_call 32; refine (undrawn_any s _ XS.out).mono ?_; rintro e w2 ⟨⟨s', rfl, hsz, h7⟩, hb2⟩; obtain ⟨y0, y1, y2, y3, y4, yf, yl, yB⟩ := o_cells hb2; have HB2 : Hid (Below wr.heap.size wr w2) := yB; have H7 : Hid (no7 s'.data.toList) := h7; have HSZ : Hid (s'.size = s.size) := hsz; clear hb2 h7 hsz yB))
            go_roundw
            case rel => exact ⟨k + 1, n, cp, al, X, H, Gs, by omega, by omega, by go_num, rfl, KL.out.below (chain3 HB2.out)⟩
            case measure => simp [intOf]; omega
          · have d3 : (0 : Int) < n := by omega
            obtain ⟨pp0, pp1⟩ := lpk_bd (c := A) d3
            obtain ⟨p, hp⟩ : ∃ p : Nat, lpk A n = (p : Int) := ⟨(lpk A n).toNat, by omega⟩
            have HP : Hid (lpk A n = (p : Int)) := hp
            have hpn : p < n := by omega
            obtain ⟨b, off, eal, hb, _, _⟩ := KL.out.cells hpn
            subst eal
            have p0 : (0 : Int) ≤ p := by omega
            have p1 : (p : Int) < n := by omega
            have hbw : b < wr.heap.size := hb
            have hne : ¬ b = wr.heap.size := by omega
            have nn : (n : Int) ≤ 2932031007402 := by omega
            clear e1 e2 hn0 pp0 pp1 hp hb
            go_wp2_with (first | (go_at_call 32; refine (undrawn_any s _ XS.out).mono ?_; rintro e w2 ⟨⟨s', rfl, hsz, h7⟩, hb2⟩; obtain ⟨y0, y1, y2, y3, y4, yf, yl, yB⟩ := o_cells hb2; have HB2 : Hid (Below wr.heap.size wr w2) := yB; have H7 : Hid (no7 s'.data.toList) := h7; have HSZ : Hid (s'.size = s.size) := hsz; clear hb2 h7 hsz yB; obtain ⟨m0, m1⟩ := (KL.out.below HB2.out).cells' hpn; have m2 : b < w2.heap.size := (by have := HB2.out.size; omega)))
            have bd3 : Below (w2.setCell ⟨wr.heap.size, 4, none⟩ (.string s')).heap.size (w2.setCell ⟨wr.heap.size, 4, none⟩ (.string s')) (w2.setCell ⟨wr.heap.size, 4, none⟩ (.string s')).drew := ⟨rfl, rfl, rfl, Nat.le_refl _, fun _ _ => rfl⟩
            have BD3 : Hid (Below (w2.setCell ⟨wr.heap.size, 4, none⟩ (.string s')).heap.size (w2.setCell ⟨wr.heap.size, 4, none⟩ (.string s')) (w2.setCell ⟨wr.heap.size, 4, none⟩ (.string s')).drew) := bd3
            have P3 : Hid (Pr (w2.setCell ⟨wr.heap.size, 4, none⟩ (.string s')).drew (Gs p) (X p) (H p)) := ((KL.out.below (chain3 (v := .string s') HB2.out)).pr p hpn).below bd3
            have HS2 : Hid (s'.size ≤ 4611686018427387904) := by have h1 := XS.out; have h2 := HSZ.out; exact (by omega : s'.size ≤ 4611686018427387904)
            clear bd3
            go_region_with (first | (go_at_call 34; refine (lpick_as _ _ _ _ XA.out (by omega) (by omega) HP.out).mono ?_; rintro e w5 ⟨rfl, w5e⟩; subst w5) | (go_at_call 35; refine (plays_any HDR.out (Gs p) (X p) (H p) K A C M held s' _ P3.out HS2.out H7.out).mono ?_; rintro e w9 ⟨rfl, hg9⟩; have G9 : Hid (PGo (Gs p) (w2.setCell ⟨wr.heap.size, 4, none⟩ (.string s')).drew w9 (X p) (H p)) := hg9; clear hg9))
            all_goals
              go_wp2
              go_roundw
              case rel => exact hr_play KL.out hlt hn hpn HB2.out BD3.out G9.out (by go_num)
              case measure => simp [intOf]; omega
    · have k1 : ¬ (k : Int) < N := by omega
      go_wp2
      go_ret
      exact ⟨rfl, KL.out.bel⟩

end Go.Proofs.Ytbedkfgdhaajaab
