/- Walks: plays (package tenantslaw): one step on a pair (P6 to P13). -/
import Derived.Test.YtbedkfgdhaajaabLawPair
namespace Go.Proofs.Ytbedkfgdhaajaab
open Go.RowKit

theorem Pr.below {G : Nat → Prop} {w w' : World} {x h : Option Addr} (hP : Pr w G x h) (hb : Below w.heap.size w w') : Pr w' G x h := hP.only (F := fun _ => False) (Only.of_below hb) (fun _ _ q => q)
theorem PGo.of_below {G : Nat → Prop} {w w1 w2 : World} {x h : Option Addr} (hb : Below w.heap.size w w1) (k : PGo G w1 w2 x h) : PGo G w w2 x h := by
  obtain ⟨o, G', p, f⟩ := k
  refine ⟨(Only.of_below hb).trans o (fun b q => .inl q), G', p, fun b q => (f b q).imp id (fun r => by have := hb.size; omega)⟩

/-- the boxes of a pair and of a step, behind a call -/
theorem box_cells {G : Nat → Prop} {w w1 : World} {x h : Option Addr} {K A C N : Int} {s : ByteArray} {t1 t2 : TypeId} (hin : ∀ b, G b → b < w.heap.size)
    (ho : Only G ((w.alloc (.cells #[.pointer x, .pointer h] t1)).alloc (.cells #[.int .i64 K, .int .i64 A, .int .i64 C, .int .i64 N, .string s] t2)) w1) :
    w1.cell? ⟨w.heap.size, 1, none⟩ = some (.pointer h) ∧ w1.cell? ⟨w.heap.size + 1, 2, none⟩ = some (.int .i64 C) ∧ w1.cell? ⟨w.heap.size + 1, 3, none⟩ = some (.int .i64 N) ∧ w1.cell? ⟨w.heap.size + 1, 4, none⟩ = some (.string s) ∧ w.heap.size < w1.heap.size ∧ w.heap.size + 1 < w1.heap.size := by
  have hz := ho.size
  simp only [World.size_alloc] at hz
  have n0 : ¬ G w.heap.size := fun q => by have := hin _ q; omega
  have n1 : ¬ G (w.heap.size + 1) := fun q => by have := hin _ q; omega
  refine ⟨?_, ?_, ?_, ?_, by omega, by omega⟩
  · rw [ho.cell (by simp; omega) n0, World.cell?_alloc_past _ _ _ (by simp), World.cell?_alloc_at _ _ _ _ rfl]; rfl
  · rw [ho.cell (by simp) n1, World.cell?_alloc_at _ _ _ _ (by simp)]; rfl
  · rw [ho.cell (by simp) n1, World.cell?_alloc_at _ _ _ _ (by simp)]; rfl
  · rw [ho.cell (by simp) n1, World.cell?_alloc_at _ _ _ _ (by simp)]; rfl

theorem box_below (w : World) (o1 o2 : Obj) : Below w.heap.size w ((w.alloc o1).alloc o2) := ((Below.refl _ _).alloc (Nat.le_refl _) _).alloc (by simp) _

theorem both_box {Sh : Value → Prop} {G : Nat → Prop} {w w1 : World} {x h : Option Addr} {f f' : Nat} {args args' : Array Value} (hb : Below w.heap.size w w1) (k : Both Sh G w1 x h f f' args args') :
    Calls Try.prog f args w1 fun e w2 => ∃ r, Sh r ∧ e = .returned r ∧ Only G w1 w2 ∧ Calls Try.prog f' args' w2 fun e w3 => e = .returned r ∧ PGo G w w3 x h :=
  Calls.mono k fun _ _ ⟨r, h1, h2, h3, h4⟩ => ⟨r, h1, h2, h3, h4.mono fun _ _ ⟨a, b⟩ => ⟨a, PGo.of_below hb b⟩⟩

set_option maxRecDepth 8000 in
set_option maxHeartbeats 4000000 in
theorem plays_open (G : Nat → Prop) (x h : Option Addr) (A C N held : Int) (s : ByteArray) (w : World) (hP : Pr w G x h) :
    Calls Try.prog 35 #[.agg #[.pointer x, .pointer h], .agg #[.int .i64 3, .int .i64 A, .int .i64 C, .int .i64 N, .string s], .int .i64 held] w fun e w' => e = .returned (.bool true) ∧ PGo G w w' x h := by
  have HP : Hid (Pr w G x h) := hP
  clear hP
  go_enter Try.func35, Try.ntmps35
  go_wp2_with (first | (go_at_call 15; refine (both_box (box_below w _ _) (open_pr (HP.out.below (box_below w _ _)))).mono ?_; rintro e w1 ⟨r, ⟨n, e0, rfl⟩, rfl, ho1, hk1⟩; obtain ⟨c1, c2, c3, c4, z1, z2⟩ := box_cells HP.out.1 ho1; have K1 : Hid (Calls Try.prog 43 #[.pointer h] w1 fun e w2 => e = .returned (.tuple #[.int .i64 n, .int .i64 e0]) ∧ PGo G w w2 x h) := hk1; clear ho1 hk1) | (go_at_call 43; refine K1.out.mono ?_; rintro e w2 ⟨rfl, hg2⟩; have G2 : Hid (PGo G w w2 x h) := hg2; clear hg2 K1))
  all_goals
    go_ret
    exact ⟨by simp, G2.out⟩

set_option maxRecDepth 8000 in
set_option maxHeartbeats 4000000 in
theorem plays_close (G : Nat → Prop) (x h : Option Addr) (A C N held : Int) (s : ByteArray) (w : World) (hP : Pr w G x h) :
    Calls Try.prog 35 #[.agg #[.pointer x, .pointer h], .agg #[.int .i64 4, .int .i64 A, .int .i64 C, .int .i64 N, .string s], .int .i64 held] w fun e w' => e = .returned (.bool true) ∧ PGo G w w' x h := by
  have HP : Hid (Pr w G x h) := hP
  clear hP
  go_enter Try.func35, Try.ntmps35
  go_wp2_with (first | (go_at_call 28; refine (both_box (box_below w _ _) (close_pr (HP.out.below (box_below w _ _)) C)).mono ?_; rintro e w1 ⟨r, ⟨n, rfl⟩, rfl, ho1, hk1⟩; obtain ⟨c1, c2, c3, c4, z1, z2⟩ := box_cells HP.out.1 ho1; have K1 : Hid (Calls Try.prog 44 #[.pointer h, .int .i64 C] w1 fun e w2 => e = .returned (.int .i64 n) ∧ PGo G w w2 x h) := hk1; clear ho1 hk1) | (go_at_call 44; refine K1.out.mono ?_; rintro e w2 ⟨rfl, hg2⟩; have G2 : Hid (PGo G w w2 x h) := hg2; clear hg2 K1))
  all_goals
    go_ret
    exact ⟨by simp, G2.out⟩

set_option maxRecDepth 8000 in
set_option maxHeartbeats 4000000 in
theorem plays_free (G : Nat → Prop) (x h : Option Addr) (A C N held : Int) (s : ByteArray) (w : World) (hP : Pr w G x h) :
    Calls Try.prog 35 #[.agg #[.pointer x, .pointer h], .agg #[.int .i64 5, .int .i64 A, .int .i64 C, .int .i64 N, .string s], .int .i64 held] w fun e w' => e = .returned (.bool true) ∧ PGo G w w' x h := by
  have HP : Hid (Pr w G x h) := hP
  clear hP
  go_enter Try.func35, Try.ntmps35
  go_wp2_with (first | (go_at_call 45; refine (both_box (box_below w _ _) (free_pr (HP.out.below (box_below w _ _)))).mono ?_; rintro e w1 ⟨r, ⟨n, rfl⟩, rfl, ho1, hk1⟩; obtain ⟨c1, c2, c3, c4, z1, z2⟩ := box_cells HP.out.1 ho1; have K1 : Hid (Calls Try.prog 46 #[.pointer h] w1 fun e w2 => e = .returned (.int .i64 n) ∧ PGo G w w2 x h) := hk1; clear ho1 hk1) | (go_at_call 46; refine K1.out.mono ?_; rintro e w2 ⟨rfl, hg2⟩; have G2 : Hid (PGo G w w2 x h) := hg2; clear hg2 K1))
  all_goals
    go_ret
    exact ⟨by simp, G2.out⟩

set_option maxRecDepth 8000 in
set_option maxHeartbeats 4000000 in
theorem plays_send (G : Nat → Prop) (x h : Option Addr) (A C N held : Int) (s : ByteArray) (w : World) (hP : Pr w G x h) (hs : s.size ≤ 4611686018427387904) (h7 : no7 s.data.toList) :
    Calls Try.prog 35 #[.agg #[.pointer x, .pointer h], .agg #[.int .i64 6, .int .i64 A, .int .i64 C, .int .i64 N, .string s], .int .i64 held] w fun e w' => e = .returned (.bool true) ∧ PGo G w w' x h := by
  have HP : Hid (Pr w G x h) := hP
  have HS : Hid (s.size ≤ 4611686018427387904) := hs
  have H7 : Hid (no7 s.data.toList) := h7
  clear hP hs h7
  go_enter Try.func35, Try.ntmps35
  go_wp2_with (first | (go_at_call 10; refine (both_box (box_below w _ _) (send_pr (HP.out.below (box_below w _ _)) C s HS.out H7.out)).mono ?_; rintro e w1 ⟨r, ⟨n, rfl⟩, rfl, ho1, hk1⟩; obtain ⟨c1, c2, c3, c4, z1, z2⟩ := box_cells HP.out.1 ho1; have K1 : Hid (Calls Try.prog 47 #[.pointer h, .int .i64 C, .string s] w1 fun e w2 => e = .returned (.int .i64 n) ∧ PGo G w w2 x h) := hk1; clear ho1 hk1) | (go_at_call 47; refine K1.out.mono ?_; rintro e w2 ⟨rfl, hg2⟩; have G2 : Hid (PGo G w w2 x h) := hg2; clear hg2 K1))
  all_goals
    go_ret
    exact ⟨by simp, G2.out⟩

set_option maxRecDepth 8000 in
set_option maxHeartbeats 4000000 in
theorem plays_run (HD : DrawsRight) (G : Nat → Prop) (x h : Option Addr) (A C N held : Int) (s : ByteArray) (w : World) (hP : Pr w G x h) :
    Calls Try.prog 35 #[.agg #[.pointer x, .pointer h], .agg #[.int .i64 7, .int .i64 A, .int .i64 C, .int .i64 N, .string s], .int .i64 held] w fun e w' => e = .returned (.bool true) ∧ PGo G w w' x h := by
  have HP : Hid (Pr w G x h) := hP
  have HDR : Hid DrawsRight := HD
  clear hP HD
  go_enter Try.func35, Try.ntmps35
  go_wp2_with (first | (go_at_call 12; refine (both_box (box_below w _ _) (run_pr (HP.out.below (box_below w _ _)) HDR.out C N)).mono ?_; rintro e w1 ⟨r, ⟨n, e0, rfl⟩, rfl, ho1, hk1⟩; obtain ⟨c1, c2, c3, c4, z1, z2⟩ := box_cells HP.out.1 ho1; have K1 : Hid (Calls Try.prog 48 #[.pointer h, .int .i64 C, .int .i64 N] w1 fun e w2 => e = .returned (.tuple #[.int .i64 n, .int .i64 e0]) ∧ PGo G w w2 x h) := hk1; clear ho1 hk1) | (go_at_call 48; refine K1.out.mono ?_; rintro e w2 ⟨rfl, hg2⟩; have G2 : Hid (PGo G w w2 x h) := hg2; clear hg2 K1))
  all_goals
    go_ret
    exact ⟨by simp, G2.out⟩

set_option maxRecDepth 8000 in
set_option maxHeartbeats 4000000 in
theorem plays_take (G : Nat → Prop) (x h : Option Addr) (A C N held : Int) (s : ByteArray) (w : World) (hP : Pr w G x h) :
    Calls Try.prog 35 #[.agg #[.pointer x, .pointer h], .agg #[.int .i64 8, .int .i64 A, .int .i64 C, .int .i64 N, .string s], .int .i64 held] w fun e w' => e = .returned (.bool true) ∧ PGo G w w' x h := by
  have HP : Hid (Pr w G x h) := hP
  clear hP
  go_enter Try.func35, Try.ntmps35
  go_wp2_with (first | (go_at_call 13; refine (both_box (box_below w _ _) (take_pr (HP.out.below (box_below w _ _)) C)).mono ?_; rintro e w1 ⟨r, ⟨n, e0, rfl⟩, rfl, ho1, hk1⟩; obtain ⟨c1, c2, c3, c4, z1, z2⟩ := box_cells HP.out.1 ho1; have K1 : Hid (Calls Try.prog 49 #[.pointer h, .int .i64 C] w1 fun e w2 => e = .returned (.tuple #[.string n, .int .i64 e0]) ∧ PGo G w w2 x h) := hk1; clear ho1 hk1) | (go_at_call 49; refine K1.out.mono ?_; rintro e w2 ⟨rfl, hg2⟩; have G2 : Hid (PGo G w w2 x h) := hg2; clear hg2 K1))
  all_goals
    go_ret
    exact ⟨by simp, G2.out⟩

set_option maxRecDepth 8000 in
set_option maxHeartbeats 4000000 in
theorem plays_none (G : Nat → Prop) (x h : Option Addr) (K A C N held : Int) (s : ByteArray) (w : World) (hP : Pr w G x h) (hK : ¬ (3 ≤ K ∧ K ≤ 8)) :
    Calls Try.prog 35 #[.agg #[.pointer x, .pointer h], .agg #[.int .i64 K, .int .i64 A, .int .i64 C, .int .i64 N, .string s], .int .i64 held] w fun e w' => e = .returned (.bool true) ∧ PGo G w w' x h := by
  have HP : Hid (Pr w G x h) := hP
  have d3 : (K == 3) = false := beq_false_of_ne (by omega)
  have d4 : (K == 4) = false := beq_false_of_ne (by omega)
  have d5 : (K == 5) = false := beq_false_of_ne (by omega)
  have d6 : (K == 6) = false := beq_false_of_ne (by omega)
  have d7 : (K == 7) = false := beq_false_of_ne (by omega)
  have d8 : (K == 8) = false := beq_false_of_ne (by omega)
  clear hP hK
  go_enter Try.func35, Try.ntmps35
  go_wp2
  go_ret
  exact ⟨rfl, PGo.of_below (box_below w _ _) (PGo.stay (HP.out.below (box_below w _ _)))⟩

theorem plays_any (HD : DrawsRight) (G : Nat → Prop) (x h : Option Addr) (K A C N held : Int) (s : ByteArray) (w : World) (hP : Pr w G x h) (hs : s.size ≤ 4611686018427387904) (h7 : no7 s.data.toList) :
    Calls Try.prog 35 #[.agg #[.pointer x, .pointer h], .agg #[.int .i64 K, .int .i64 A, .int .i64 C, .int .i64 N, .string s], .int .i64 held] w fun e w' => e = .returned (.bool true) ∧ PGo G w w' x h := by
  by_cases hK : 3 ≤ K ∧ K ≤ 8
  · rcases (by omega : K = 3 ∨ K = 4 ∨ K = 5 ∨ K = 6 ∨ K = 7 ∨ K = 8) with rfl | rfl | rfl | rfl | rfl | rfl
    · exact plays_open G x h A C N held s w hP
    · exact plays_close G x h A C N held s w hP
    · exact plays_free G x h A C N held s w hP
    · exact plays_send G x h A C N held s w hP hs h7
    · exact plays_run HD G x h A C N held s w hP
    · exact plays_take G x h A C N held s w hP
  · exact plays_none G x h K A C N held s w hP hK

end Go.Proofs.Ytbedkfgdhaajaab
