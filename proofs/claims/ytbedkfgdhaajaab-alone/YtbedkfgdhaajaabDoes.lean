/- Walks: does and meddles (package tenantskeep). -/
import Derived.Test.YtbedkfgdhaajaabCalls
import Derived.Deep.MidRow
namespace Go.Proofs.Ytbedkfgdhaajaab
open Go.RowKit

/-- what a context is answered, and what it is then -/
def ansE (C : Gst) (K N : Int) (s : ByteArray) : Int := if K = 3 then (if C.wait.length + s.size ≤ 1024 then 0 else 12) else if K = 4 then (if N < 0 ∨ 1048576 < N then 13 else 0) else 0
def ansN (C : Gst) (K N : Int) : Int := if K = 4 then (if N < 0 ∨ 1048576 < N then 0 else N - (pwork 1025 C N).2) else 0
def ansS (C : Gst) (K : Int) : List UInt8 := if K = 3 then [] else if K = 4 then [] else C.out
def ansC (C : Gst) (K N : Int) (s : ByteArray) : Gst := if K = 3 then (if C.wait.length + s.size ≤ 1024 then gsend C s.data.toList else C) else if K = 4 then (if N < 0 ∨ 1048576 < N then C else (pwork 1025 C N).1) else gtake C

theorem updA_self' {α : Type} (f : Nat → α) (k : Nat) (v : α) (h : f k = v) : updA f k v = f := by
  funext j; unfold updA; split
  · rename_i e; rw [e, h]
  · rfl

theorem send_c (G : Nat → Prop) (g : Nat) (S : Nat → Option Gst) (n : Nat) (C : Gst) (s : ByteArray) (e : Int) (C' : Gst) (w : World) (hS : Sv w G g S) (hn : n < 8) (hC : S n = some C) (he : (if C.wait.length + s.size ≤ 1024 then (0 : Int) else 12) = e) (hC' : (if C.wait.length + s.size ≤ 1024 then gsend C s.data.toList else C) = C') :
    Calls Try.prog 10 #[.pointer (some ⟨g, 0, none⟩), .int .i64 n, .string s] w fun x w' => x = .returned (.int .i64 e) ∧ SGoes G w w' g (updA S n (some C')) := by
  by_cases h : C.wait.length + s.size ≤ 1024
  · rw [if_pos h] at he hC'
    subst he hC'
    exact send_ok G g S n C s w hS hn hC h
  · rw [if_neg h] at he hC'
    subst he hC'
    refine (send_long G g S n C s w hS hn hC (by omega)).mono fun x w' ⟨a, b⟩ => ⟨a, ?_⟩
    subst b
    rw [updA_self' _ _ _ hC]
    exact SGoes.stay hS (Below.refl _ _)
theorem run_c (G : Nat → Prop) (g : Nat) (S : Nat → Option Gst) (n : Nat) (C : Gst) (f a e : Int) (C' : Gst) (w : World) (hS : Sv w G g S) (hn : n < 8) (hC : S n = some C) (ha : (if f < 0 ∨ 1048576 < f then (0 : Int) else f - (pwork 1025 C f).2) = a) (he : (if f < 0 ∨ 1048576 < f then (13 : Int) else 0) = e) (hC' : (if f < 0 ∨ 1048576 < f then C else (pwork 1025 C f).1) = C') :
    Calls Try.prog 12 #[.pointer (some ⟨g, 0, none⟩), .int .i64 n, .int .i64 f] w fun x w' => x = .returned (.tuple #[.int .i64 a, .int .i64 e]) ∧ SGoes G w w' g (updA S n (some C')) := by
  have hP : okP C := by obtain ⟨pt, F, hA⟩ := hS; exact (hA.cx n C hn hC).ok
  by_cases h : f < 0 ∨ 1048576 < f
  · rw [if_pos h] at ha he hC'
    subst ha he hC'
    refine (run_arg G g S n C f w hS hn hC h).mono fun x w' ⟨a, b⟩ => ⟨a, ?_⟩
    subst b
    rw [updA_self' _ _ _ hC]
    exact SGoes.stay hS (Below.refl _ _)
  · rw [if_neg h] at ha he hC'
    subst ha he hC'
    exact run_ok G g S n C f w hS hn hC (by omega) (by omega) 1025 (by have := hP.wt; omega)

/-- the answer is read out of its variable -/
theorem does_results {tmps : Array Value} {W : World} {b : Nat} {e n : Int} {s : ByteArray} (h6 : tmps.getD 6 undef = .pointer (some ⟨b, 0, none⟩)) (c0 : W.cell? ⟨b, 0, none⟩ = some (.int .i64 e)) (c1 : W.cell? ⟨b, 1, none⟩ = some (.int .i64 n)) (c2 : W.cell? ⟨b, 2, none⟩ = some (.string s)) :
    (results Try.f17 tmps).run Try.prog W = .ok (.agg #[.int .i64 e, .int .i64 n, .string s]) W := by
  have hl : (loadVar 44 ⟨b, 0, none⟩).run Try.prog W = .ok (.agg [.int .i64 e, .int .i64 n, .string s].toArray) W :=
    run_loadVar_mid W b 0 44 [.int .i64 e, .int .i64 n, .string s] _ (fun j v hj => by
      match j, hj with
      | 0, hj => cases hj; exact c0
      | 1, hj => cases hj; exact c1
      | 2, hj => cases hj; exact c2
      | n + 3, hj => cases hj) Try.underlying44 rfl (by kernel_rfl)
  unfold results
  rw [Try.results17]
  simp only [List.mapM_toArray, List.mapM_cons, List.mapM_nil, h6, asAddr, pure_bind, bind_pure_comp]
  simp [hl]

/-- the answer's variable, behind a call -/
theorem d_cells {G : Nat → Prop} {w w1 : World} {o : Obj} {t : TypeId} {g : Nat} {S' : Nat → Option Gst} (hin : ∀ b, G b → b < w.heap.size) (k : SGoes G ((w.alloc o).alloc (.cells #[.int .i64 0, .int .i64 0, .string ⟨#[]⟩] t)) w1 g S') :
    w1.cell? ⟨w.heap.size + 1, 0, none⟩ = some (.int .i64 0) ∧ w1.cell? ⟨w.heap.size + 1, 1, none⟩ = some (.int .i64 0) ∧ w1.cell? ⟨w.heap.size + 1, 2, none⟩ = some (.string ⟨#[]⟩) ∧ (∀ j, w1.frozen? ⟨w.heap.size + 1, j, none⟩ = false) ∧ w.heap.size + 1 < w1.heap.size := by
  have ho := k.1
  have hz := ho.size
  simp only [World.size_alloc] at hz
  have n1 : ¬ G (w.heap.size + 1) := fun q => by have := hin _ q; omega
  refine ⟨?_, ?_, ?_, fun j => ?_, by omega⟩
  · rw [ho.cell (by simp) n1, World.cell?_alloc_at _ _ _ _ (by simp)]; rfl
  · rw [ho.cell (by simp) n1, World.cell?_alloc_at _ _ _ _ (by simp)]; rfl
  · rw [ho.cell (by simp) n1, World.cell?_alloc_at _ _ _ _ (by simp)]; rfl
  · rw [ho.frozen (by simp) n1, World.frozen?_alloc_at _ _ _ _ (by simp)]

theorem SGoes.box {G : Nat → Prop} {w w1 w2 : World} {o1 o2 : Obj} {g : Nat} {S' : Nat → Option Gst} (hin : ∀ b, G b → b < w.heap.size) (k : SGoes G ((w.alloc o1).alloc o2) w1 g S') (h2 : Only (fun b => b = w.heap.size + 1) w1 w2) : SGoes G w w2 g S' := by
  obtain ⟨k1, G', k2, k3⟩ := k
  have hb : Below w.heap.size w ((w.alloc o1).alloc o2) := ((Below.refl _ _).alloc (Nat.le_refl _) _).alloc (by simp) _
  have hn : ¬ G' (w.heap.size + 1) := fun q => by
    rcases k3 _ q with r | r
    · have := hin _ r; omega
    · simp only [World.size_alloc] at r; omega
  refine ⟨((Only.of_below hb).trans k1 (fun b q => .inl q)).trans h2 (fun b q => .inr (by omega)), G', k2.only h2 (fun b q1 q2 => hn (q2 ▸ q1)), fun b q => ?_⟩
  rcases k3 b q with r | r
  · exact .inl r
  · simp only [World.size_alloc] at r; exact .inr (by omega)

theorem set3 {w1 : World} {b : Nat} {u0 u1 u2 v0 v1 v2 : Value} (c0 : w1.cell? ⟨b, 0, none⟩ = some u0) (c1 : w1.cell? ⟨b, 1, none⟩ = some u1) (c2 : w1.cell? ⟨b, 2, none⟩ = some u2) :
    (((w1.setCell ⟨b, 0, none⟩ v0).setCell ⟨b, 1, none⟩ v1).setCell ⟨b, 2, none⟩ v2).cell? ⟨b, 0, none⟩ = some v0 ∧ (((w1.setCell ⟨b, 0, none⟩ v0).setCell ⟨b, 1, none⟩ v1).setCell ⟨b, 2, none⟩ v2).cell? ⟨b, 1, none⟩ = some v1 ∧ (((w1.setCell ⟨b, 0, none⟩ v0).setCell ⟨b, 1, none⟩ v1).setCell ⟨b, 2, none⟩ v2).cell? ⟨b, 2, none⟩ = some v2 := by
  refine ⟨?_, ?_, ?_⟩
  · rw [World.cell?_setCell_other _ _ _ _ (addr_ne (by omega)), World.cell?_setCell_other _ _ _ _ (addr_ne (by omega))]; exact World.cell?_setCell_same _ _ _ c0
  · rw [World.cell?_setCell_other _ _ _ _ (addr_ne (by omega))]; exact World.cell?_setCell_same _ _ _ ((World.cell?_setCell_other _ _ _ _ (addr_ne (by omega))).trans c1)
  · exact World.cell?_setCell_same _ _ _ (((World.cell?_setCell_other _ _ _ _ (addr_ne (by omega))).trans (World.cell?_setCell_other _ _ _ _ (addr_ne (by omega)))).trans c2)

theorem set3_only (w1 : World) (b : Nat) (v0 v1 v2 : Value) : Only (fun x => x = b) w1 (((w1.setCell ⟨b, 0, none⟩ v0).setCell ⟨b, 1, none⟩ v1).setCell ⟨b, 2, none⟩ v2) :=
  (((Only.refl (fun x => x = b) w1).setCell (p := ⟨b, 0, none⟩) (.inl rfl) _).setCell (p := ⟨b, 1, none⟩) (.inl rfl) _).setCell (p := ⟨b, 2, none⟩) (.inl rfl) _

set_option maxHeartbeats 2000000 in
theorem does_any (G : Nat → Prop) (g : Nat) (S : Nat → Option Gst) (n : Nat) (C : Gst) (K A N : Int) (s : ByteArray) (w : World) (hS : Sv w G g S) (hn : n < 8) (hC : S n = some C) :
    Calls Try.prog 17 #[.pointer (some ⟨g, 0, none⟩), .int .i64 n, .agg #[.int .i64 K, .int .i64 A, .int .i64 N, .string s]] w fun x w' => x = .returned (.agg #[.int .i64 (ansE C K N s), .int .i64 (ansN C K N), .string (str (ansS C K))]) ∧ SGoes G w w' g (updA S n (some (ansC C K N s))) := by
  have hin : ∀ b, G b → b < w.heap.size := by obtain ⟨_, _, q⟩ := hS; exact q.inn
  have HS : Hid (Sv ((w.alloc (.cells #[.int .i64 K, .int .i64 A, .int .i64 N, .string s] 42)).alloc (.cells #[.int .i64 0, .int .i64 0, .string ⟨#[]⟩] 44)) G g S) := (hS.below ((Below.refl _ _).alloc (Nat.le_refl _) _)).below ((Below.refl _ _).alloc (Nat.le_refl _) _)
  have HC : Hid (S n = some C) := hC
  have HI : Hid (∀ b, G b → b < w.heap.size) := hin
  clear hS hC hin
  by_cases h3 : K = 3
  · obtain ⟨E, hE⟩ : ∃ E, ansE C K N s = E := ⟨_, rfl⟩
    obtain ⟨D, hD⟩ : ∃ D, ansC C K N s = D := ⟨_, rfl⟩
    have HE : Hid ((if C.wait.length + s.size ≤ 1024 then (0 : Int) else 12) = E) := by rw [← hE]; unfold ansE; rw [if_pos h3]; exact (rfl : (if C.wait.length + s.size ≤ 1024 then (0 : Int) else 12) = _)
    have HD : Hid ((if C.wait.length + s.size ≤ 1024 then gsend C s.data.toList else C) = D) := by rw [← hD]; unfold ansC; rw [if_pos h3]; exact (rfl : (if C.wait.length + s.size ≤ 1024 then gsend C s.data.toList else C) = _)
    have eN : ansN C K N = 0 := by unfold ansN; rw [if_neg (by omega)]
    have eS : ansS C K = [] := by unfold ansS; rw [if_pos h3]
    rw [hE, hD, eN, eS]
    subst h3
    clear hE hD eN eS
    go_enter Try.func17, Try.ntmps17
    go_wp2_with (go_at_call 10; refine (send_c G g S n C s E D _ HS.out hn HC.out HE.out HD.out).mono ?_; rintro e w1 ⟨rfl, hg1⟩; obtain ⟨c0, c1, c2, cf, cl⟩ := d_cells HI.out hg1; have c0' := c0; have c1' := c1; have c2' := c2; have G1 : Hid (SGoes G ((w.alloc (.cells #[.int .i64 3, .int .i64 A, .int .i64 N, .string s] 42)).alloc (.cells #[.int .i64 0, .int .i64 0, .string ⟨#[]⟩] 44)) w1 g (updA S n (some D))) := hg1; have C0 : Hid (w1.cell? ⟨w.heap.size + 1, 0, none⟩ = some (.int .i64 0)) := c0; have C1 : Hid (w1.cell? ⟨w.heap.size + 1, 1, none⟩ = some (.int .i64 0)) := c1; have C2 : Hid (w1.cell? ⟨w.heap.size + 1, 2, none⟩ = some (.string ⟨#[]⟩)) := c2; clear hg1 c0' c1' c2')
    obtain ⟨r0, r1, r2⟩ := set3 (v0 := .int .i64 E) (v1 := .int .i64 0) (v2 := .string ⟨#[]⟩) C0.out C1.out C2.out
    exact bodyPost_ret (does_results rfl r0 r1 r2) rfl ⟨rfl, SGoes.box HI.out G1.out (set3_only _ _ _ _ _)⟩
  · by_cases h4 : K = 4
    · obtain ⟨E, hE⟩ : ∃ E, ansE C K N s = E := ⟨_, rfl⟩
      obtain ⟨D, hD⟩ : ∃ D, ansC C K N s = D := ⟨_, rfl⟩
      obtain ⟨M, hM⟩ : ∃ M, ansN C K N = M := ⟨_, rfl⟩
      have HE : Hid ((if N < 0 ∨ 1048576 < N then (13 : Int) else 0) = E) := by rw [← hE]; unfold ansE; rw [if_neg h3, if_pos h4]; exact (rfl : (if N < 0 ∨ 1048576 < N then (13 : Int) else 0) = _)
      have HD : Hid ((if N < 0 ∨ 1048576 < N then C else (pwork 1025 C N).1) = D) := by rw [← hD]; unfold ansC; rw [if_neg h3, if_pos h4]; exact (rfl : (if N < 0 ∨ 1048576 < N then C else (pwork 1025 C N).1) = _)
      have HM : Hid ((if N < 0 ∨ 1048576 < N then (0 : Int) else N - (pwork 1025 C N).2) = M) := by rw [← hM]; unfold ansN; rw [if_pos h4]; exact (rfl : (if N < 0 ∨ 1048576 < N then (0 : Int) else N - (pwork 1025 C N).2) = _)
      have eS : ansS C K = [] := by unfold ansS; rw [if_neg h3, if_pos h4]
      rw [hE, hD, hM, eS]
      subst h4
      clear hE hD hM eS h3
      go_enter Try.func17, Try.ntmps17
      go_wp2_with (go_at_call 12; refine (run_c G g S n C N M E D _ HS.out hn HC.out HM.out HE.out HD.out).mono ?_; rintro e w1 ⟨rfl, hg1⟩; obtain ⟨c0, c1, c2, cf, cl⟩ := d_cells HI.out hg1; have c0' := c0; have c1' := c1; have c2' := c2; have G1 : Hid (SGoes G ((w.alloc (.cells #[.int .i64 4, .int .i64 A, .int .i64 N, .string s] 42)).alloc (.cells #[.int .i64 0, .int .i64 0, .string ⟨#[]⟩] 44)) w1 g (updA S n (some D))) := hg1; have C0 : Hid (w1.cell? ⟨w.heap.size + 1, 0, none⟩ = some (.int .i64 0)) := c0; have C1 : Hid (w1.cell? ⟨w.heap.size + 1, 1, none⟩ = some (.int .i64 0)) := c1; have C2 : Hid (w1.cell? ⟨w.heap.size + 1, 2, none⟩ = some (.string ⟨#[]⟩)) := c2; clear hg1 c0' c1' c2')
      obtain ⟨r0, r1, r2⟩ := set3 (v0 := .int .i64 E) (v1 := .int .i64 M) (v2 := .string ⟨#[]⟩) C0.out C1.out C2.out
      exact bodyPost_ret (does_results rfl r0 r1 r2) rfl ⟨rfl, SGoes.box HI.out G1.out (set3_only _ _ _ _ _)⟩
    · obtain ⟨D, hD⟩ : ∃ D, ansC C K N s = D := ⟨_, rfl⟩
      have HD : Hid (gtake C = D) := by rw [← hD]; unfold ansC; rw [if_neg h3, if_neg h4]; exact (rfl : gtake C = _)
      have eE : ansE C K N s = 0 := by unfold ansE; rw [if_neg h3, if_neg h4]
      have eN : ansN C K N = 0 := by unfold ansN; rw [if_neg h4]
      have eS : ansS C K = C.out := by unfold ansS; rw [if_neg h3, if_neg h4]
      obtain ⟨so, hso⟩ : ∃ so, str C.out = so := ⟨_, rfl⟩
      have HSO : Hid (str C.out = so) := hso
      rw [hD, eE, eN, eS, hso]
      have d3 : (K == 3) = false := beq_false_of_ne h3
      have d4 : (K == 4) = false := beq_false_of_ne h4
      clear hD eE eN eS h3 h4 hso
      go_enter Try.func17, Try.ntmps17
      go_wp2_with (go_at_call 13; refine (replies_ok G g S n C _ HS.out hn HC.out).mono ?_; rw [HSO.out, HD.out]; rintro e w1 ⟨rfl, hg1⟩; obtain ⟨c0, c1, c2, cf, cl⟩ := d_cells HI.out hg1; have c0' := c0; have c1' := c1; have c2' := c2; have G1 : Hid (SGoes G ((w.alloc (.cells #[.int .i64 K, .int .i64 A, .int .i64 N, .string s] 42)).alloc (.cells #[.int .i64 0, .int .i64 0, .string ⟨#[]⟩] 44)) w1 g (updA S n (some D))) := hg1; have C0 : Hid (w1.cell? ⟨w.heap.size + 1, 0, none⟩ = some (.int .i64 0)) := c0; have C1 : Hid (w1.cell? ⟨w.heap.size + 1, 1, none⟩ = some (.int .i64 0)) := c1; have C2 : Hid (w1.cell? ⟨w.heap.size + 1, 2, none⟩ = some (.string ⟨#[]⟩)) := c2; clear hg1 c0' c1' c2')
      obtain ⟨r0, r1, r2⟩ := set3 (v0 := .int .i64 0) (v1 := .int .i64 0) (v2 := .string so) C0.out C1.out C2.out
      exact bodyPost_ret (does_results rfl r0 r1 r2) rfl ⟨rfl, SGoes.box HI.out G1.out (set3_only _ _ _ _ _)⟩

theorem stay_no {G : Nat → Prop} {w : World} {g : Nat} {S : Nat → Option Gst} {f : Nat} {args : Array Value} {r : Value} (hS : Sv w G g S) (h : Calls Try.prog f args w fun e w' => e = .returned r ∧ w' = w) : Calls Try.prog f args w fun e w' => e = .returned r ∧ SGoes G w w' g S :=
  h.mono fun e w' ⟨a, b⟩ => ⟨a, by subst b; exact SGoes.stay hS (Below.refl _ _)⟩

set_option maxHeartbeats 2000000 in
theorem does_no (G : Nat → Prop) (g : Nat) (S : Nat → Option Gst) (c : Int) (K A N : Int) (s : ByteArray) (w : World) (hS : Sv w G g S) (hc : shut S c) :
    Calls Try.prog 17 #[.pointer (some ⟨g, 0, none⟩), .int .i64 c, .agg #[.int .i64 K, .int .i64 A, .int .i64 N, .string s]] w fun x w' => x = .returned (.agg #[.int .i64 11, .int .i64 0, .string ⟨#[]⟩]) ∧ SGoes G w w' g S := by
  have hin : ∀ b, G b → b < w.heap.size := by obtain ⟨_, _, q⟩ := hS; exact q.inn
  have HS : Hid (Sv ((w.alloc (.cells #[.int .i64 K, .int .i64 A, .int .i64 N, .string s] 42)).alloc (.cells #[.int .i64 0, .int .i64 0, .string ⟨#[]⟩] 44)) G g S) := (hS.below ((Below.refl _ _).alloc (Nat.le_refl _) _)).below ((Below.refl _ _).alloc (Nat.le_refl _) _)
  have HC : Hid (shut S c) := hc
  have HI : Hid (∀ b, G b → b < w.heap.size) := hin
  clear hS hc hin
  by_cases h3 : K = 3
  · subst h3
    go_enter Try.func17, Try.ntmps17
    go_wp2_with (go_at_call 10; refine (stay_no HS.out (send_shut G g S c s _ HS.out HC.out)).mono ?_; rintro e w1 ⟨rfl, hg1⟩; obtain ⟨c0, c1, c2, cf, cl⟩ := d_cells HI.out hg1; have G1 : Hid (SGoes G ((w.alloc (.cells #[.int .i64 3, .int .i64 A, .int .i64 N, .string s] 42)).alloc (.cells #[.int .i64 0, .int .i64 0, .string ⟨#[]⟩] 44)) w1 g S) := hg1; have C0 : Hid (w1.cell? ⟨w.heap.size + 1, 0, none⟩ = some (.int .i64 0)) := c0; have C1 : Hid (w1.cell? ⟨w.heap.size + 1, 1, none⟩ = some (.int .i64 0)) := c1; have C2 : Hid (w1.cell? ⟨w.heap.size + 1, 2, none⟩ = some (.string ⟨#[]⟩)) := c2; clear hg1)
    obtain ⟨r0, r1, r2⟩ := set3 (v0 := .int .i64 11) (v1 := .int .i64 0) (v2 := .string ⟨#[]⟩) C0.out C1.out C2.out
    exact bodyPost_ret (does_results rfl r0 r1 r2) rfl ⟨rfl, SGoes.box HI.out G1.out (set3_only _ _ _ _ _)⟩
  · by_cases h4 : K = 4
    · subst h4
      clear h3
      go_enter Try.func17, Try.ntmps17
      go_wp2_with (go_at_call 12; refine (stay_no HS.out (run_shut G g S c N _ HS.out HC.out)).mono ?_; rintro e w1 ⟨rfl, hg1⟩; obtain ⟨c0, c1, c2, cf, cl⟩ := d_cells HI.out hg1; have G1 : Hid (SGoes G ((w.alloc (.cells #[.int .i64 4, .int .i64 A, .int .i64 N, .string s] 42)).alloc (.cells #[.int .i64 0, .int .i64 0, .string ⟨#[]⟩] 44)) w1 g S) := hg1; have C0 : Hid (w1.cell? ⟨w.heap.size + 1, 0, none⟩ = some (.int .i64 0)) := c0; have C1 : Hid (w1.cell? ⟨w.heap.size + 1, 1, none⟩ = some (.int .i64 0)) := c1; have C2 : Hid (w1.cell? ⟨w.heap.size + 1, 2, none⟩ = some (.string ⟨#[]⟩)) := c2; clear hg1)
      obtain ⟨r0, r1, r2⟩ := set3 (v0 := .int .i64 11) (v1 := .int .i64 0) (v2 := .string ⟨#[]⟩) C0.out C1.out C2.out
      exact bodyPost_ret (does_results rfl r0 r1 r2) rfl ⟨rfl, SGoes.box HI.out G1.out (set3_only _ _ _ _ _)⟩
    · have d3 : (K == 3) = false := beq_false_of_ne h3
      have d4 : (K == 4) = false := beq_false_of_ne h4
      clear h3 h4
      go_enter Try.func17, Try.ntmps17
      go_wp2_with (go_at_call 13; refine (stay_no HS.out (replies_shut G g S c _ HS.out HC.out)).mono ?_; rintro e w1 ⟨rfl, hg1⟩; obtain ⟨c0, c1, c2, cf, cl⟩ := d_cells HI.out hg1; have G1 : Hid (SGoes G ((w.alloc (.cells #[.int .i64 K, .int .i64 A, .int .i64 N, .string s] 42)).alloc (.cells #[.int .i64 0, .int .i64 0, .string ⟨#[]⟩] 44)) w1 g S) := hg1; have C0 : Hid (w1.cell? ⟨w.heap.size + 1, 0, none⟩ = some (.int .i64 0)) := c0; have C1 : Hid (w1.cell? ⟨w.heap.size + 1, 1, none⟩ = some (.int .i64 0)) := c1; have C2 : Hid (w1.cell? ⟨w.heap.size + 1, 2, none⟩ = some (.string ⟨#[]⟩)) := c2; clear hg1)
      obtain ⟨r0, r1, r2⟩ := set3 (v0 := .int .i64 11) (v1 := .int .i64 0) (v2 := .string ⟨#[]⟩) C0.out C1.out C2.out
      exact bodyPost_ret (does_results rfl r0 r1 r2) rfl ⟨rfl, SGoes.box HI.out G1.out (set3_only _ _ _ _ _)⟩

theorem shut_or' (S : Nat → Option Gst) (c : Int) : shut S c ∨ ∃ n g, c = ((n : Nat) : Int) ∧ n < 8 ∧ S n = some g := by
  by_cases h1 : c < 0
  · exact .inl (.inl h1)
  · by_cases h2 : 8 ≤ c
    · exact .inl (.inr (.inl h2))
    · cases e : S c.toNat with
      | none => exact .inl (.inr (.inr e))
      | some g => exact .inr ⟨c.toNat, g, by omega, by omega, e⟩

/-- others do as they like: context 1 stays -/
def Meds (G : Nat → Prop) (w w' : World) (g : Nat) (S : Nat → Option Gst) : Prop := ∃ S', SGoes G w w' g S' ∧ S' 1 = S 1

theorem does_med (G : Nat → Prop) (g : Nat) (S : Nat → Option Gst) (c : Int) (K A N : Int) (s : ByteArray) (w : World) (hS : Sv w G g S) (hc : c ≠ 1) :
    Calls Try.prog 17 #[.pointer (some ⟨g, 0, none⟩), .int .i64 c, .agg #[.int .i64 K, .int .i64 A, .int .i64 N, .string s]] w fun x w' => (∃ v, x = .returned v) ∧ Meds G w w' g S := by
  rcases shut_or' S c with q | ⟨n, C, rfl, n8, hC⟩
  · exact (does_no G g S c K A N s w hS q).mono fun x w' ⟨a, b⟩ => ⟨⟨_, a⟩, S, b, rfl⟩
  · exact (does_any G g S n C K A N s w hS n8 hC).mono fun x w' ⟨a, b⟩ => ⟨⟨_, a⟩, _, b, updA_other _ _ (by omega)⟩

theorem open_med (G : Nat → Prop) (g : Nat) (S : Nat → Option Gst) (w : World) (hS : Sv w G g S) (h1 : S 1 ≠ none) :
    Calls Try.prog 15 #[.pointer (some ⟨g, 0, none⟩)] w fun x w' => (∃ v, x = .returned v) ∧ Meds G w w' g S := by
  have ff : ∀ n, (∃ c, c < n ∧ S c = none ∧ ∀ j, j < c → S j ≠ none) ∨ ∀ j, j < n → S j ≠ none := by
    intro n
    induction n with
    | zero => exact .inr (fun j hj => by omega)
    | succ n ih =>
      rcases ih with ⟨c, h1, h2, h3⟩ | h
      · exact .inl ⟨c, by omega, h2, h3⟩
      · cases e : S n with
        | none => exact .inl ⟨n, by omega, e, h⟩
        | some g => exact .inr (fun j hj => by
            by_cases q : j = n
            · subst q; rw [e]; exact fun k => by cases k
            · exact h j (by omega))
  rcases ff 8 with ⟨c, c8, cn, cf⟩ | hf
  · refine (open_ok G g S c w hS c8 cf cn).mono fun x w' ⟨a, b⟩ => ⟨⟨_, a⟩, _, b, updA_other _ _ (fun q => ?_)⟩
    rw [← q] at cn; exact h1 cn
  · exact (open_full G g S w hS hf).mono fun x w' ⟨a, b⟩ => ⟨⟨_, a⟩, S, by subst b; exact SGoes.stay hS (Below.refl _ _), rfl⟩

theorem close_med (G : Nat → Prop) (g : Nat) (S : Nat → Option Gst) (c : Int) (w : World) (hS : Sv w G g S) (hc : c ≠ 1) :
    Calls Try.prog 28 #[.pointer (some ⟨g, 0, none⟩), .int .i64 c] w fun x w' => (∃ v, x = .returned v) ∧ Meds G w w' g S := by
  rcases shut_or' S c with q | ⟨n, C, rfl, n8, hC⟩
  · exact (close_shut G g S c w hS q).mono fun x w' ⟨a, b⟩ => ⟨⟨_, a⟩, S, by subst b; exact SGoes.stay hS (Below.refl _ _), rfl⟩
  · exact (close_ok G g S n C w hS n8 hC).mono fun x w' ⟨a, b⟩ => ⟨⟨_, a⟩, _, b, updA_other _ _ (by omega)⟩

theorem Meds.of_below {G : Nat → Prop} {w w1 w2 : World} {g : Nat} {S : Nat → Option Gst} (hb : Below w.heap.size w w1) (k : Meds G w1 w2 g S) : Meds G w w2 g S := by
  obtain ⟨S', h, e⟩ := k
  exact ⟨S', SGoes.then (Only.of_below hb) (fun _ q => .inl q) h, e⟩

set_option maxHeartbeats 2000000 in
theorem meddles_any (G : Nat → Prop) (g : Nat) (S : Nat → Option Gst) (K A N : Int) (s : ByteArray) (w : World) (hS : Sv w G g S) (h1 : S 1 ≠ none) :
    Calls Try.prog 16 #[.pointer (some ⟨g, 0, none⟩), .agg #[.int .i64 K, .int .i64 A, .int .i64 N, .string s]] w fun x w' => x = .returned (.tuple #[]) ∧ Meds G w w' g S := by
  have hb : Below w.heap.size w (w.alloc (.cells #[.int .i64 K, .int .i64 A, .int .i64 N, .string s] 42)) := (Below.refl _ _).alloc (Nat.le_refl _) _
  have HB : Hid (Below w.heap.size w (w.alloc (.cells #[.int .i64 K, .int .i64 A, .int .i64 N, .string s] 42))) := hb
  have HS : Hid (Sv (w.alloc (.cells #[.int .i64 K, .int .i64 A, .int .i64 N, .string s] 42)) G g S) := hS.below hb
  have H1 : Hid (S 1 ≠ none) := h1
  clear hS h1 hb
  obtain ⟨c, hc, hc1⟩ : ∃ c : Int, c = (if A = 1 then 0 else A) ∧ c ≠ 1 := ⟨_, rfl, by split <;> omega⟩
  have HC : Hid (c ≠ 1) := hc1
  by_cases hA : A = 1
  · rw [if_pos hA] at hc
    have dA : (A == 1) = true := by rw [beq_iff_eq]; exact hA
    subst hc
    clear hA hc1
    by_cases k1 : K = 1
    · have d1 : (K == 1) = true := by rw [beq_iff_eq]; exact k1
      clear k1
      go_enter Try.func16, Try.ntmps16
      go_wp2_with (go_at_call 15; refine (open_med G g S _ HS.out H1.out).mono ?_; rintro e w1 ⟨⟨v, rfl⟩, hg1⟩; have G1 : Hid _ := hg1; clear hg1)
      go_end0
      exact ⟨rfl, Meds.of_below HB.out G1.out⟩
    · have d1 : (K == 1) = false := beq_false_of_ne k1
      by_cases k2 : K = 2
      · have d2 : (K == 2) = true := by rw [beq_iff_eq]; exact k2
        clear k1 k2
        go_enter Try.func16, Try.ntmps16
        go_wp2_with (go_at_call 28; refine (close_med G g S 0 _ HS.out (by decide)).mono ?_; rintro e w1 ⟨⟨v, rfl⟩, hg1⟩; have G1 : Hid _ := hg1; clear hg1)
        go_end0
        exact ⟨rfl, Meds.of_below HB.out G1.out⟩
      · have d2 : (K == 2) = false := beq_false_of_ne k2
        clear k1 k2
        go_enter Try.func16, Try.ntmps16
        go_wp2_with (go_at_call 17; refine (does_med G g S 0 K A N s _ HS.out (by decide)).mono ?_; rintro e w1 ⟨⟨v, rfl⟩, hg1⟩; have G1 : Hid _ := hg1; clear hg1)
        go_end0
        exact ⟨rfl, Meds.of_below HB.out G1.out⟩
  · rw [if_neg hA] at hc
    have dA : (A == 1) = false := beq_false_of_ne hA
    subst hc
    clear hA hc1
    by_cases k1 : K = 1
    · have d1 : (K == 1) = true := by rw [beq_iff_eq]; exact k1
      clear k1
      go_enter Try.func16, Try.ntmps16
      go_wp2_with (go_at_call 15; refine (open_med G g S _ HS.out H1.out).mono ?_; rintro e w1 ⟨⟨v, rfl⟩, hg1⟩; have G1 : Hid _ := hg1; clear hg1)
      go_end0
      exact ⟨rfl, Meds.of_below HB.out G1.out⟩
    · have d1 : (K == 1) = false := beq_false_of_ne k1
      by_cases k2 : K = 2
      · have d2 : (K == 2) = true := by rw [beq_iff_eq]; exact k2
        clear k1 k2
        go_enter Try.func16, Try.ntmps16
        go_wp2_with (go_at_call 28; refine (close_med G g S _ _ HS.out HC.out).mono ?_; rintro e w1 ⟨⟨v, rfl⟩, hg1⟩; have G1 : Hid _ := hg1; clear hg1)
        go_end0
        exact ⟨rfl, Meds.of_below HB.out G1.out⟩
      · have d2 : (K == 2) = false := beq_false_of_ne k2
        clear k1 k2
        go_enter Try.func16, Try.ntmps16
        go_wp2_with (go_at_call 17; refine (does_med G g S _ K _ N s _ HS.out HC.out).mono ?_; rintro e w1 ⟨⟨v, rfl⟩, hg1⟩; have G1 : Hid _ := hg1; clear hg1)
        go_end0
        exact ⟨rfl, Meds.of_below HB.out G1.out⟩

end Go.Proofs.Ytbedkfgdhaajaab
