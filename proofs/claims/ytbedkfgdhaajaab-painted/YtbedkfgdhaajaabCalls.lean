/- Walks: the server's calls (P6 to P9). -/
import Derived.Test.YtbedkfgdhaajaabServ
namespace Go.Proofs.Ytbedkfgdhaajaab
open Go.RowKit

set_option maxHeartbeats 400000 in
theorem send_shut (G : Nat → Prop) (g : Nat) (S : Nat → Option Gst) (c : Int) (s : ByteArray) (w : World) (hS : Sv w G g S) (h : shut S c) :
    Calls Try.prog 10 #[.pointer (some ⟨g, 0, none⟩), .int .i64 c, .string s] w fun e w' => e = .returned (.int .i64 11) ∧ w' = w := by
  have HS : Hid (Sv w G g S) := hS
  have HH : Hid (shut S c) := h
  clear hS h
  go_enter Try.func10, Try.ntmps10
  go_wp2_with (go_at_call 24; refine (find_no G g S c _ HS.out HH.out).mono ?_; rintro e w2 ⟨rfl, rfl⟩)
  go_ret
  exact ⟨rfl, rfl⟩

set_option maxHeartbeats 400000 in
theorem send_long (G : Nat → Prop) (g : Nat) (S : Nat → Option Gst) (n : Nat) (C : Gst) (s : ByteArray) (w : World) (hS : Sv w G g S) (hn : n < 8) (hC : S n = some C) (h : 1024 < C.wait.length + s.size) :
    Calls Try.prog 10 #[.pointer (some ⟨g, 0, none⟩), .int .i64 n, .string s] w fun e w' => e = .returned (.int .i64 12) ∧ w' = w := by
  obtain ⟨pt, F, hA⟩ := hS
  have HA : Hid (SrvAt w G g pt F S) := hA
  have HC : Hid (S n = some C) := hC
  have HX : Hid (PG w (F n) (pt n) C) := hA.cx n C hn hC
  clear hA hC
  go_enter Try.func10, Try.ntmps10
  go_wp2_with (first | (go_at_call 24; refine (find_yes G g pt F S n C _ HA.out hn HC.out).mono ?_; rintro e w2 ⟨rfl, rfl⟩) | (go_at_call 25; refine (csend_long (F n) (pt n) C s _ HX.out h).mono ?_; rintro e w3 ⟨rfl, rfl⟩))
  go_ret
  exact ⟨rfl, rfl⟩

set_option maxHeartbeats 400000 in
theorem send_ok (G : Nat → Prop) (g : Nat) (S : Nat → Option Gst) (n : Nat) (C : Gst) (s : ByteArray) (w : World) (hS : Sv w G g S) (hn : n < 8) (hC : S n = some C) (h : C.wait.length + s.size ≤ 1024) :
    Calls Try.prog 10 #[.pointer (some ⟨g, 0, none⟩), .int .i64 n, .string s] w fun e w' => e = .returned (.int .i64 0) ∧ SGoes G w w' g (updA S n (some (gsend C s.data.toList))) := by
  obtain ⟨pt, F, hA⟩ := hS
  have HA : Hid (SrvAt w G g pt F S) := hA
  have HC : Hid (S n = some C) := hC
  have HX : Hid (PG w (F n) (pt n) C) := hA.cx n C hn hC
  clear hA hC
  go_enter Try.func10, Try.ntmps10
  go_wp2_with (first | (go_at_call 24; refine (find_yes G g pt F S n C _ HA.out hn HC.out).mono ?_; rintro e w2 ⟨rfl, rfl⟩) | (go_at_call 25; refine (csend_ok (F n) (pt n) C s _ HX.out h).mono ?_; rintro e w3 ⟨rfl, hb3⟩; have HB : Hid _ := hb3; clear hb3))
  go_ret
  exact ⟨rfl, SGoes.ctx HA.out hn HC.out HB.out⟩

set_option maxHeartbeats 400000 in
theorem run_shut (G : Nat → Prop) (g : Nat) (S : Nat → Option Gst) (c f : Int) (w : World) (hS : Sv w G g S) (h : shut S c) :
    Calls Try.prog 12 #[.pointer (some ⟨g, 0, none⟩), .int .i64 c, .int .i64 f] w fun e w' => e = .returned (.tuple #[.int .i64 0, .int .i64 11]) ∧ w' = w := by
  have HS : Hid (Sv w G g S) := hS
  have HH : Hid (shut S c) := h
  clear hS h
  go_enter Try.func12, Try.ntmps12
  go_wp2_with (go_at_call 24; refine (find_no G g S c _ HS.out HH.out).mono ?_; rintro e w2 ⟨rfl, rfl⟩)
  go_ret2
  exact ⟨rfl, rfl⟩

set_option maxHeartbeats 400000 in
theorem run_arg (G : Nat → Prop) (g : Nat) (S : Nat → Option Gst) (n : Nat) (C : Gst) (f : Int) (w : World) (hS : Sv w G g S) (hn : n < 8) (hC : S n = some C) (h : f < 0 ∨ 1048576 < f) :
    Calls Try.prog 12 #[.pointer (some ⟨g, 0, none⟩), .int .i64 n, .int .i64 f] w fun e w' => e = .returned (.tuple #[.int .i64 0, .int .i64 13]) ∧ w' = w := by
  obtain ⟨pt, F, hA⟩ := hS
  have HA : Hid (SrvAt w G g pt F S) := hA
  have HC : Hid (S n = some C) := hC
  have HH : Hid (f < 0 ∨ 1048576 < f) := h
  clear hA hC h
  go_enter Try.func12, Try.ntmps12
  go_wp2_with (first | (go_at_call 24; refine (find_yes G g pt F S n C _ HA.out hn HC.out).mono ?_; rintro e w2 ⟨rfl, rfl⟩) | (go_at_call 26; refine (crun_bad (pt n) f _ HH.out).mono ?_; rintro e w3 ⟨rfl, rfl⟩))
  go_ret2
  exact ⟨rfl, rfl⟩

set_option maxHeartbeats 400000 in
theorem run_ok (G : Nat → Prop) (g : Nat) (S : Nat → Option Gst) (n : Nat) (C : Gst) (f : Int) (w : World) (hS : Sv w G g S) (hn : n < 8) (hC : S n = some C) (h0 : 0 ≤ f) (h1 : f ≤ 1048576) (N : Nat) (hN : C.wait.length < N) :
    Calls Try.prog 12 #[.pointer (some ⟨g, 0, none⟩), .int .i64 n, .int .i64 f] w fun e w' => e = .returned (.tuple #[.int .i64 (f - (pwork N C f).2), .int .i64 0]) ∧ SGoes G w w' g (updA S n (some (pwork N C f).1)) := by
  obtain ⟨pt, F, hA⟩ := hS
  have HA : Hid (SrvAt w G g pt F S) := hA
  have HC : Hid (S n = some C) := hC
  have HX : Hid (PG w (F n) (pt n) C) := hA.cx n C hn hC
  clear hA hC
  go_enter Try.func12, Try.ntmps12
  go_wp2_with (first | (go_at_call 24; refine (find_yes G g pt F S n C _ HA.out hn HC.out).mono ?_; rintro e w2 ⟨rfl, rfl⟩) | (go_at_call 26; refine (crun_ok (F n) (pt n) C f _ HX.out h0 h1 N hN).mono ?_; rintro e w3 ⟨rfl, hb3⟩; have HB : Hid _ := hb3; clear hb3))
  go_ret2
  exact ⟨rfl, SGoes.ctx HA.out hn HC.out HB.out⟩

theorem tup_se {a b : ByteArray} {c d : Int} (h : a = b) (k : c = d) : Ending.returned (.tuple #[.string a, .int .i64 c]) = .returned (.tuple #[.string b, .int .i64 d]) := by rw [h, k]

set_option maxHeartbeats 400000 in
theorem replies_shut (G : Nat → Prop) (g : Nat) (S : Nat → Option Gst) (c : Int) (w : World) (hS : Sv w G g S) (h : shut S c) :
    Calls Try.prog 13 #[.pointer (some ⟨g, 0, none⟩), .int .i64 c] w fun e w' => e = .returned (.tuple #[.string ByteArray.empty, .int .i64 11]) ∧ w' = w := by
  have HS : Hid (Sv w G g S) := hS
  have HH : Hid (shut S c) := h
  clear hS h
  go_enter Try.func13, Try.ntmps13
  go_wp2_with (go_at_call 24; refine (find_no G g S c _ HS.out HH.out).mono ?_; rintro e w2 ⟨rfl, rfl⟩)
  go_ret2
  exact ⟨rfl, rfl⟩

set_option maxHeartbeats 400000 in
theorem replies_ok (G : Nat → Prop) (g : Nat) (S : Nat → Option Gst) (n : Nat) (C : Gst) (w : World) (hS : Sv w G g S) (hn : n < 8) (hC : S n = some C) :
    Calls Try.prog 13 #[.pointer (some ⟨g, 0, none⟩), .int .i64 n] w fun e w' => e = .returned (.tuple #[.string (str C.out), .int .i64 0]) ∧ SGoes G w w' g (updA S n (some (gtake C))) := by
  obtain ⟨pt, F, hA⟩ := hS
  have HA : Hid (SrvAt w G g pt F S) := hA
  have HC : Hid (S n = some C) := hC
  have HX : Hid (PG w (F n) (pt n) C) := hA.cx n C hn hC
  clear hA hC
  go_enter Try.func13, Try.ntmps13
  go_wp2_with (first | (go_at_call 24; refine (find_yes G g pt F S n C _ HA.out hn HC.out).mono ?_; rintro e w2 ⟨rfl, rfl⟩) | (go_at_call 27; refine (creplies_any (F n) (pt n) C _ HX.out).mono ?_; rintro e w3 ⟨rfl, hb3⟩; have HB : Hid _ := hb3; clear hb3))
  go_ret2
  exact ⟨rfl, SGoes.ctx HA.out hn HC.out HB.out⟩

set_option maxHeartbeats 400000 in
theorem new_any (w : World) :
    Calls Try.prog 23 #[] w fun e w' => e = .returned (.pointer (some ⟨w.heap.size, 0, none⟩)) ∧ Below w.heap.size w w' ∧ Sv w' (fun b => b = w.heap.size) w.heap.size (fun _ => none) := by
  go_enter Try.func23, Try.ntmps23
  go_wp2
  go_ret
  refine ⟨rfl, (Below.refl _ _).alloc (Nat.le_refl _) _, fun _ => 0, fun _ _ => False, ⟨fun j hj => ?_, fun j => ?_, by simp, fun j C hj hC => (by cases hC), fun i j b _ _ _ q => q.elim, fun j _ q => q, rfl, fun j b _ q => q.elim, fun b hb => by rw [hb]; simp⟩⟩
  · rw [World.cell?_alloc_at _ _ _ _ rfl]
    rcases (by omega : j = 0 ∨ j = 1 ∨ j = 2 ∨ j = 3 ∨ j = 4 ∨ j = 5 ∨ j = 6 ∨ j = 7) with rfl | rfl | rfl | rfl | rfl | rfl | rfl | rfl <;> rfl
  · rw [World.frozen?_alloc_at _ _ _ _ rfl]

/-- the zero Context, just made -/
theorem pg_new (W : World) (t : TypeId) :
    PG (W.alloc (.cells #[.int .i64 0, .slice none 0 0, .int .i64 0, .slice none 0 0, .int .i64 0, .slice none 0 0, .int .i64 0, .slice none 0 0, .int .i64 0, .slice none 0 0, .int .i64 0, .slice none 0 0, .int .i64 0, .slice none 0 0, .int .i64 0, .slice none 0 0, .bool false, .string ByteArray.empty, .bool false, .string ByteArray.empty, .bool false, .string ByteArray.empty, .bool false, .string ByteArray.empty, .slice none 0 0, .int .i64 0, .slice none 0 0] t))
      (fun b => b = W.heap.size) W.heap.size gNew := by
  refine ⟨fun _ => 0, 0, ⟨fun _ => none, fun _ => 0, ⟨fun k hk => ?_, fun k hk => ?_, fun k hk => ?_, fun k hk => ?_, ?_, fun j => ?_, by simp, fun k hk => ?_, fun i j _ _ _ b q => (blk_none q).elim, fun i _ => blk_none, rfl, fun i b _ q => (blk_none q).elim, fun b hb => by rw [hb]; simp⟩, fun _ q => q.elim⟩, fun k _ => ⟨by simp [gNew], by simp, by simp⟩, ⟨rfl, ⟨fun k _ => by simp [gNew], fun k _ => by simp [gNew], fun k _ => by simp [gNew], fun k _ => by simp [gNew], fun k _ q => (by cases q), fun k _ => by simp [gNew]⟩, by simp [gNew], by simp [gNew], by simp [gNew], .inl rfl⟩, .inl ⟨rfl, rfl⟩⟩
  · rw [World.cell?_alloc_at _ _ _ _ rfl]
    rcases (by omega : k = 0 ∨ k = 1 ∨ k = 2 ∨ k = 3 ∨ k = 4 ∨ k = 5 ∨ k = 6 ∨ k = 7) with rfl | rfl | rfl | rfl | rfl | rfl | rfl | rfl <;> rfl
  · rw [World.cell?_alloc_at _ _ _ _ rfl]
    rcases (by omega : k = 0 ∨ k = 1 ∨ k = 2 ∨ k = 3 ∨ k = 4 ∨ k = 5 ∨ k = 6 ∨ k = 7 ∨ k = 8 ∨ k = 9) with rfl | rfl | rfl | rfl | rfl | rfl | rfl | rfl | rfl | rfl <;> rfl
  · rw [World.cell?_alloc_at _ _ _ _ rfl]
    rcases (by omega : k = 0 ∨ k = 1 ∨ k = 2 ∨ k = 3) with rfl | rfl | rfl | rfl <;> rfl
  · rw [World.cell?_alloc_at _ _ _ _ rfl]
    rcases (by omega : k = 0 ∨ k = 1 ∨ k = 2 ∨ k = 3) with rfl | rfl | rfl | rfl <;> rfl
  · rw [World.cell?_alloc_at _ _ _ _ rfl]; rfl
  · rw [World.frozen?_alloc_at _ _ _ _ rfl]
  · have e : (mk gNew (fun _ => 0) 0).by_ k = [] := by
      show bys _ [] [] k = []
      unfold bys; split
      · rfl
      · split
        · rfl
        · split <;> rfl
    rw [e]; exact BS.bare _

theorem srv_cell {w : World} {G : Nat → Prop} {g k : Nat} {pt pt' : Nat → Nat} {F : Nat → Nat → Prop} {S S' : Nat → Option Gst} (h : SrvAt w G g pt F S) (hk : k < 8) {a : Option Addr} (ha : ptr S' pt' k = a) (he : ∀ j, j ≠ k → ptr S' pt' j = ptr S pt j) (j : Nat) (hj : j < 8) :
    (w.setCell ⟨g, k, none⟩ (.pointer a)).cell? ⟨g, j, none⟩ = some (.pointer (ptr S' pt' j)) := by
  by_cases e : j = k
  · subst e; rw [ha]; exact World.cell?_setCell_same _ _ _ (h.ce j hj)
  · rw [World.cell?_setCell_other _ _ _ _ (addr_ne (fun q => e q.symm)), he j e]; exact h.ce j hj

theorem SGoes.opened {W : World} {G : Nat → Prop} {g k : Nat} {pt : Nat → Nat} {F : Nat → Nat → Prop} {S : Nat → Option Gst} {O : Obj} {C : Gst} (h : SrvAt W G g pt F S) (hk : k < 8) (hn : S k = none)
    (hC : PG ((W.setCell ⟨g, k, none⟩ (.pointer (some ⟨W.heap.size, 0, none⟩))).alloc O) (fun b => b = W.heap.size) W.heap.size C) :
    SGoes G W ((W.setCell ⟨g, k, none⟩ (.pointer (some ⟨W.heap.size, 0, none⟩))).alloc O) g (updA S k (some C)) := by
  have hlt := h.lt
  have ho : Only (fun b => b = g) W ((W.setCell ⟨g, k, none⟩ (.pointer (some ⟨W.heap.size, 0, none⟩))).alloc O) := ((Only.refl (fun b => b = g) W).setCell (p := ⟨g, k, none⟩) (.inl rfl) _).alloc _
  have hin : ∀ j b, j < 8 → F j b → b < W.heap.size := fun j b hj hb => h.inn b (h.gf j b hj hb)
  refine ⟨ho.mono (fun b _ hb => by rw [hb]; exact h.gg), fun b => G b ∨ b = W.heap.size, ⟨updA pt k W.heap.size, updA F k (fun b => b = W.heap.size), ⟨fun j hj => ?_, fun j => ?_, Nat.lt_of_lt_of_le h.lt ho.size, fun j D hj hD => ?_, fun i j b hi hj hij => ?_, fun j hj => ?_, .inl h.gg, fun j b hj => ?_, fun b hb => ?_⟩⟩, fun b hb => hb.imp id (fun q => by omega)⟩
  · rw [World.cell?_alloc_past _ _ _ (by rw [sz_setCell]; exact hlt)]
    refine srv_cell h hk ?_ (fun j e => ?_) j hj
    · rw [ptr_some (updA_same _ _ _), updA_same]
    · unfold ptr; rw [updA_other _ _ e, updA_other _ _ e]
  · rw [World.frozen?_alloc_past _ _ _ (by rw [sz_setCell]; exact hlt), World.frozen?_setCell]; exact h.fz j
  · by_cases e : j = k
    · subst e; rw [updA_same] at hD; rw [updA_same, updA_same]; cases hD; exact hC
    · rw [updA_other _ _ e] at hD; rw [updA_other _ _ e, updA_other _ _ e]; exact (h.cx j D hj hD).only ho (fun b hb q => by rw [q] at hb; exact h.own j hj hb)
  · by_cases ei : i = k
    · subst ei
      rw [updA_same, updA_other _ _ (fun q => hij q.symm)]
      intro q1 q2
      have := hin j b hj q2
      have q3 : b = W.heap.size := q1
      omega
    · by_cases ej : j = k
      · subst ej
        rw [updA_same, updA_other _ _ ei]
        intro q1 q2
        have := hin i b hi q1
        have q3 : b = W.heap.size := q2
        omega
      · rw [updA_other _ _ ei, updA_other _ _ ej]; exact h.dis i j b hi hj hij
  · by_cases e : j = k
    · subst e; rw [updA_same]; intro q; have q3 : g = W.heap.size := q; omega
    · rw [updA_other _ _ e]; exact h.own j hj
  · by_cases e : j = k
    · subst e; rw [updA_same]; exact fun q => .inr q
    · rw [updA_other _ _ e]; exact fun q => .inl (h.gf j b hj q)
  · rcases hb with q | q
    · exact Nat.lt_of_lt_of_le (h.inn b q) ho.size
    · rw [q]; simp

theorem SGoes.closed {W : World} {G : Nat → Prop} {g k : Nat} {pt : Nat → Nat} {F : Nat → Nat → Prop} {S : Nat → Option Gst} (h : SrvAt W G g pt F S) (hk : k < 8) :
    SGoes G W (W.setCell ⟨g, k, none⟩ (.pointer none)) g (updA S k none) := by
  have ho : Only (fun b => b = g) W (W.setCell ⟨g, k, none⟩ (.pointer none)) := (Only.refl (fun b => b = g) W).setCell (p := ⟨g, k, none⟩) (.inl rfl) _
  refine ⟨ho.mono (fun b _ hb => by rw [hb]; exact h.gg), G, ⟨pt, updA F k (fun _ => False), ⟨fun j hj => ?_, fun j => ?_, Nat.lt_of_lt_of_le h.lt ho.size, fun j D hj hD => ?_, fun i j b hi hj hij => ?_, fun j hj => ?_, h.gg, fun j b hj => ?_, fun b hb => Nat.lt_of_lt_of_le (h.inn b hb) ho.size⟩⟩, fun b hb => .inl hb⟩
  · refine srv_cell h hk ?_ (fun j e => ?_) j hj
    · exact ptr_none (updA_same _ _ _)
    · unfold ptr; rw [updA_other _ _ e]
  · rw [World.frozen?_setCell]; exact h.fz j
  · by_cases e : j = k
    · subst e; rw [updA_same] at hD; cases hD
    · rw [updA_other _ _ e] at hD; rw [updA_other _ _ e]; exact (h.cx j D hj hD).only ho (fun b hb q => by rw [q] at hb; exact h.own j hj hb)
  · by_cases ei : i = k
    · subst ei; rw [updA_same]; exact fun q => q.elim
    · by_cases ej : j = k
      · subst ej; rw [updA_same]; exact fun _ q => q
      · rw [updA_other _ _ ei, updA_other _ _ ej]; exact h.dis i j b hi hj hij
  · by_cases e : j = k
    · subst e; rw [updA_same]; exact fun q => q
    · rw [updA_other _ _ e]; exact h.own j hj
  · by_cases e : j = k
    · subst e; rw [updA_same]; exact fun q => q.elim
    · rw [updA_other _ _ e]; exact h.gf j b hj

set_option maxHeartbeats 1000000 in
theorem open_ok (G : Nat → Prop) (g : Nat) (S : Nat → Option Gst) (c : Nat) (w : World) (hS : Sv w G g S) (hc : c < 8) (hf : ∀ j, j < c → S j ≠ none) (hn : S c = none) :
    Calls Try.prog 15 #[.pointer (some ⟨g, 0, none⟩)] w fun e w' => e = .returned (.tuple #[.int .i64 c, .int .i64 0]) ∧ SGoes G w w' g (updA S c (some gNew)) := by
  obtain ⟨pt, F, hA⟩ := hS
  have HA : Hid (SrvAt w G g pt F S) := hA
  have HF : Hid (∀ j, j < c → S j ≠ none) := hf
  have HN : Hid (S c = none) := hn
  have ql := hA.lt
  clear hA hf hn
  go_enter Try.func15, Try.ntmps15
  go_wp2
  go_loop [4] (fun i => ∃ k : Nat, k ≤ c ∧ i = .int .i64 k) (fun i => c - (intOf i).toNat)
  case atStart => exact ⟨0, by omega, rfl⟩
  case round =>
    obtain ⟨k, hk, rfl⟩ := hrel
    have n0 : (0 : Int) ≤ k := by omega
    have n8 : (k : Int) < 8 := by omega
    have q := HA.out.ce k (by omega)
    have qf := HA.out.fz k
    by_cases hkc : k < c
    · obtain ⟨D, hD⟩ : ∃ D, S k = some D := by cases e : S k with | none => exact absurd e (HF.out k hkc) | some D => exact ⟨D, rfl⟩
      rw [ptr_some hD] at q
      clear hD
      go_wp2
      go_round
      case rel => exact ⟨k + 1, by omega, by go_num⟩
      case measure => simp [intOf]; omega
    · have e : k = c := by omega
      subst e
      rw [ptr_none HN.out] at q
      go_wp2
      go_ret2
      have hx := pg_new (w.setCell ⟨g, k, none⟩ (.pointer (some ⟨w.heap.size, 0, none⟩))) 80
      rw [sz_setCell] at hx
      exact ⟨rfl, SGoes.opened HA.out hc HN.out hx⟩

set_option maxHeartbeats 1000000 in
theorem open_full (G : Nat → Prop) (g : Nat) (S : Nat → Option Gst) (w : World) (hS : Sv w G g S) (hf : ∀ j, j < 8 → S j ≠ none) :
    Calls Try.prog 15 #[.pointer (some ⟨g, 0, none⟩)] w fun e w' => e = .returned (.tuple #[.int .i64 0, .int .i64 10]) ∧ w' = w := by
  obtain ⟨pt, F, hA⟩ := hS
  have HA : Hid (SrvAt w G g pt F S) := hA
  have HF : Hid (∀ j, j < 8 → S j ≠ none) := hf
  have ql := hA.lt
  clear hA hf
  go_enter Try.func15, Try.ntmps15
  go_wp2
  go_loop [4] (fun i => ∃ k : Nat, k ≤ 8 ∧ i = .int .i64 k) (fun i => 8 - (intOf i).toNat)
  case atStart => exact ⟨0, by omega, rfl⟩
  case round =>
    obtain ⟨k, hk, rfl⟩ := hrel
    by_cases hkc : k < 8
    · have n0 : (0 : Int) ≤ k := by omega
      have n8 : (k : Int) < 8 := by omega
      have q := HA.out.ce k (by omega)
      obtain ⟨D, hD⟩ : ∃ D, S k = some D := by cases e : S k with | none => exact absurd e (HF.out k hkc) | some D => exact ⟨D, rfl⟩
      rw [ptr_some hD] at q
      clear hD
      go_wp2
      go_round
      case rel => exact ⟨k + 1, by omega, by go_num⟩
      case measure => simp [intOf]; omega
    · have n8 : ¬ (k : Int) < 8 := by omega
      go_wp2
      go_ret2
      exact ⟨rfl, rfl⟩

/-- the pages that the contexts below n take -/
def tots (S : Nat → Option Gst) : Nat → Int
  | 0 => 0
  | k + 1 => tots S k + (match S k with | none => 0 | some C => tot C.rm.bs 8)

theorem tots_none {S : Nat → Option Gst} {k : Nat} (h : S k = none) : tots S (k + 1) = tots S k := by simp [tots, h]
theorem tots_some {S : Nat → Option Gst} {k : Nat} {C : Gst} (h : S k = some C) : tots S (k + 1) = tots S k + tot C.rm.bs 8 := by simp [tots, h]
theorem tots_bd {S : Nat → Option Gst} {n : Nat} (h : ∀ j C, j < n → S j = some C → okP C) : 0 ≤ tots S n ∧ tots S n ≤ 72 * n := by
  induction n with
  | zero => simp [tots]
  | succ n ih =>
    have i := ih (fun j C hj hC => h j C (by omega) hC)
    cases e : S n with
    | none => rw [tots_none e]; omega
    | some C => rw [tots_some e]; have := tot_bd (f := C.rm.bs) (n := 8) (h n C (by omega) e).rm.len; omega

/-- the eight pointers, as they are read at once -/
theorem ptrs_row {W : World} {G : Nat → Prop} {g : Nat} {pt : Nat → Nat} {F : Nat → Nat → Prop} {S : Nat → Option Gst} (h : SrvAt W G g pt F S) :
    ∃ cs : List Value, cs.length = 8 ∧ W.rangeAt g 0 cs ∧ ∀ k : Nat, k < 8 → ∀ w, (Instr.index 68 (.agg cs.toArray) (.int .i64 (k : Int))).run Try.prog w = .ok (.pointer (ptr S pt k)) w := by
  refine ⟨[.pointer (ptr S pt 0), .pointer (ptr S pt 1), .pointer (ptr S pt 2), .pointer (ptr S pt 3), .pointer (ptr S pt 4), .pointer (ptr S pt 5), .pointer (ptr S pt 6), .pointer (ptr S pt 7)], rfl, ?_, ?_⟩
  · intro j v hj
    rw [Nat.zero_add]
    match j, hj with
    | 0, hj => cases hj; exact h.ce 0 (by omega)
    | 1, hj => cases hj; exact h.ce 1 (by omega)
    | 2, hj => cases hj; exact h.ce 2 (by omega)
    | 3, hj => cases hj; exact h.ce 3 (by omega)
    | 4, hj => cases hj; exact h.ce 4 (by omega)
    | 5, hj => cases hj; exact h.ce 5 (by omega)
    | 6, hj => cases hj; exact h.ce 6 (by omega)
    | 7, hj => cases hj; exact h.ce 7 (by omega)
    | n + 8, hj => cases hj
  · intro k hk w
    rcases (by omega : k = 0 ∨ k = 1 ∨ k = 2 ∨ k = 3 ∨ k = 4 ∨ k = 5 ∨ k = 6 ∨ k = 7) with rfl | rfl | rfl | rfl | rfl | rfl | rfl | rfl <;> kernel_rfl

set_option maxHeartbeats 1000000 in
theorem free_any (G : Nat → Prop) (g : Nat) (S : Nat → Option Gst) (w : World) (hS : Sv w G g S) :
    Calls Try.prog 45 #[.pointer (some ⟨g, 0, none⟩)] w fun e w' => e = .returned (.int .i64 (96 - tots S 8)) ∧ Below w.heap.size w w' := by
  obtain ⟨pt, F, hA⟩ := hS
  have HA : Hid (SrvAt w G g pt F S) := hA
  have HG : Hid (∀ j C, j < 8 → S j = some C → okP C) := fun j C hj hC => (hA.cx j C hj hC).ok
  have ql := hA.lt
  obtain ⟨cs, hl, hr, hix⟩ := ptrs_row hA
  have HR : Hid (w.rangeAt g 0 cs) := hr
  have HL : Hid (cs.length = 8) := hl
  have HX : Hid (∀ k : Nat, k < 8 → ∀ w, (Instr.index 68 (.agg cs.toArray) (.int .i64 (k : Int))).run Try.prog w = .ok (.pointer (ptr S pt k)) w) := hix
  clear hA hr hl hix
  go_enter Try.func45, Try.ntmps45
  go_wp2_with (refine wpList_load_mid rfl 68 (.tmp 10) rfl g 0 rfl cs _ HR.out Try.underlying68 rfl (by rw [HL.out]; kernel_rfl) ?_)
  go_loopw [3, 12] (fun t i wr => ∃ k : Nat, k ≤ 8 ∧ i = .int .i64 k ∧ t = .int .i64 (96 - tots S k) ∧ Below w.heap.size w wr) (fun _ i _ => 8 - (intOf i).toNat)
  case atStart => exact ⟨0, by omega, rfl, rfl, Below.refl _ _⟩
  case round =>
    obtain ⟨k, hk, rfl, rfl, hB⟩ := hrel
    have BB : Hid (Below w.heap.size w wr) := hB
    have hz := hB.size
    clear hB
    by_cases hlt8 : k < 8
    · have hx := HX.out k hlt8
      have hb := tots_bd (S := S) (n := k) (fun j C hj hC => HG.out j C (by omega) hC)
      obtain ⟨hb1, hb2⟩ := hb
      cases hD : S k with
      | none =>
        rw [ptr_none hD] at hx
        have e := tots_none hD
        have HE : Hid _ := e
        clear hD e
        go_wp2
        go_roundw
        case rel => exact ⟨k + 1, by omega, by go_num, by rw [HE.out], BB.out⟩
        case measure => simp [intOf]; omega
      | some D =>
        rw [ptr_some hD] at hx
        have hg : okP D := HG.out k D hlt8 hD
        have hcx : PG wr (F k) (pt k) D := (HA.out.cx k D hlt8 hD).below BB.out
        have e := tots_some hD
        have HE : Hid (tots S (k + 1) = tots S k + tot D.rm.bs 8) := e
        have HGD : Hid (okP D) := hg
        have HCX : Hid (PG wr (F k) (pt k) D) := hcx
        obtain ⟨t1, t2⟩ := tot_bd (f := D.rm.bs) (n := 8) hg.rm.len
        clear hD e hg hcx
        go_wp2_with (go_at_call 61; refine (cpages_any (F k) (pt k) D _ HCX.out).mono ?_; rintro e w2 ⟨rfl, hb2⟩)
        go_roundw
        case rel => exact ⟨k + 1, by omega, by go_num, by rw [HE.out]; go_num, BB.out.trans (hb2.mono hz)⟩
        case measure => simp [intOf]; omega
    · have e : k = 8 := by omega
      subst e
      go_wp2
      go_ret
      exact ⟨rfl, BB.out⟩

set_option maxHeartbeats 400000 in
theorem close_shut (G : Nat → Prop) (g : Nat) (S : Nat → Option Gst) (c : Int) (w : World) (hS : Sv w G g S) (h : shut S c) :
    Calls Try.prog 28 #[.pointer (some ⟨g, 0, none⟩), .int .i64 c] w fun e w' => e = .returned (.int .i64 11) ∧ w' = w := by
  have HS : Hid (Sv w G g S) := hS
  have HH : Hid (shut S c) := h
  clear hS h
  go_enter Try.func28, Try.ntmps28
  go_wp2_with (go_at_call 24; refine (find_no G g S c _ HS.out HH.out).mono ?_; rintro e w2 ⟨rfl, rfl⟩)
  go_ret
  exact ⟨rfl, rfl⟩

set_option maxHeartbeats 400000 in
theorem close_ok (G : Nat → Prop) (g : Nat) (S : Nat → Option Gst) (n : Nat) (C : Gst) (w : World) (hS : Sv w G g S) (hn : n < 8) (hC : S n = some C) :
    Calls Try.prog 28 #[.pointer (some ⟨g, 0, none⟩), .int .i64 n] w fun e w' => e = .returned (.int .i64 0) ∧ SGoes G w w' g (updA S n none) := by
  obtain ⟨pt, F, hA⟩ := hS
  have HA : Hid (SrvAt w G g pt F S) := hA
  have HC : Hid (S n = some C) := hC
  have q := hA.ce n hn
  have qf := hA.fz n
  have ql := hA.lt
  have n0 : (0 : Int) ≤ n := by omega
  have n8 : (n : Int) < 8 := by omega
  clear hA hC
  go_enter Try.func28, Try.ntmps28
  go_wp2_with (go_at_call 24; refine (find_yes G g pt F S n C _ HA.out hn HC.out).mono ?_; rintro e w2 ⟨rfl, w2e⟩; subst w2)
  go_ret
  exact ⟨rfl, SGoes.closed HA.out hn⟩

end Go.Proofs.Ytbedkfgdhaajaab
