/- Walks: the document's answer: a house in memory; New, refuses, Enter, Leave, Free, Send, Replies (P6, P7, P9). Walks: the document's answer: New, Send, Replies (P6, P7, P9). -/
import Derived.Test.YtbedkfgdhaajaabRefGuest
import Derived.Test.YtbedkfgdhaajaabDocFacts
import Derived.Deep.MidRow
namespace Go.Proofs.Ytbedkfgdhaajaab
open Go.RowKit

def rNone : Rm := ⟨fun _ => 0, fun _ => [], fun _ => false, fun _ => []⟩
/-- a guest that is not there; one that has just come in -/
def gShut : Gst := ⟨false, rNone, [], 0, []⟩
def gOpen : Gst := ⟨true, rNone, [], 0, []⟩
def gof : Option Gst → Gst
  | none => gShut
  | some g => g

/-- what is known of the contexts of a server -/
def okS (S : Nat → Option Gst) : Prop := ∀ c g, c < 8 → S c = some g → g.op = true ∧ okR g.rm ∧ g.wait.length ≤ 1024 ∧ g.out.length ≤ 2000

/-- a house lies at block h -/
def HAt (W : World) (h : Nat) (S : Nat → Option Gst) : Prop := ∀ c, c < 8 → GAt W h (c * 28) (gof (S c))
def HGoes (h : Nat) (w w' : World) (S' : Nat → Option Gst) : Prop := Only (fun b => b = h) w w' ∧ HAt w' h S'

section
variable {W W' : World} {h : Nat} {S : Nat → Option Gst}
theorem HAt.lt (H : HAt W h S) : h < W.heap.size := (H 0 (by omega)).lt
theorem HAt.fz (H : HAt W h S) (j : Nat) : W.frozen? ⟨h, j, none⟩ = false := (H 0 (by omega)).fz j
theorem HAt.only {F : Nat → Prop} (H : HAt W h S) (ho : Only F W W') (hn : ¬ F h) : HAt W' h S := fun c hc => (H c hc).only ho hn
theorem HAt.below (H : HAt W h S) (hb : Below W.heap.size W W') : HAt W' h S := fun c hc => (H c hc).below hb
theorem HGoes.stay {w w' : World} (H : HAt w h S) (hb : Below w.heap.size w w') : HGoes h w w' S := ⟨Only.of_below hb, H.below hb⟩

theorem GAt.apart {o : Nat} {g : Gst} (H : GAt W h o g) (o' : Nat) (vs : List Value) (hap : o + 28 ≤ o' ∨ o' + vs.length ≤ o) : GAt (W.setCells h o' vs) h o g :=
  ⟨World.rangeAt_setCells_apart H.rng h o' vs (.inr hap), fun j => by rw [World.frozen?_setCells]; exact H.fz j, by rw [sz_setCells]; exact H.lt⟩

/-- guest c is another one now -/
theorem HAt.put (H : HAt W h S) {c : Nat} (hc : c < 8) (o : Option Gst) : HAt (W.setCells h (c * 28) (gcl (gof o))) h (updA S c o) := by
  intro j hj
  by_cases e : j = c
  · subst e; rw [updA_same]; exact (H j hj).put _
  · rw [updA_other _ _ e]
    exact (H j hj).apart _ _ (by rw [gcl_length]; omega)
theorem HGoes.put (H : HAt W h S) {c : Nat} (hc : c < 8) (o : Option Gst) : HGoes h W (W.setCells h (c * 28) (gcl (gof o))) (updA S c o) := by
  obtain ⟨z1, z2, z3, z4, z5⟩ := setCells_block h (gcl (gof o)) (c * 28) W
  exact ⟨⟨z3, z4, z5, by omega, fun k _ hk => z2 k hk⟩, H.put hc o⟩

theorem setCells_one (W : World) (b o : Nat) (v : Value) : W.setCells b o [v] = W.setCell ⟨b, o, none⟩ v := rfl

theorem GAt.setWait {o : Nat} {g : Gst} (H : GAt W h o g) (l : List UInt8) : GAt (W.setCell ⟨h, o + 25, none⟩ (.string (str l))) h o { g with wait := l } := by
  refine ⟨fun j u hj => ?_, fun j => by rw [World.frozen?_setCell]; exact H.fz j, by rw [sz_setCell]; exact H.lt⟩
  by_cases e : j = 25
  · subst e
    cases hj
    exact World.cell?_setCell_same _ _ _ H.wait
  · rw [World.cell?_setCell_other _ _ _ _ (addr_ne (by omega))]
    refine H.rng j u ?_
    match j, hj, e with
    | 25, _, e => exact absurd rfl e
    | 0, hj, _ | 1, hj, _ | 2, hj, _ | 3, hj, _ | 4, hj, _ | 5, hj, _ | 6, hj, _ | 7, hj, _ | 8, hj, _ | 9, hj, _ | 10, hj, _ | 11, hj, _ | 12, hj, _ | 13, hj, _ | 14, hj, _ | 15, hj, _ | 16, hj, _ | 17, hj, _ | 18, hj, _ | 19, hj, _ | 20, hj, _ | 21, hj, _ | 22, hj, _ | 23, hj, _ | 24, hj, _ | 26, hj, _ | 27, hj, _ => exact hj
    | n + 28, hj, _ => exact hj
theorem GAt.setOut {o : Nat} {g : Gst} (H : GAt W h o g) (l : List UInt8) : GAt (W.setCell ⟨h, o + 27, none⟩ (.string (str l))) h o { g with out := l } := by
  refine ⟨fun j u hj => ?_, fun j => by rw [World.frozen?_setCell]; exact H.fz j, by rw [sz_setCell]; exact H.lt⟩
  by_cases e : j = 27
  · subst e
    cases hj
    exact World.cell?_setCell_same _ _ _ H.out
  · rw [World.cell?_setCell_other _ _ _ _ (addr_ne (by omega))]
    refine H.rng j u ?_
    match j, hj, e with
    | 27, _, e => exact absurd rfl e
    | 0, hj, _ | 1, hj, _ | 2, hj, _ | 3, hj, _ | 4, hj, _ | 5, hj, _ | 6, hj, _ | 7, hj, _ | 8, hj, _ | 9, hj, _ | 10, hj, _ | 11, hj, _ | 12, hj, _ | 13, hj, _ | 14, hj, _ | 15, hj, _ | 16, hj, _ | 17, hj, _ | 18, hj, _ | 19, hj, _ | 20, hj, _ | 21, hj, _ | 22, hj, _ | 23, hj, _ | 24, hj, _ | 25, hj, _ | 26, hj, _ => exact hj
    | n + 28, hj, _ => exact hj

theorem HAt.setWait (H : HAt W h S) {c : Nat} (hc : c < 8) {g : Gst} (hg : S c = some g) (l : List UInt8) : HAt (W.setCell ⟨h, c * 28 + 25, none⟩ (.string (str l))) h (updA S c (some { g with wait := l })) := by
  intro j hj
  have hj' := H j hj
  by_cases e : j = c
  · subst e; rw [updA_same]; rw [hg] at hj'; exact hj'.setWait l
  · rw [updA_other _ _ e, ← setCells_one]
    exact hj'.apart _ _ (by simp only [List.length_singleton]; omega)
theorem HAt.setOut (H : HAt W h S) {c : Nat} (hc : c < 8) {g : Gst} (hg : S c = some g) (l : List UInt8) : HAt (W.setCell ⟨h, c * 28 + 27, none⟩ (.string (str l))) h (updA S c (some { g with out := l })) := by
  intro j hj
  have hj' := H j hj
  by_cases e : j = c
  · subst e; rw [updA_same]; rw [hg] at hj'; exact hj'.setOut l
  · rw [updA_other _ _ e, ← setCells_one]
    exact hj'.apart _ _ (by simp only [List.length_singleton]; omega)
end

/-- no context c is open -/
def hshut (S : Nat → Option Gst) (c : Int) : Prop := c < 0 ∨ 8 ≤ c ∨ S c.toNat = none

set_option maxHeartbeats 400000 in
theorem refuses_no (h : Nat) (S : Nat → Option Gst) (c : Int) (w : World) (H : HAt w h S) (hs : hshut S c) :
    Calls Try.prog 60 #[.pointer (some ⟨h, 0, none⟩), .int .i64 c] w fun e w' => e = .returned (.int .i64 11) ∧ w' = w := by
  by_cases h1 : c < 0
  · go_enter Try.func60, Try.ntmps60
    go_wp2
    go_ret
    exact ⟨rfl, rfl⟩
  · by_cases h2 : 8 ≤ c
    · go_enter Try.func60, Try.ntmps60
      go_wp2
      go_ret
      exact ⟨rfl, rfl⟩
    · obtain ⟨n, rfl⟩ : ∃ n : Nat, c = n := ⟨c.toNat, by omega⟩
      have hn : S n = none := by rcases hs with q | q | q; omega; omega; simpa using q
      have q := (H n (by omega)).op
      rw [hn] at q
      have ql := H.lt
      have n0 : (0 : Int) ≤ n := by omega
      have n8 : (n : Int) < 8 := by omega
      simp only [show (gof none).op = false from rfl] at q
      clear H hn hs
      go_enter Try.func60, Try.ntmps60
      go_wp2
      go_ret
      exact ⟨rfl, rfl⟩

set_option maxHeartbeats 400000 in
theorem refuses_yes (h : Nat) (S : Nat → Option Gst) (n : Nat) (g : Gst) (w : World) (H : HAt w h S) (hn : n < 8) (hg : S n = some g) (ho : g.op = true) :
    Calls Try.prog 60 #[.pointer (some ⟨h, 0, none⟩), .int .i64 n] w fun e w' => e = .returned (.int .i64 0) ∧ w' = w := by
  have q := (H n hn).op
  rw [hg] at q
  simp only [show (gof (some g)).op = g.op from rfl, ho] at q
  have ql := H.lt
  have n0 : (0 : Int) ≤ n := by omega
  have n8 : (n : Int) < 8 := by omega
  clear H hg ho
  go_enter Try.func60, Try.ntmps60
  go_wp2
  go_ret
  exact ⟨rfl, rfl⟩

set_option maxHeartbeats 400000 in
theorem refuses_nil (c : Int) (w : World) :
    Calls Try.prog 60 #[.pointer none, .int .i64 c] w fun e w' => e = .returned (.int .i64 9) ∧ w' = w := by
  go_enter Try.func60, Try.ntmps60
  go_wp2
  go_ret
  exact ⟨rfl, rfl⟩

theorem build_open : ∀ w : World, (Instr.build 113 #[(0, .bool true)]).run Try.prog w = .ok (.agg (gcl gOpen).toArray) w := by intro w; kernel_rfl
theorem build_shut : ∀ w : World, (Instr.build 113 #[]).run Try.prog w = .ok (.agg (gcl gShut).toArray) w := by intro w; kernel_rfl


set_option maxHeartbeats 400000 in
theorem leave_no (h : Nat) (S : Nat → Option Gst) (c : Int) (w : World) (H : HAt w h S) (hs : hshut S c) :
    Calls Try.prog 44 #[.pointer (some ⟨h, 0, none⟩), .int .i64 c] w fun e w' => e = .returned (.int .i64 11) ∧ w' = w := by
  have HH : Hid (HAt w h S) := H
  have HS : Hid (hshut S c) := hs
  clear H hs
  go_enter Try.func44, Try.ntmps44
  go_wp2_with (go_at_call 60; refine (refuses_no h S c _ HH.out HS.out).mono ?_; rintro e w2 ⟨rfl, rfl⟩)
  go_ret
  exact ⟨rfl, rfl⟩

set_option maxHeartbeats 400000 in
theorem leave_yes (h : Nat) (S : Nat → Option Gst) (n : Nat) (g : Gst) (w : World) (H : HAt w h S) (hn : n < 8) (hg : S n = some g) (ho : g.op = true) :
    Calls Try.prog 44 #[.pointer (some ⟨h, 0, none⟩), .int .i64 n] w fun e w' => e = .returned (.int .i64 0) ∧ HGoes h w w' (updA S n none) := by
  have HH : Hid (HAt w h S) := H
  have HG : Hid (S n = some g) := hg
  have HO : Hid (g.op = true) := ho
  have ql := H.lt
  have n0 : (0 : Int) ≤ n := by omega
  have n8 : (n : Int) < 8 := by omega
  have KT : Hid (w.there h (n * 28) 28) := (H n hn).there
  have hb := build_shut
  clear H hg ho
  go_enter Try.func44, Try.ntmps44
  go_wp2_with (first | (go_at_call 60; refine (refuses_yes h S n g _ HH.out hn HG.out HO.out).mono ?_; rintro e w2 ⟨rfl, w2e⟩; subst w2) | (refine wpList_store_mid rfl 113 (.tmp 16) (.tmp 13) rfl h (n * 28) (gcl gShut).toArray rfl rfl KT.out (by show _ = some 28; kernel_rfl) (all_oneCell_toArray (gcl_one _)) ?_))
  go_ret
  exact ⟨rfl, HGoes.put HH.out hn none⟩

theorem tupE {a b c d : Int} (h : a = c) (k : b = d) : Ending.returned (.tuple #[.int .i64 a, .int .i64 b]) = .returned (.tuple #[.int .i64 c, .int .i64 d]) := by rw [h, k]

set_option maxHeartbeats 1000000 in
theorem enter_ok (h : Nat) (S : Nat → Option Gst) (c : Nat) (w : World) (H : HAt w h S) (hS : okS S) (hc : c < 8) (hf : ∀ j, j < c → S j ≠ none) (hn : S c = none) :
    Calls Try.prog 43 #[.pointer (some ⟨h, 0, none⟩)] w fun e w' => e = .returned (.tuple #[.int .i64 c, .int .i64 0]) ∧ HGoes h w w' (updA S c (some gOpen)) := by
  have HH : Hid (HAt w h S) := H
  have HS : Hid (okS S) := hS
  have HF : Hid (∀ j, j < c → S j ≠ none) := hf
  have HN : Hid (S c = none) := hn
  have ql := H.lt
  have KT : Hid (w.there h (c * 28) 28) := (H c hc).there
  have hb := build_open
  clear H hf hn hS
  go_enter Try.func43, Try.ntmps43
  go_wp2
  go_loop [4] (fun i => ∃ k : Nat, k ≤ c ∧ i = .int .i64 k) (fun i => c - (intOf i).toNat)
  case atStart => exact ⟨0, by omega, rfl⟩
  case round =>
    obtain ⟨k, hk, rfl⟩ := hrel
    have n0 : (0 : Int) ≤ k := by omega
    have n8 : (k : Int) < 8 := by omega
    have q := (HH.out k (by omega)).op
    by_cases hkc : k < c
    · obtain ⟨D, hD⟩ : ∃ D, S k = some D := by cases e : S k with | none => exact absurd e (HF.out k hkc) | some D => exact ⟨D, rfl⟩
      have hop := (HS.out k D (by omega) hD).1
      rw [hD] at q
      simp only [show (gof (some D)).op = D.op from rfl, hop] at q
      clear hD hop
      go_wp2
      go_round
      case rel => exact ⟨k + 1, by omega, by go_num⟩
      case measure => simp [intOf]; omega
    · have e : k = c := by omega
      subst e
      rw [HN.out] at q
      simp only [show (gof none).op = false from rfl] at q
      go_wp2_with (refine wpList_store_mid rfl 113 (.tmp 24) (.tmp 21) rfl h (k * 28) (gcl gOpen).toArray rfl rfl KT.out (by show _ = some 28; kernel_rfl) (all_oneCell_toArray (gcl_one _)) ?_)
      go_ret2
      exact ⟨rfl, HGoes.put HH.out hc (some gOpen)⟩

set_option maxHeartbeats 1000000 in
theorem enter_full (h : Nat) (S : Nat → Option Gst) (w : World) (H : HAt w h S) (hS : okS S) (hf : ∀ j, j < 8 → S j ≠ none) :
    Calls Try.prog 43 #[.pointer (some ⟨h, 0, none⟩)] w fun e w' => e = .returned (.tuple #[.int .i64 0, .int .i64 10]) ∧ w' = w := by
  have HH : Hid (HAt w h S) := H
  have HS : Hid (okS S) := hS
  have HF : Hid (∀ j, j < 8 → S j ≠ none) := hf
  have ql := H.lt
  clear H hf hS
  go_enter Try.func43, Try.ntmps43
  go_wp2
  go_loop [4] (fun i => ∃ k : Nat, k ≤ 8 ∧ i = .int .i64 k) (fun i => 8 - (intOf i).toNat)
  case atStart => exact ⟨0, by omega, rfl⟩
  case round =>
    obtain ⟨k, hk, rfl⟩ := hrel
    by_cases hkc : k < 8
    · have n0 : (0 : Int) ≤ k := by omega
      have n8 : (k : Int) < 8 := by omega
      have q := (HH.out k (by omega)).op
      obtain ⟨D, hD⟩ : ∃ D, S k = some D := by cases e : S k with | none => exact absurd e (HF.out k hkc) | some D => exact ⟨D, rfl⟩
      have hop := (HS.out k D (by omega) hD).1
      rw [hD] at q
      simp only [show (gof (some D)).op = D.op from rfl, hop] at q
      clear hD hop
      go_wp2
      go_round
      case rel => exact ⟨k + 1, by omega, by go_num⟩
      case measure => simp [intOf]; omega
    · have n8 : ¬ (k : Int) < 8 := by omega
      go_wp2
      go_ret2
      exact ⟨rfl, rfl⟩

set_option maxHeartbeats 400000 in
theorem enter_nil (w : World) : Calls Try.prog 43 #[.pointer none] w fun e w' => e = .returned (.tuple #[.int .i64 0, .int .i64 9]) ∧ w' = w := by
  go_enter Try.func43, Try.ntmps43
  go_wp2
  go_ret2
  exact ⟨rfl, rfl⟩
set_option maxHeartbeats 400000 in
theorem leave_nil (c : Int) (w : World) : Calls Try.prog 44 #[.pointer none, .int .i64 c] w fun e w' => e = .returned (.int .i64 9) ∧ w' = w := by
  go_enter Try.func44, Try.ntmps44
  go_wp2_with (go_at_call 60; refine (refuses_nil c _).mono ?_; rintro e w2 ⟨rfl, rfl⟩)
  go_ret
  exact ⟨rfl, rfl⟩
set_option maxHeartbeats 400000 in
theorem hfree_nil (w : World) : Calls Try.prog 46 #[.pointer none] w fun e w' => e = .returned (.int .i64 0) ∧ w' = w := by
  go_enter Try.func46, Try.ntmps46
  go_wp2
  go_ret
  exact ⟨rfl, rfl⟩
set_option maxHeartbeats 400000 in
theorem hsend_nil (c : Int) (s : ByteArray) (w : World) : Calls Try.prog 47 #[.pointer none, .int .i64 c, .string s] w fun e w' => e = .returned (.int .i64 9) ∧ w' = w := by
  go_enter Try.func47, Try.ntmps47
  go_wp2_with (go_at_call 60; refine (refuses_nil c _).mono ?_; rintro e w2 ⟨rfl, rfl⟩)
  go_ret
  exact ⟨rfl, rfl⟩
set_option maxHeartbeats 400000 in
theorem hrun_nil (c f : Int) (w : World) : Calls Try.prog 48 #[.pointer none, .int .i64 c, .int .i64 f] w fun e w' => e = .returned (.tuple #[.int .i64 0, .int .i64 9]) ∧ w' = w := by
  go_enter Try.func48, Try.ntmps48
  go_wp2_with (go_at_call 60; refine (refuses_nil c _).mono ?_; rintro e w2 ⟨rfl, rfl⟩)
  go_ret2
  exact ⟨rfl, rfl⟩
set_option maxHeartbeats 400000 in
theorem hreplies_nil (c : Int) (w : World) : Calls Try.prog 49 #[.pointer none, .int .i64 c] w fun e w' => e = .returned (.tuple #[.string ByteArray.empty, .int .i64 9]) ∧ w' = w := by
  go_enter Try.func49, Try.ntmps49
  go_wp2_with (go_at_call 60; refine (refuses_nil c _).mono ?_; rintro e w2 ⟨rfl, rfl⟩)
  go_ret2
  exact ⟨rfl, rfl⟩

/-- the pages of the guests below n -/
def htots (S : Nat → Option Gst) : Nat → Int
  | 0 => 0
  | k + 1 => htots S k + tot (gof (S k)).rm.bs 8
theorem gof_len {S : Nat → Option Gst} (h : okS S) {k : Nat} (hk : k < 8) : ∀ j, j < 8 → ((gof (S k)).rm.bs j).length ≤ 576 := by
  intro j hj
  cases e : S k with
  | none => simp [gof, gShut, rNone]
  | some g => exact (h k g hk e).2.1.len j hj
theorem htots_bd {S : Nat → Option Gst} {n : Nat} (h : okS S) (hn : n ≤ 8) : 0 ≤ htots S n ∧ htots S n ≤ 72 * n := by
  induction n with
  | zero => simp [htots]
  | succ n ih =>
    have i := ih (by omega)
    have := tot_bd (f := (gof (S n)).rm.bs) (n := 8) (gof_len h (by omega))
    simp only [htots]; omega

set_option maxHeartbeats 1000000 in
theorem hfree_any (h : Nat) (S : Nat → Option Gst) (w : World) (H : HAt w h S) (hS : okS S) :
    Calls Try.prog 46 #[.pointer (some ⟨h, 0, none⟩)] w fun e w' => e = .returned (.int .i64 (96 - htots S 8)) ∧ Below w.heap.size w w' := by
  have HH : Hid (HAt w h S) := H
  have HS : Hid (okS S) := hS
  have ql := H.lt
  clear H hS
  go_enter Try.func46, Try.ntmps46
  go_wp2
  go_loopw [3, 4, 5] (fun t i _ wr => ∃ k : Nat, k ≤ 8 ∧ i = .int .i64 k ∧ t = .int .i64 (96 - htots S k) ∧ Below w.heap.size w wr) (fun _ i _ _ => 8 - (intOf i).toNat)
  case atStart => exact ⟨0, by omega, rfl, rfl, Below.refl _ _⟩
  case round =>
    obtain ⟨k, hk, rfl, rfl, hB⟩ := hrel
    have BB : Hid (Below w.heap.size w wr) := hB
    have hz := hB.size
    clear hB
    by_cases hlt8 : k < 8
    · have HR : Hid (RoomAt wr h (k * 28 + 1) (gof (S k)).rm) := (HH.out.below BB.out k hlt8).room
      have HL : Hid (∀ j, j < 8 → ((gof (S k)).rm.bs j).length ≤ 576) := gof_len HS.out hlt8
      obtain ⟨b1, b2⟩ := htots_bd (n := k) HS.out (by omega)
      obtain ⟨t1, t2⟩ := tot_bd (f := (gof (S k)).rm.bs) (n := 8) HL.out
      have k0 : (0 : Int) ≤ k := by omega
      have k8 : (k : Int) < 8 := by omega
      obtain ⟨T, hT⟩ : ∃ T, tot (gof (S k)).rm.bs 8 = T := ⟨_, rfl⟩
      have HT : Hid (tot (gof (S k)).rm.bs 8 = T) := hT
      rw [hT] at t1 t2
      have ql2 : h < wr.heap.size := by omega
      clear hT
      go_wp2_with (go_at_call 62; refine (taken_any h (k * 28 + 1) (gof (S k)).rm _ HR.out HL.out).mono ?_; rw [HT.out]; rintro e w2 ⟨rfl, w2e⟩; subst w2)
      go_roundw
      case rel => exact ⟨k + 1, by omega, by go_num, by simp only [htots]; rw [HT.out]; go_num, BB.out⟩
      case measure => simp [intOf]; omega
    · have e : k = 8 := by omega
      subst e
      go_wp2
      go_ret
      exact ⟨rfl, BB.out⟩

end Go.Proofs.Ytbedkfgdhaajaab

namespace Go.Proofs.Ytbedkfgdhaajaab
open Go.RowKit

/-- n times a row -/
def repL {α : Type} (L : List α) : Nat → List α
  | 0 => []
  | n + 1 => L ++ repL L n
theorem repL_get {α : Type} (L : List α) (n c j : Nat) (hc : c < n) (hj : j < L.length) : (repL L n)[c * L.length + j]? = L[j]? := by
  induction n generalizing c with
  | zero => omega
  | succ n ih =>
    show (L ++ repL L n)[c * L.length + j]? = L[j]?
    cases c with
    | zero => rw [Nat.zero_mul, Nat.zero_add, List.getElem?_append_left hj]
    | succ c =>
      have e : (c + 1) * L.length + j - L.length = c * L.length + j := by rw [Nat.succ_mul]; omega
      rw [List.getElem?_append_right (by rw [Nat.succ_mul]; omega), e]
      exact ih c (by omega)

theorem build_house : ∀ w : World, (Instr.build 116 #[]).run Try.prog w = .ok (.agg (repL (gcl gShut) 8).toArray) w := by intro w; kernel_rfl

theorem hat_new (w : World) (t : TypeId) : HAt (w.alloc (.cells (repL (gcl gShut) 8).toArray t)) w.heap.size (fun _ => none) := by
  intro c hc
  refine ⟨fun j v hj => ?_, fun j => World.frozen?_alloc_at _ _ _ _ rfl, by simp⟩
  have hlt : j < 28 := by
    have := (List.getElem?_eq_some_iff.1 hj).1
    rw [gcl_length] at this; exact this
  rw [World.cell?_alloc_at _ _ _ _ rfl, List.getElem?_toArray]
  have := repL_get (gcl gShut) 8 c j hc (by rw [gcl_length]; exact hlt)
  rw [gcl_length] at this
  rw [this]
  exact hj

set_option maxHeartbeats 1000000 in
theorem hnew_any (w : World) :
    Calls Try.prog 33 #[] w fun e w' => e = .returned (.pointer (some ⟨w.heap.size, 0, none⟩)) ∧ Below w.heap.size w w' ∧ HAt w' w.heap.size (fun _ => none) := by
  have e : Try.zeroCells116 = (repL (gcl gShut) 8).toArray := by kernel_rfl
  have HE : Hid (Try.zeroCells116 = (repL (gcl gShut) 8).toArray) := e
  clear e
  go_enter Try.func33, Try.ntmps33
  go_wp2
  go_ret
  refine ⟨rfl, (Below.refl _ _).alloc (Nat.le_refl _) _, ?_⟩
  rw [HE.out]
  exact hat_new w _

theorem src_sum {a b : Nat} (h : a ≤ 2000) (k : b ≤ 9223372036854770000) : (a : Int) + b ≤ 9223372036854775807 := by omega

set_option maxHeartbeats 400000 in
theorem hsend_no (h : Nat) (S : Nat → Option Gst) (c : Int) (s : ByteArray) (w : World) (H : HAt w h S) (hs : hshut S c) :
    Calls Try.prog 47 #[.pointer (some ⟨h, 0, none⟩), .int .i64 c, .string s] w fun e w' => e = .returned (.int .i64 11) ∧ w' = w := by
  have HH : Hid (HAt w h S) := H
  have HS : Hid (hshut S c) := hs
  clear H hs
  go_enter Try.func47, Try.ntmps47
  go_wp2_with (go_at_call 60; refine (refuses_no h S c _ HH.out HS.out).mono ?_; rintro e w2 ⟨rfl, rfl⟩)
  go_ret
  exact ⟨rfl, rfl⟩


set_option maxHeartbeats 1000000 in
theorem hsend_long (h : Nat) (S : Nat → Option Gst) (n : Nat) (g : Gst) (s : ByteArray) (w : World) (H : HAt w h S) (hn : n < 8) (hg : S n = some g) (ho : g.op = true) (hw : g.wait.length ≤ 1024) (hs : s.size ≤ 4611686018427387904) (hl : 1024 < g.wait.length + s.size) :
    Calls Try.prog 47 #[.pointer (some ⟨h, 0, none⟩), .int .i64 n, .string s] w fun e w' => e = .returned (.int .i64 12) ∧ w' = w := by
  have HH : Hid (HAt w h S) := H
  have HG : Hid (S n = some g) := hg
  have HO : Hid (g.op = true) := ho
  have ql := H.lt
  have n0 : (0 : Int) ≤ n := by omega
  have n8 : (n : Int) < 8 := by omega
  have q := (H n hn).wait
  rw [hg] at q
  obtain ⟨sw, hsw⟩ : ∃ sw, str g.wait = sw := ⟨_, rfl⟩
  have hsz : sw.size = g.wait.length := by rw [← hsw, str_size]
  simp only [show (gof (some g)).wait = g.wait from rfl, hsw] at q
  have e1 : wrap64 ((sw.size : Int) + s.size) = (sw.size : Int) + s.size := by unfold wrap64; omega
  have d1 : decide ((1024 : Int) < (sw.size : Int) + s.size) = true := decide_eq_true (by omega)
  clear H hg ho hsw hs hl hsz hw
  go_enter Try.func47, Try.ntmps47
  go_wp2_with (first | (go_at_call 60; refine (refuses_yes h S n g _ HH.out hn HG.out HO.out).mono ?_; rintro e w2 ⟨rfl, w2e⟩; subst w2))
  go_ret
  exact ⟨rfl, rfl⟩

set_option maxHeartbeats 1000000 in
theorem hsend_ok (h : Nat) (S : Nat → Option Gst) (n : Nat) (g : Gst) (s : ByteArray) (w : World) (H : HAt w h S) (hn : n < 8) (hg : S n = some g) (ho : g.op = true) (hl : g.wait.length + s.size ≤ 1024) :
    Calls Try.prog 47 #[.pointer (some ⟨h, 0, none⟩), .int .i64 n, .string s] w fun e w' => e = .returned (.int .i64 0) ∧ HGoes h w w' (updA S n (some { g with wait := g.wait ++ s.data.toList })) := by
  have HH : Hid (HAt w h S) := H
  have HG : Hid (S n = some g) := hg
  have HO : Hid (g.op = true) := ho
  have ql := H.lt
  have qf := H.fz (n * 28 + 25)
  have n0 : (0 : Int) ≤ n := by omega
  have n8 : (n : Int) < 8 := by omega
  have q := (H n hn).wait
  rw [hg] at q
  obtain ⟨sw, hsw⟩ : ∃ sw, str g.wait = sw := ⟨_, rfl⟩
  have HSW : Hid (str g.wait = sw) := hsw
  have hsz : sw.size = g.wait.length := by rw [← hsw, str_size]
  simp only [show (gof (some g)).wait = g.wait from rfl, hsw] at q
  have hl2 : sw.size + s.size ≤ 1024 := by omega
  have d1 : ¬ (1024 : Int) < (sw.size : Int) + s.size := by omega
  have hsum : (sw.size : Int) + s.size ≤ 9223372036854775807 := by omega
  clear H hg ho hsw hl hsz
  go_enter Try.func47, Try.ntmps47
  go_wp2_with (first | (go_at_call 60; refine (refuses_yes h S n g _ HH.out hn HG.out HO.out).mono ?_; rintro e w2 ⟨rfl, w2e⟩; subst w2))
  go_region
  all_goals
    go_wp2
    go_ret
    refine ⟨rfl, ?_⟩
    have e : sw ++ s = str (g.wait ++ s.data.toList) := by
      rw [← HSW.out]
      unfold str
      apply ByteArray.ext
      simp [ByteArray.data_append]
    rw [e]
    refine ⟨?_, ?_⟩
    · exact ((Only.refl (fun b => b = h) w).setCell (p := ⟨h, n * 28 + 25, none⟩) (.inl rfl) _).drew
    · exact (HH.out.setWait hn HG.out _).only (F := fun _ => False) ((Only.refl _ _).drew) id

set_option maxHeartbeats 400000 in
theorem hreplies_no (h : Nat) (S : Nat → Option Gst) (c : Int) (w : World) (H : HAt w h S) (hs : hshut S c) :
    Calls Try.prog 49 #[.pointer (some ⟨h, 0, none⟩), .int .i64 c] w fun e w' => e = .returned (.tuple #[.string ByteArray.empty, .int .i64 11]) ∧ w' = w := by
  have HH : Hid (HAt w h S) := H
  have HS : Hid (hshut S c) := hs
  clear H hs
  go_enter Try.func49, Try.ntmps49
  go_wp2_with (go_at_call 60; refine (refuses_no h S c _ HH.out HS.out).mono ?_; rintro e w2 ⟨rfl, rfl⟩)
  go_ret2
  exact ⟨rfl, rfl⟩

set_option maxHeartbeats 1000000 in
theorem hreplies_ok (h : Nat) (S : Nat → Option Gst) (n : Nat) (g : Gst) (w : World) (H : HAt w h S) (hn : n < 8) (hg : S n = some g) (ho : g.op = true) :
    Calls Try.prog 49 #[.pointer (some ⟨h, 0, none⟩), .int .i64 n] w fun e w' => e = .returned (.tuple #[.string (str g.out), .int .i64 0]) ∧ HGoes h w w' (updA S n (some { g with out := [] })) := by
  have HH : Hid (HAt w h S) := H
  have HG : Hid (S n = some g) := hg
  have HO : Hid (g.op = true) := ho
  have ql := H.lt
  have qf := H.fz (n * 28 + 27)
  have n0 : (0 : Int) ≤ n := by omega
  have n8 : (n : Int) < 8 := by omega
  have q := (H n hn).out
  rw [hg] at q
  obtain ⟨so, hso⟩ : ∃ so, str g.out = so := ⟨_, rfl⟩
  simp only [show (gof (some g)).out = g.out from rfl, hso] at q
  rw [hso]
  clear H hg ho hso
  go_enter Try.func49, Try.ntmps49
  go_wp2_with (first | (go_at_call 60; refine (refuses_yes h S n g _ HH.out hn HG.out HO.out).mono ?_; rintro e w2 ⟨rfl, w2e⟩; subst w2))
  go_ret2
  exact ⟨rfl, (Only.refl (fun b => b = h) w).setCell (p := ⟨h, n * 28 + 27, none⟩) (.inl rfl) _, HH.out.setOut hn HG.out []⟩

end Go.Proofs.Ytbedkfgdhaajaab
