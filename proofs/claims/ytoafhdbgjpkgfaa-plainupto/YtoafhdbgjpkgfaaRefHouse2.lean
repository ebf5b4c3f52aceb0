/- Walks: the document's answer: New, Send, Replies (P6, P7, P9). -/
import Derived.Test.YtoafhdbgjpkgfaaRefHouse
namespace Go.Proofs.Ytoafhdbgjpkgfaa
open Go.RowKit

/-- n times a row -/
def repL {α : Type} (L : List α) : Nat → List α
  | 0 => []
  | n + 1 => L ++ repL L n
theorem repL_get {α : Type} (L : List α) (n c j : Nat) (hc : c < n) (hj : j < L.length) : (repL L n)[c * L.length + j]? = L[j]? := by
  induction n generalizing c with
  | zero => omega
  | succ n ih =>
    show (L ++ repL L n)[c * L.length + j]? = L[j]?
    cases c with
    | zero => rw [Nat.zero_mul, Nat.zero_add, List.getElem?_append_left hj]
    | succ c =>
      have e : (c + 1) * L.length + j - L.length = c * L.length + j := by rw [Nat.succ_mul]; omega
      rw [List.getElem?_append_right (by rw [Nat.succ_mul]; omega), e]
      exact ih c (by omega)

theorem build_house : ∀ w : World, (Instr.build 120 #[]).run Try.prog w = .ok (.agg (repL (gcl gShut) 8).toArray) w := by intro w; kernel_rfl

theorem hat_new (w : World) (t : TypeId) : HAt (w.alloc (.cells (repL (gcl gShut) 8).toArray t)) w.heap.size (fun _ => none) := by
  intro c hc
  refine ⟨fun j v hj => ?_, fun j => World.frozen?_alloc_at _ _ _ _ rfl, by simp⟩
  have hlt : j < 28 := by
    have := (List.getElem?_eq_some_iff.1 hj).1
    rw [gcl_length] at this; exact this
  rw [World.cell?_alloc_at _ _ _ _ rfl, List.getElem?_toArray]
  have := repL_get (gcl gShut) 8 c j hc (by rw [gcl_length]; exact hlt)
  rw [gcl_length] at this
  rw [this]
  exact hj

set_option maxHeartbeats 1000000 in
theorem hnew_any (w : World) :
    Calls Try.prog 45 #[] w fun e w' => e = .returned (.pointer (some ⟨w.heap.size, 0, none⟩)) ∧ Below w.heap.size w w' ∧ HAt w' w.heap.size (fun _ => none) := by
  have e : Try.zeroCells120 = (repL (gcl gShut) 8).toArray := by kernel_rfl
  have HE : Hid (Try.zeroCells120 = (repL (gcl gShut) 8).toArray) := e
  clear e
  go_enter Try.func45, Try.ntmps45
  go_wp2
  go_ret
  refine ⟨rfl, (Below.refl _ _).alloc (Nat.le_refl _) _, ?_⟩
  rw [HE.out]
  exact hat_new w _

theorem src_sum {a b : Nat} (h : a ≤ 2000) (k : b ≤ 9223372036854770000) : (a : Int) + b ≤ 9223372036854775807 := by omega

set_option maxHeartbeats 400000 in
theorem hsend_no (h : Nat) (S : Nat → Option Gst) (c : Int) (s : ByteArray) (w : World) (H : HAt w h S) (hs : hshut S c) :
    Calls Try.prog 64 #[.pointer (some ⟨h, 0, none⟩), .int .i64 c, .string s] w fun e w' => e = .returned (.int .i64 11) ∧ w' = w := by
  have HH : Hid (HAt w h S) := H
  have HS : Hid (hshut S c) := hs
  clear H hs
  go_enter Try.func64, Try.ntmps64
  go_wp2_with (go_at_call 73; refine (refuses_no h S c _ HH.out HS.out).mono ?_; rintro e w2 ⟨rfl, rfl⟩)
  go_ret
  exact ⟨rfl, rfl⟩


set_option maxHeartbeats 1000000 in
theorem hsend_long (h : Nat) (S : Nat → Option Gst) (n : Nat) (g : Gst) (s : ByteArray) (w : World) (H : HAt w h S) (hn : n < 8) (hg : S n = some g) (ho : g.op = true) (hw : g.wait.length ≤ 1024) (hs : s.size ≤ 4611686018427387904) (hl : 1024 < g.wait.length + s.size) :
    Calls Try.prog 64 #[.pointer (some ⟨h, 0, none⟩), .int .i64 n, .string s] w fun e w' => e = .returned (.int .i64 12) ∧ w' = w := by
  have HH : Hid (HAt w h S) := H
  have HG : Hid (S n = some g) := hg
  have HO : Hid (g.op = true) := ho
  have ql := H.lt
  have n0 : (0 : Int) ≤ n := by omega
  have n8 : (n : Int) < 8 := by omega
  have q := (H n hn).wait
  rw [hg] at q
  obtain ⟨sw, hsw⟩ : ∃ sw, str g.wait = sw := ⟨_, rfl⟩
  have hsz : sw.size = g.wait.length := by rw [← hsw, str_size]
  simp only [show (gof (some g)).wait = g.wait from rfl, hsw] at q
  have e1 : wrap64 ((sw.size : Int) + s.size) = (sw.size : Int) + s.size := by unfold wrap64; omega
  have d1 : decide ((1024 : Int) < (sw.size : Int) + s.size) = true := decide_eq_true (by omega)
  clear H hg ho hsw hs hl hsz hw
  go_enter Try.func64, Try.ntmps64
  go_wp2_with (first | (go_at_call 73; refine (refuses_yes h S n g _ HH.out hn HG.out HO.out).mono ?_; rintro e w2 ⟨rfl, w2e⟩; subst w2))
  go_ret
  exact ⟨rfl, rfl⟩

set_option maxHeartbeats 1000000 in
theorem hsend_ok (h : Nat) (S : Nat → Option Gst) (n : Nat) (g : Gst) (s : ByteArray) (w : World) (H : HAt w h S) (hn : n < 8) (hg : S n = some g) (ho : g.op = true) (hl : g.wait.length + s.size ≤ 1024) :
    Calls Try.prog 64 #[.pointer (some ⟨h, 0, none⟩), .int .i64 n, .string s] w fun e w' => e = .returned (.int .i64 0) ∧ HGoes h w w' (updA S n (some { g with wait := g.wait ++ s.data.toList })) := by
  have HH : Hid (HAt w h S) := H
  have HG : Hid (S n = some g) := hg
  have HO : Hid (g.op = true) := ho
  have ql := H.lt
  have qf := H.fz (n * 28 + 25)
  have n0 : (0 : Int) ≤ n := by omega
  have n8 : (n : Int) < 8 := by omega
  have q := (H n hn).wait
  rw [hg] at q
  obtain ⟨sw, hsw⟩ : ∃ sw, str g.wait = sw := ⟨_, rfl⟩
  have HSW : Hid (str g.wait = sw) := hsw
  have hsz : sw.size = g.wait.length := by rw [← hsw, str_size]
  simp only [show (gof (some g)).wait = g.wait from rfl, hsw] at q
  have hl2 : sw.size + s.size ≤ 1024 := by omega
  have d1 : ¬ (1024 : Int) < (sw.size : Int) + s.size := by omega
  have hsum : (sw.size : Int) + s.size ≤ 9223372036854775807 := by omega
  clear H hg ho hsw hl hsz
  go_enter Try.func64, Try.ntmps64
  go_wp2_with (first | (go_at_call 73; refine (refuses_yes h S n g _ HH.out hn HG.out HO.out).mono ?_; rintro e w2 ⟨rfl, w2e⟩; subst w2))
  go_region
  all_goals
    go_wp2
    go_ret
    refine ⟨rfl, ?_⟩
    have e : sw ++ s = str (g.wait ++ s.data.toList) := by
      rw [← HSW.out]
      unfold str
      apply ByteArray.ext
      simp [ByteArray.data_append]
    rw [e]
    refine ⟨?_, ?_⟩
    · exact ((Only.refl (fun b => b = h) w).setCell (p := ⟨h, n * 28 + 25, none⟩) (.inl rfl) _).drew
    · exact (HH.out.setWait hn HG.out _).only (F := fun _ => False) ((Only.refl _ _).drew) id

set_option maxHeartbeats 400000 in
theorem hreplies_no (h : Nat) (S : Nat → Option Gst) (c : Int) (w : World) (H : HAt w h S) (hs : hshut S c) :
    Calls Try.prog 66 #[.pointer (some ⟨h, 0, none⟩), .int .i64 c] w fun e w' => e = .returned (.tuple #[.string ByteArray.empty, .int .i64 11]) ∧ w' = w := by
  have HH : Hid (HAt w h S) := H
  have HS : Hid (hshut S c) := hs
  clear H hs
  go_enter Try.func66, Try.ntmps66
  go_wp2_with (go_at_call 73; refine (refuses_no h S c _ HH.out HS.out).mono ?_; rintro e w2 ⟨rfl, rfl⟩)
  go_ret2
  exact ⟨rfl, rfl⟩

set_option maxHeartbeats 1000000 in
theorem hreplies_ok (h : Nat) (S : Nat → Option Gst) (n : Nat) (g : Gst) (w : World) (H : HAt w h S) (hn : n < 8) (hg : S n = some g) (ho : g.op = true) :
    Calls Try.prog 66 #[.pointer (some ⟨h, 0, none⟩), .int .i64 n] w fun e w' => e = .returned (.tuple #[.string (str g.out), .int .i64 0]) ∧ HGoes h w w' (updA S n (some { g with out := [] })) := by
  have HH : Hid (HAt w h S) := H
  have HG : Hid (S n = some g) := hg
  have HO : Hid (g.op = true) := ho
  have ql := H.lt
  have qf := H.fz (n * 28 + 27)
  have n0 : (0 : Int) ≤ n := by omega
  have n8 : (n : Int) < 8 := by omega
  have q := (H n hn).out
  rw [hg] at q
  obtain ⟨so, hso⟩ : ∃ so, str g.out = so := ⟨_, rfl⟩
  simp only [show (gof (some g)).out = g.out from rfl, hso] at q
  rw [hso]
  clear H hg ho hso
  go_enter Try.func66, Try.ntmps66
  go_wp2_with (first | (go_at_call 73; refine (refuses_yes h S n g _ HH.out hn HG.out HO.out).mono ?_; rintro e w2 ⟨rfl, w2e⟩; subst w2))
  go_ret2
  exact ⟨rfl, (Only.refl (fun b => b = h) w).setCell (p := ⟨h, n * 28 + 27, none⟩) (.inl rfl) _, HH.out.setOut hn HG.out []⟩

end Go.Proofs.Ytoafhdbgjpkgfaa
