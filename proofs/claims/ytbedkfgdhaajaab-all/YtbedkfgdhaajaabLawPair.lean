/- A pair of package tenantslaw: the program's server and the document's house, both in the same state; each call of both (P6 to P13). -/
import Derived.Test.YtbedkfgdhaajaabLawPlain
import Derived.Test.YtbedkfgdhaajaabCalls
namespace Go.Proofs.Ytbedkfgdhaajaab
open Go.RowKit

set_option maxHeartbeats 400000 in
theorem find_nil (c : Int) (w : World) : Calls Try.prog 24 #[.pointer none, .int .i64 c] w fun e w' => e = .returned (.tuple #[.pointer none, .int .i64 9]) ∧ w' = w := by
  go_enter Try.func24, Try.ntmps24
  go_wp2
  go_ret2
  exact ⟨rfl, rfl⟩
set_option maxHeartbeats 400000 in
theorem open_nil (w : World) : Calls Try.prog 15 #[.pointer none] w fun e w' => e = .returned (.tuple #[.int .i64 0, .int .i64 9]) ∧ w' = w := by
  go_enter Try.func15, Try.ntmps15
  go_wp2
  go_ret2
  exact ⟨rfl, rfl⟩
set_option maxHeartbeats 400000 in
theorem close_nil (c : Int) (w : World) : Calls Try.prog 28 #[.pointer none, .int .i64 c] w fun e w' => e = .returned (.int .i64 9) ∧ w' = w := by
  go_enter Try.func28, Try.ntmps28
  go_wp2_with (go_at_call 24; refine (find_nil c _).mono ?_; rintro e w2 ⟨rfl, rfl⟩)
  go_ret
  exact ⟨rfl, rfl⟩
set_option maxHeartbeats 400000 in
theorem free_nil (w : World) : Calls Try.prog 45 #[.pointer none] w fun e w' => e = .returned (.int .i64 0) ∧ w' = w := by
  go_enter Try.func45, Try.ntmps45
  go_wp2
  go_ret
  exact ⟨rfl, rfl⟩
set_option maxHeartbeats 400000 in
theorem send_nil (c : Int) (s : ByteArray) (w : World) : Calls Try.prog 10 #[.pointer none, .int .i64 c, .string s] w fun e w' => e = .returned (.int .i64 9) ∧ w' = w := by
  go_enter Try.func10, Try.ntmps10
  go_wp2_with (go_at_call 24; refine (find_nil c _).mono ?_; rintro e w2 ⟨rfl, rfl⟩)
  go_ret
  exact ⟨rfl, rfl⟩
set_option maxHeartbeats 400000 in
theorem run_nil (c f : Int) (w : World) : Calls Try.prog 12 #[.pointer none, .int .i64 c, .int .i64 f] w fun e w' => e = .returned (.tuple #[.int .i64 0, .int .i64 9]) ∧ w' = w := by
  go_enter Try.func12, Try.ntmps12
  go_wp2_with (go_at_call 24; refine (find_nil c _).mono ?_; rintro e w2 ⟨rfl, rfl⟩)
  go_ret2
  exact ⟨rfl, rfl⟩
set_option maxHeartbeats 400000 in
theorem replies_nil (c : Int) (w : World) : Calls Try.prog 13 #[.pointer none, .int .i64 c] w fun e w' => e = .returned (.tuple #[.string ByteArray.empty, .int .i64 9]) ∧ w' = w := by
  go_enter Try.func13, Try.ntmps13
  go_wp2_with (go_at_call 24; refine (find_nil c _).mono ?_; rintro e w2 ⟨rfl, rfl⟩)
  go_ret2
  exact ⟨rfl, rfl⟩

/-- a pair lies in the blocks of G -/
def Pr (w : World) (G : Nat → Prop) (x h : Option Addr) : Prop :=
  (∀ b, G b → b < w.heap.size) ∧ ((x = none ∧ h = none) ∨ ∃ g hb Gs S, x = some ⟨g, 0, none⟩ ∧ h = some ⟨hb, 0, none⟩ ∧ Sv w Gs g S ∧ HAt w hb S ∧ ¬ Gs hb ∧ J7 S ∧ (∀ b, Gs b → G b) ∧ G hb)
/-- a step has turned it, and nothing else that was there -/
def PGo (G : Nat → Prop) (w w' : World) (x h : Option Addr) : Prop := Only G w w' ∧ ∃ G', Pr w' G' x h ∧ ∀ b, G' b → G b ∨ w.heap.size ≤ b
/-- the answers' shapes -/
def sh1 (r : Value) : Prop := ∃ n, r = .int .i64 n
def sh2 (r : Value) : Prop := ∃ n e, r = .tuple #[.int .i64 n, .int .i64 e]
def shS (r : Value) : Prop := ∃ s e, r = .tuple #[.string s, .int .i64 e]
/-- one call of both: the second answers as the first -/
def Both (Sh : Value → Prop) (G : Nat → Prop) (w : World) (x h : Option Addr) (f f' : Nat) (args args' : Array Value) : Prop :=
  Calls Try.prog f args w fun e w1 => ∃ r, Sh r ∧ e = .returned r ∧ Only G w w1 ∧ Calls Try.prog f' args' w1 fun e w2 => e = .returned r ∧ PGo G w w2 x h

theorem Pr.only {G F : Nat → Prop} {w w' : World} {x h : Option Addr} (hP : Pr w G x h) (ho : Only F w w') (hn : ∀ b, G b → ¬ F b) : Pr w' G x h := by
  obtain ⟨h1, h2⟩ := hP
  refine ⟨fun b hb => Nat.lt_of_lt_of_le (h1 b hb) ho.size, ?_⟩
  rcases h2 with q | ⟨g, hb, Gs, S, a1, a2, a3, a4, a5, a6, a7, a8⟩
  · exact .inl q
  · exact .inr ⟨g, hb, Gs, S, a1, a2, a3.only ho (fun b q => hn b (a7 b q)), a4.only ho (hn hb a8), a5, a6, a7, a8⟩
theorem PGo.stay {G : Nat → Prop} {w : World} {x h : Option Addr} (hP : Pr w G x h) : PGo G w w x h := ⟨Only.refl _ _, G, hP, fun _ q => .inl q⟩

theorem both_nil {Sh : Value → Prop} {G : Nat → Prop} {w : World} {f f' : Nat} {args args' : Array Value} {r : Value} (hr : Sh r) (hin : ∀ b, G b → b < w.heap.size) (hx : Calls Try.prog f args w fun e w' => e = .returned r ∧ w' = w) (hh : ∀ w1, Calls Try.prog f' args' w1 fun e w' => e = .returned r ∧ w' = w1) : Both Sh G w none none f f' args args' := by
  refine hx.mono ?_
  rintro e w1 ⟨rfl, rfl⟩
  refine ⟨r, hr, rfl, Only.refl _ _, (hh w1).mono ?_⟩
  rintro e w2 ⟨rfl, rfl⟩
  exact ⟨rfl, PGo.stay ⟨hin, .inl ⟨rfl, rfl⟩⟩⟩

theorem both_step {Sh : Value → Prop} {G Gs : Nat → Prop} {w : World} {g hb : Nat} {S S1 : Nat → Option Gst} {f f' : Nat} {args args' : Array Value} {r : Value} (hr : Sh r) (hin : ∀ b, G b → b < w.heap.size) (hH : HAt w hb S) (hn : ¬ Gs hb) (hsub : ∀ b, Gs b → G b) (hGb : G hb)
    (hx : Calls Try.prog f args w fun e w' => e = .returned r ∧ SGoes Gs w w' g S1) (hh : ∀ w1, HAt w1 hb S → Calls Try.prog f' args' w1 fun e w' => e = .returned r ∧ HGoes hb w1 w' S1) (hJ : J7 S1) :
    Both Sh G w (some ⟨g, 0, none⟩) (some ⟨hb, 0, none⟩) f f' args args' := by
  refine hx.mono ?_
  rintro e w1 ⟨rfl, o1, G1, s1, f1⟩
  refine ⟨r, hr, rfl, o1.mono (fun b _ q => hsub b q), (hh w1 (hH.only o1 hn)).mono ?_⟩
  rintro e w2 ⟨rfl, o2, h2⟩
  have hlt := hin hb hGb
  have hn1 : ¬ G1 hb := fun q => by rcases f1 hb q with q | q; exact hn q; omega
  have hin1 : ∀ b, G1 b → b < w1.heap.size := by obtain ⟨_, _, q⟩ := s1; exact q.inn
  have z1 := o1.size
  have z2 := o2.size
  refine ⟨rfl, (o1.mono (fun b _ q => hsub b q)).trans o2 (fun b q => .inl (by rw [q]; exact hGb)), fun b => G b ∨ (w.heap.size ≤ b ∧ b < w2.heap.size), ⟨fun b q => ?_, .inr ⟨g, hb, G1, S1, rfl, rfl, s1.only o2 (fun b q e => hn1 (e ▸ q)), h2, hn1, hJ, fun b q => ?_, .inl hGb⟩⟩, fun b q => q.imp id And.left⟩
  · rcases q with q | q
    · have := hin b q; omega
    · exact q.2
  · rcases f1 b q with k | k
    · exact .inl (hsub b k)
    · have := hin1 b q; exact .inr ⟨k, by omega⟩

theorem stayS {Gs : Nat → Prop} {w : World} {g : Nat} {S : Nat → Option Gst} {f : Nat} {args : Array Value} {r : Value} (hS : Sv w Gs g S) (h : Calls Try.prog f args w fun e w' => e = .returned r ∧ w' = w) : Calls Try.prog f args w fun e w' => e = .returned r ∧ SGoes Gs w w' g S :=
  h.mono fun e w' ⟨a, b⟩ => ⟨a, by subst b; exact SGoes.stay hS (Below.refl _ _)⟩
theorem stayH {hb : Nat} {w : World} {S : Nat → Option Gst} {f : Nat} {args : Array Value} {r : Value} (hS : HAt w hb S) (h : Calls Try.prog f args w fun e w' => e = .returned r ∧ w' = w) : Calls Try.prog f args w fun e w' => e = .returned r ∧ HGoes hb w w' S :=
  h.mono fun e w' ⟨a, b⟩ => ⟨a, by subst b; exact HGoes.stay hS (Below.refl _ _)⟩

theorem first_free (S : Nat → Option Gst) (n : Nat) : (∃ c, c < n ∧ S c = none ∧ ∀ j, j < c → S j ≠ none) ∨ ∀ j, j < n → S j ≠ none := by
  induction n with
  | zero => exact .inr (fun j hj => by omega)
  | succ n ih =>
    rcases ih with ⟨c, h1, h2, h3⟩ | h
    · exact .inl ⟨c, by omega, h2, h3⟩
    · cases e : S n with
      | none => exact .inl ⟨n, by omega, e, h⟩
      | some g => exact .inr (fun j hj => by
          by_cases q : j = n
          · subst q; rw [e]; exact fun k => by cases k
          · exact h j (by omega))

theorem shut_or (S : Nat → Option Gst) (c : Int) : shut S c ∨ ∃ n g, c = ((n : Nat) : Int) ∧ n < 8 ∧ S n = some g := by
  by_cases h1 : c < 0
  · exact .inl (.inl h1)
  · by_cases h2 : 8 ≤ c
    · exact .inl (.inr (.inl h2))
    · cases e : S c.toNat with
      | none => exact .inl (.inr (.inr e))
      | some g => exact .inr ⟨c.toNat, g, by omega, by omega, e⟩

theorem tots_htots (S : Nat → Option Gst) (n : Nat) : htots S n = tots S n := by
  induction n with
  | zero => rfl
  | succ n ih =>
    cases e : S n with
    | none => simp only [htots, tots, e, ih, gof]; rw [show tot gShut.rm.bs 8 = 0 from by decide]
    | some g => simp only [htots, tots, e, ih, gof]

section
variable {G : Nat → Prop} {w : World} {x h : Option Addr} (hP : Pr w G x h)
include hP

theorem open_pr : Both sh2 G w x h 15 43 #[.pointer x] #[.pointer h] := by
  obtain ⟨hin, ⟨rfl, rfl⟩ | ⟨g, hb, Gs, S, rfl, rfl, hS, hH, hn, hJ, hsub, hGb⟩⟩ := hP
  · exact both_nil ⟨_, _, rfl⟩ hin (open_nil w) enter_nil
  · rcases first_free S 8 with ⟨c, c8, cn, cf⟩ | hf
    · exact both_step ⟨_, _, rfl⟩ hin hH hn hsub hGb (open_ok Gs g S c w hS c8 cf cn) (fun w1 h1 => enter_ok hb S c w1 h1 hJ.okS c8 cf cn) (hJ.upd okP_new trivial)
    · exact both_step ⟨_, _, rfl⟩ hin hH hn hsub hGb (stayS hS (open_full Gs g S w hS hf)) (fun w1 h1 => stayH h1 (enter_full hb S w1 h1 hJ.okS hf)) hJ

theorem close_pr (c : Int) : Both sh1 G w x h 28 44 #[.pointer x, .int .i64 c] #[.pointer h, .int .i64 c] := by
  obtain ⟨hin, ⟨rfl, rfl⟩ | ⟨g, hb, Gs, S, rfl, rfl, hS, hH, hn, hJ, hsub, hGb⟩⟩ := hP
  · exact both_nil ⟨_, rfl⟩ hin (close_nil c w) (leave_nil c)
  · rcases shut_or S c with q | ⟨n, C, rfl, n8, hC⟩
    · exact both_step ⟨_, rfl⟩ hin hH hn hsub hGb (stayS hS (close_shut Gs g S c w hS q)) (fun w1 h1 => stayH h1 (leave_no hb S c w1 h1 q)) hJ
    · exact both_step ⟨_, rfl⟩ hin hH hn hsub hGb (close_ok Gs g S n C w hS n8 hC) (fun w1 h1 => leave_yes hb S n C w1 h1 n8 hC (hJ n C n8 hC).1.op) hJ.shut

theorem free_pr : Both sh1 G w x h 45 46 #[.pointer x] #[.pointer h] := by
  obtain ⟨hin, ⟨rfl, rfl⟩ | ⟨g, hb, Gs, S, rfl, rfl, hS, hH, hn, hJ, hsub, hGb⟩⟩ := hP
  · exact both_nil ⟨_, rfl⟩ hin (free_nil w) hfree_nil
  · refine both_step ⟨_, rfl⟩ hin hH hn hsub hGb ((free_any Gs g S w hS).mono fun e w' ⟨a, b⟩ => ⟨a, SGoes.stay hS b⟩) (fun w1 h1 => ?_) hJ
    have := hfree_any hb S w1 h1 hJ.okS
    rw [tots_htots] at this
    exact this.mono fun e w' ⟨a, b⟩ => ⟨a, HGoes.stay h1 b⟩

theorem send_pr (c : Int) (s : ByteArray) (hs : s.size ≤ 4611686018427387904) (h7 : no7 s.data.toList) : Both sh1 G w x h 10 47 #[.pointer x, .int .i64 c, .string s] #[.pointer h, .int .i64 c, .string s] := by
  obtain ⟨hin, ⟨rfl, rfl⟩ | ⟨g, hb, Gs, S, rfl, rfl, hS, hH, hn, hJ, hsub, hGb⟩⟩ := hP
  · exact both_nil ⟨_, rfl⟩ hin (send_nil c s w) (hsend_nil c s)
  · rcases shut_or S c with q | ⟨n, C, rfl, n8, hC⟩
    · exact both_step ⟨_, rfl⟩ hin hH hn hsub hGb (stayS hS (send_shut Gs g S c s w hS q)) (fun w1 h1 => stayH h1 (hsend_no hb S c s w1 h1 q)) hJ
    · have hk := hJ n C n8 hC
      by_cases hl : C.wait.length + s.size ≤ 1024
      · exact both_step ⟨_, rfl⟩ hin hH hn hsub hGb (send_ok Gs g S n C s w hS n8 hC hl) (fun w1 h1 => hsend_ok hb S n C s w1 h1 n8 hC hk.1.op hl) (hJ.upd (hk.1.send hl) (hk.2.app h7))
      · exact both_step ⟨_, rfl⟩ hin hH hn hsub hGb (stayS hS (send_long Gs g S n C s w hS n8 hC (by omega))) (fun w1 h1 => stayH h1 (hsend_long hb S n C s w1 h1 n8 hC hk.1.op hk.1.wt hs (by omega))) hJ

theorem take_pr (c : Int) : Both shS G w x h 13 49 #[.pointer x, .int .i64 c] #[.pointer h, .int .i64 c] := by
  obtain ⟨hin, ⟨rfl, rfl⟩ | ⟨g, hb, Gs, S, rfl, rfl, hS, hH, hn, hJ, hsub, hGb⟩⟩ := hP
  · exact both_nil ⟨_, _, rfl⟩ hin (replies_nil c w) (hreplies_nil c)
  · rcases shut_or S c with q | ⟨n, C, rfl, n8, hC⟩
    · exact both_step ⟨_, _, rfl⟩ hin hH hn hsub hGb (stayS hS (replies_shut Gs g S c w hS q)) (fun w1 h1 => stayH h1 (hreplies_no hb S c w1 h1 q)) hJ
    · have hk := hJ n C n8 hC
      exact both_step ⟨_, _, rfl⟩ hin hH hn hsub hGb (replies_ok Gs g S n C w hS n8 hC) (fun w1 h1 => hreplies_ok hb S n C w1 h1 n8 hC hk.1.op) (hJ.upd hk.1.take hk.2)

theorem run_pr (HD : DrawsRight) (c f : Int) : Both sh2 G w x h 12 48 #[.pointer x, .int .i64 c, .int .i64 f] #[.pointer h, .int .i64 c, .int .i64 f] := by
  obtain ⟨hin, ⟨rfl, rfl⟩ | ⟨g, hb, Gs, S, rfl, rfl, hS, hH, hn, hJ, hsub, hGb⟩⟩ := hP
  · exact both_nil ⟨_, _, rfl⟩ hin (run_nil c f w) (hrun_nil c f)
  · rcases shut_or S c with q | ⟨n, C, rfl, n8, hC⟩
    · exact both_step ⟨_, _, rfl⟩ hin hH hn hsub hGb (stayS hS (run_shut Gs g S c f w hS q)) (fun w1 h1 => stayH h1 (hrun_no hb S c f w1 h1 q)) hJ
    · have hk := hJ n C n8 hC
      by_cases hf : f < 0 ∨ 1048576 < f
      · exact both_step ⟨_, _, rfl⟩ hin hH hn hsub hGb (stayS hS (run_arg Gs g S n C f w hS n8 hC hf)) (fun w1 h1 => stayH h1 (hrun_arg hb S n C f w1 h1 n8 hC hk.1.op hf)) hJ
      · have hwt := hk.1.wt
        have hw := hk.1.work (n := 1025) (f := f) (by omega)
        obtain ⟨e1, e2⟩ := pwork_dwork (n := 1025) (f := f) hk.2
        have hd := fun w1 (h1 : HAt w1 hb S) => hrun_ok HD hb S n C f w1 h1 n8 hC hk.1.op (hk.1.okG hk.2) (by omega) (by omega) 1025 (by omega) (by rw [← e1]; exact hw.2)
        rw [← e1] at hd
        exact both_step ⟨_, _, rfl⟩ hin hH hn hsub hGb (run_ok Gs g S n C f w hS n8 hC (by omega) (by omega) 1025 (by omega)) hd (hJ.upd hw.1 e2)
end

end Go.Proofs.Ytbedkfgdhaajaab
