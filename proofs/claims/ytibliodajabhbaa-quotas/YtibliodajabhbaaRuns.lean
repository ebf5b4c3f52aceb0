/- Walks: a context runs (P8). -/
import Derived.Test.YtibliodajabhbaaWork
import Derived.Deep.LoopGhost
namespace Go.Proofs.Ytibliodajabhbaa
open Go.RowKit

/-- what holds of every context that came about by calls -/
def good (C : Ctx) : Prop := smallC C ∧ (C.by_ 8).length ≤ 1024 ∧ (C.by_ 9).length ≤ 1024 ∧ 0 ≤ C.due ∧ C.due ≤ 100000

theorem dn_by {C : Ctx} {m : List UInt8} {k : Nat} (hk : 8 ≤ k) : (dn C m).2.by_ k = C.by_ k := by
  unfold dn
  split
  · split
    · rename_i h
      have := (can_ok h).1
      exact updA_other _ _ (by omega)
    · rfl
  · split
    · split
      · rename_i h
        exact updA_other _ _ (by omega)
      · rfl
    · rfl

theorem dn_due (C : Ctx) (m : List UInt8) (d : Int) : dn { C with due := d } m = ((dn C m).1, { (dn C m).2 with due := d }) := by
  unfold dn
  split
  · split
    · rfl
    · rfl
  · split
    · split
      · rfl
      · rfl
    · rfl

theorem fin_due (C : Ctx) (m : List UInt8) (d : Int) : fin { C with due := d } m = fin C m := by
  unfold fin
  rw [dn_due]

theorem dn_small {C : Ctx} {m : List UInt8} (h : smallC C) : smallC (dn C m).2 := by
  intro k hk
  have h0 := h k hk
  unfold dn
  split
  · split
    · rename_i hc
      obtain ⟨_, _, ha, hb, _⟩ := can_ok hc
      show (updA C.by_ (bn m 1) (zeros (bn m 2 * bn m 3)) k).length ≤ 576
      by_cases e : k = bn m 1
      · rw [← e, updA_same]
        simp only [zeros, List.length_replicate]
        exact Nat.le_trans (Nat.mul_le_mul ha.2 hb.2) (by omega)
      · rw [updA_other _ _ e]; exact h0
    · exact h0
  · split
    · split
      · show (updA C.by_ (bn m 1) [] k).length ≤ 576
        by_cases e : k = bn m 1
        · rw [← e, updA_same]; simp
        · rw [updA_other _ _ e]; exact h0
      · exact h0
    · exact h0

theorem nxt_some {C : Ctx} (h : 0 < (nxt C).length) : (C.by_ 9).length < 1024 ∧ (nxt C).length = cln (bn (C.by_ 8) 0) ∧ cln (bn (C.by_ 8) 0) ≤ (C.by_ 8).length ∧ nxt C = (C.by_ 8).take (cln (bn (C.by_ 8) 0)) := by
  unfold nxt at *
  split at h
  · simp at h
  · rename_i h9
    rw [if_neg h9]
    unfold fst_ at *
    split at h
    · simp at h
    · rename_i h8
      rw [if_neg h8]
      exact ⟨by omega, List.length_take_of_le (by omega), by omega, rfl⟩

theorem fin_wait (C : Ctx) (m : List UInt8) : (fin C m).by_ 8 = (C.by_ 8).drop m.length := by
  show List.drop m.length ((dn C m).2.by_ 8) = _
  rw [dn_by (by omega)]
theorem fin_out (C : Ctx) (m : List UInt8) : (fin C m).by_ 9 = C.by_ 9 ++ [ebyte (dn C m).1] := by
  show (dn C m).2.by_ 9 ++ _ = _
  rw [dn_by (by omega)]
theorem fin_obj (C : Ctx) (m : List UInt8) {k : Nat} (hk : k < 8) : (fin C m).by_ k = (dn C m).2.by_ k := by
  unfold fin
  show updA (updA _ 9 _) 8 _ k = _
  rw [updA_other _ _ (by omega), updA_other _ _ (by omega)]

theorem fin_good {C : Ctx} (h : good C) (hm : 0 < (nxt C).length) : good (fin C (nxt C)) := by
  obtain ⟨h1, h2, h3, h4, h5⟩ := h
  obtain ⟨n1, n2, n3, n4⟩ := nxt_some hm
  refine ⟨fun k hk => ?_, ?_, ?_, ?_, ?_⟩
  · rw [fin_obj _ _ hk]; exact dn_small h1 k hk
  · rw [fin_wait, List.length_drop]; omega
  · rw [fin_out, List.length_append]; simp; omega
  · show (0 : Int) ≤ 0; omega
  · show (0 : Int) ≤ 100000; omega

theorem cst_bd (C : Ctx) (m : List UInt8) : 1 ≤ cst C m ∧ cst C m ≤ 577 := by
  unfold cst
  split
  · rename_i h
    obtain ⟨_, _, ha, hb, _⟩ := can_ok h.2
    have := mul24 (a := bn m 2) (b := bn m 3) (by omega) (by omega)
    omega
  · omega

/-- what the first command still costs -/
def owes (C : Ctx) (m : List UInt8) : Int := if C.due = 0 then cst C m else C.due

/-- P8: a context works: what it is then, and how much of the fuel is left -/
def runs : Nat → Ctx → Int → Ctx × Int
  | 0, C, f => (C, f)
  | n + 1, C, f =>
    if (nxt C).length = 0 then (C, f)
    else if f < owes C (nxt C) then ({ C with due := owes C (nxt C) - f }, 0)
    else runs n (fin C (nxt C)) (f - owes C (nxt C))

theorem runs_none {n : Nat} {C : Ctx} {f : Int} (h : (nxt C).length = 0) : runs n C f = (C, f) := by
  cases n with
  | zero => rfl
  | succ n => rw [runs, if_pos h]
theorem runs_stop {n : Nat} {C : Ctx} {f : Int} (h : 0 < (nxt C).length) (hf : f < owes C (nxt C)) : runs (n + 1) C f = ({ C with due := owes C (nxt C) - f }, 0) := by
  rw [runs, if_neg (by omega), if_pos hf]
theorem runs_go {n : Nat} {C : Ctx} {f : Int} (h : 0 < (nxt C).length) (hf : ¬ f < owes C (nxt C)) : runs (n + 1) C f = runs n (fin C (nxt C)) (f - owes C (nxt C)) := by
  rw [runs, if_neg (by omega), if_neg hf]

theorem owes_bd {C : Ctx} {m : List UInt8} (h : good C) : 1 ≤ owes C m ∧ owes C m ≤ 100000 := by
  obtain ⟨_, _, _, h4, h5⟩ := h
  have := cst_bd C m
  unfold owes
  split <;> omega

set_option maxHeartbeats 400000 in
theorem crun_bad (p : Nat) (f : Int) (w : World) (h : f < 0 ∨ 1048576 < f) :
    Calls Try.prog 63 #[.pointer (some ⟨p, 0, none⟩), .int .i64 f] w fun e w' => e = .returned (.tuple #[.int .i64 0, .int .i64 13]) ∧ w' = w := by
  rcases h with h | h
  · go_enter Try.func63, Try.ntmps63
    go_wp2
    go_ret2
    exact ⟨rfl, rfl⟩
  · have h' : ¬ f < 0 := by omega
    go_enter Try.func63, Try.ntmps63
    go_wp2
    go_ret2
    exact ⟨rfl, rfl⟩

/-- what a round of Run starts from -/
def Rel (F : Nat → Prop) (w : World) (p N : Nat) (C0 : Ctx) (f0 : Int) (n : Nat) (t c : Value) (wr : World) : Prop :=
  ∃ (C : Ctx) (f : Int) (ao : Option Addr) (cap : Nat) (F' : Nat → Prop), t = .int .i64 f ∧ c = .slice ao (nxt C).length cap ∧ Cx wr F' p C ∧ BS wr ao cap (nxt C) ∧ ¬ blk ao p ∧ good C ∧ 0 ≤ f ∧ f ≤ 1048576 ∧ (C.by_ 8).length < n ∧ runs n C f = runs N C0 f0 ∧ Only F w wr ∧ ∀ b, F' b → F b ∨ w.heap.size ≤ b

theorem tup2' {a b c d : Int} (h : a = c) (k : b = d) : Ending.returned (.tuple #[.int .i64 a, .int .i64 b]) = .returned (.tuple #[.int .i64 c, .int .i64 d]) := by rw [h, k]

theorem Cx.lt {W : World} {F : Nat → Prop} {p : Nat} {C : Ctx} (h : Cx W F p C) : p < W.heap.size := by obtain ⟨_, _, h⟩ := h; exact h.lt
theorem Cx.du {W : World} {F : Nat → Prop} {p : Nat} {C : Ctx} (h : Cx W F p C) : W.cell? ⟨p, 25, none⟩ = some (.int .i64 C.due) := by obtain ⟨_, _, h⟩ := h; exact h.du
theorem Cx.fz {W : World} {F : Nat → Prop} {p : Nat} {C : Ctx} (h : Cx W F p C) (j : Nat) : W.frozen? ⟨p, j, none⟩ = false := by obtain ⟨_, _, h⟩ := h; exact h.fz j
theorem Cx.fp {W : World} {F : Nat → Prop} {p : Nat} {C : Ctx} (h : Cx W F p C) : F p := by obtain ⟨_, _, h⟩ := h; exact h.fp
theorem Cx.setDue {W : World} {F : Nat → Prop} {p : Nat} {C : Ctx} (h : Cx W F p C) (d : Int) : Cx (W.setCell ⟨p, 25, none⟩ (.int .i64 d)) F p { C with due := d } := by obtain ⟨_, _, h⟩ := h; exact (h.setDue d).cx

set_option maxHeartbeats 1000000 in
theorem crun_ok (F : Nat → Prop) (p : Nat) (C0 : Ctx) (f0 : Int) (w : World) (hC : Cx w F p C0) (hG : good C0) (h0 : 0 ≤ f0) (h1 : f0 ≤ 1048576) (N : Nat) (hN : (C0.by_ 8).length < N) :
    Calls Try.prog 63 #[.pointer (some ⟨p, 0, none⟩), .int .i64 f0] w fun e w' => e = .returned (.tuple #[.int .i64 (f0 - (runs N C0 f0).2), .int .i64 0]) ∧ Goes F w w' p (runs N C0 f0).1 := by
  have HC : Hid (Cx w F p C0) := hC
  have HG : Hid (good C0) := hG
  clear hC hG
  go_enter Try.func63, Try.ntmps63
  go_wp2_with (go_at_call 72; refine (next_any F p C0 _ HC.out).mono ?_; rintro e w2 ⟨⟨ao, cap, rfl, hb, hk⟩, rfl⟩; have HB : Hid (BS w2 ao cap (nxt C0)) := hb; have HK : Hid (¬ blk ao p) := hk; clear hb hk)
  go_loopg [6, 7] N (fun n t c wr => Rel F w2 p N C0 f0 n t c wr)
  case atStart => exact ⟨C0, f0, ao, cap, F, rfl, rfl, HC.out, HB.out, HK.out, HG.out, h0, h1, hN, rfl, Only.refl _ _, fun _ g => .inl g⟩
  case round =>
    obtain ⟨C, f, ao1, cap1, F', rfl, rfl, hC, hB, hP, hG, hf0, hf1, hn, hr, hO, hF⟩ := hrel
    have KC : Hid (Cx wr F' p C) := hC
    have KB : Hid (BS wr ao1 cap1 (nxt C)) := hB
    have KP : Hid (¬ blk ao1 p) := hP
    have KG : Hid (good C) := hG
    have KR : Hid (runs gk C f = runs N C0 f0) := hr
    have KO : Hid (Only F w2 wr) := hO
    have KF : Hid (∀ b, F' b → F b ∨ w2.heap.size ≤ b) := hF
    have qd := hC.du
    have qf := hC.fz 25
    have ql := hC.lt
    obtain ⟨o1, o2⟩ := owes_bd (m := nxt C) hG
    clear hC hB hP hG hr hO hF HC HG HB HK
    obtain ⟨n', rfl⟩ : ∃ n', gk = n' + 1 := ⟨gk - 1, by omega⟩
    by_cases hm : 0 < (nxt C).length
    · have hm' : (0 : Int) < (nxt C).length := by omega
      by_cases hd : C.due = 0
      · have eo : owes C (nxt C) = cst C (nxt C) := if_pos hd
        have hd' : (C.due == 0) = true := by rw [beq_iff_eq]; exact hd
        have EO : Hid _ := eo
        rw [eo] at o1 o2
        clear eo hd
        by_cases hs : f < cst C (nxt C)
        · go_wp2_with (go_at_call 73; refine (cost_any F' p C _ _ _ _ KC.out KG.out.1 KB.out).mono ?_; rintro e w3 ⟨rfl, hb3⟩; have c3 := KC.out.below hb3; have r1 := c3.du; have r2 := c3.fz 25; have r3 := c3.lt; have L3 : Hid (Cx w3 F' p C) := c3; have B3 : Hid (Below wr.heap.size wr w3) := hb3; clear c3 hb3)
          go_ret2
          have er := runs_stop (n := n') hm (by rw [EO.out]; exact hs)
          rw [KR.out, EO.out] at er
          refine ⟨tup2' (by rw [er]; simp) rfl, ?_⟩
          rw [er]
          exact Goes.then KO.out KF.out (Goes.of_below B3.out ⟨((Only.refl F' w3).setCell (p := ⟨p, 25, none⟩) (.inl KC.out.fp) _).setCell (p := ⟨p, 25, none⟩) (.inl KC.out.fp) _, F', (L3.out.setDue (cst C (nxt C))).setDue (cst C (nxt C) - f), fun _ g => .inl g⟩)
        · have HM : Hid ((nxt C).length ≤ ((dn { C with due := cst C (nxt C) } (nxt C)).2.by_ 8).length ∧ ((dn { C with due := cst C (nxt C) } (nxt C)).2.by_ 9).length ≤ 100000) := by
            have hx := nxt_some hm
            have hy := KG.out.2.2.1
            rw [dn_by (by omega), dn_by (by omega)]
            exact (⟨by show (nxt C).length ≤ (C.by_ 8).length; omega, by show (C.by_ 9).length ≤ 100000; omega⟩ : _ ∧ _)
          go_wp2_with (first | (go_at_call 73; refine (cost_any F' p C _ _ _ _ KC.out KG.out.1 KB.out).mono ?_; rintro e w3 ⟨rfl, hb3⟩; have c3 := KC.out.below hb3; have r1 := c3.du; have r2 := c3.fz 25; have r3 := c3.lt; have L3 : Hid (Cx w3 F' p C) := c3; have B3 : Hid (Below wr.heap.size wr w3) := hb3; clear c3 hb3) | (go_at_call 74; refine (finish_any F' p { C with due := cst C (nxt C) } _ _ _ _ (L3.out.setDue _) KG.out.1 ((KB.out.below B3.out).setCell KP.out _) HM.out.1 HM.out.2).mono ?_; rintro e w4 ⟨rfl, hg4⟩; rw [fin_due] at hg4; obtain ⟨ho4, F4, hx4, hf4⟩ := hg4; have L4 : Hid (Cx w4 F4 p (fin C (nxt C))) := hx4; have O4 : Hid _ := ho4; have M4 : Hid _ := hf4; clear ho4 hx4 hf4) | (go_at_call 72; refine (next_any F4 p (fin C (nxt C)) _ L4.out).mono ?_; rintro e w5 ⟨⟨ao5, cap5, rfl, hb5, hk5⟩, rfl⟩; have HB5 : Hid _ := hb5; have HK5 : Hid _ := hk5; clear hb5 hk5))
          go_roundg n'
          case measure => omega
          case rel =>
            obtain ⟨n1, n2, n3, n4⟩ := nxt_some hm
            have ht : ((fin C (nxt C)).by_ 8).length < n' := by rw [fin_wait, List.length_drop]; have := cln_bd (bn (C.by_ 8) 0); omega
            have hr : runs n' (fin C (nxt C)) (f - cst C (nxt C)) = runs N C0 f0 := by rw [← KR.out, runs_go hm (by rw [EO.out]; omega), EO.out]
            have ho : Only F w2 w5 := (((KO.out.trans (Only.of_below (F := F') B3.out) KF.out).setCell (p := ⟨p, 25, none⟩) (KF.out p KC.out.fp) _)).trans O4.out KF.out
            refine ⟨_, _, ao5, cap5, F4, rfl, rfl, L4.out, HB5.out, HK5.out, fin_good KG.out hm, by omega, by omega, ht, hr, ho, fun b g => ?_⟩
            rcases M4.out b g with k | k
            · exact KF.out b k
            · have := KO.out.size; have := B3.out.size; rw [sz_setCell] at k; exact .inr (by omega)
      · have eo : owes C (nxt C) = C.due := if_neg hd
        have hd' : (C.due == 0) = false := beq_false_of_ne hd
        have EO : Hid _ := eo
        rw [eo] at o1 o2
        clear eo hd
        by_cases hs : f < C.due
        · go_wp2
          go_ret2
          have er := runs_stop (n := n') hm (by rw [EO.out]; exact hs)
          rw [KR.out, EO.out] at er
          refine ⟨tup2' (by rw [er]; simp) rfl, ?_⟩
          rw [er]
          exact Goes.then KO.out KF.out ⟨(Only.refl F' wr).setCell (p := ⟨p, 25, none⟩) (.inl KC.out.fp) _, F', KC.out.setDue (C.due - f), fun _ g => .inl g⟩
        · have HM : Hid ((nxt C).length ≤ ((dn C (nxt C)).2.by_ 8).length ∧ ((dn C (nxt C)).2.by_ 9).length ≤ 100000) := by
            have hx := nxt_some hm
            have hy := KG.out.2.2.1
            rw [dn_by (by omega), dn_by (by omega)]
            exact (⟨by omega, by omega⟩ : (nxt C).length ≤ (C.by_ 8).length ∧ (C.by_ 9).length ≤ 100000)
          go_wp2_with (first | (go_at_call 74; refine (finish_any F' p C _ _ _ _ KC.out KG.out.1 KB.out HM.out.1 HM.out.2).mono ?_; rintro e w4 ⟨rfl, hg4⟩; obtain ⟨ho4, F4, hx4, hf4⟩ := hg4; have L4 : Hid (Cx w4 F4 p (fin C (nxt C))) := hx4; have O4 : Hid _ := ho4; have M4 : Hid _ := hf4; clear ho4 hx4 hf4) | (go_at_call 72; refine (next_any F4 p (fin C (nxt C)) _ L4.out).mono ?_; rintro e w5 ⟨⟨ao5, cap5, rfl, hb5, hk5⟩, rfl⟩; have HB5 : Hid _ := hb5; have HK5 : Hid _ := hk5; clear hb5 hk5))
          go_roundg n'
          case measure => omega
          case rel =>
            obtain ⟨n1, n2, n3, n4⟩ := nxt_some hm
            have ht : ((fin C (nxt C)).by_ 8).length < n' := by rw [fin_wait, List.length_drop]; have := cln_bd (bn (C.by_ 8) 0); omega
            have hr : runs n' (fin C (nxt C)) (f - C.due) = runs N C0 f0 := by rw [← KR.out, runs_go hm (by rw [EO.out]; omega), EO.out]
            have ho : Only F w2 w5 := KO.out.trans O4.out KF.out
            refine ⟨_, _, ao5, cap5, F4, rfl, rfl, L4.out, HB5.out, HK5.out, fin_good KG.out hm, by omega, by omega, ht, hr, ho, fun b g => ?_⟩
            rcases M4.out b g with k | k
            · exact KF.out b k
            · have := KO.out.size; exact .inr (by omega)
    · have e0 : (nxt C).length = 0 := by omega
      have hm' : ¬ (0 : Int) < (nxt C).length := by omega
      go_wp2
      go_ret2
      have er := runs_none (n := n' + 1) (f := f) e0
      rw [KR.out] at er
      refine ⟨tup2' (by rw [er]) rfl, ?_⟩
      rw [er]
      exact Goes.then KO.out KF.out (Goes.stay KC.out (Below.refl _ _))

end Go.Proofs.Ytibliodajabhbaa
