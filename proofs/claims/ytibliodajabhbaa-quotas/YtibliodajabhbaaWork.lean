/- Walks: a command is done (P8, P10). -/
import Derived.Test.YtibliodajabhbaaCommand
namespace Go.Proofs.Ytibliodajabhbaa
open Go.RowKit

/-- a command is done: its error, and the context behind it -/
def dn (C : Ctx) (m : List UInt8) : Int × Ctx :=
  if bn m 0 = 1 then
    if can C.by_ (bn m 1) (bn m 2) (bn m 3) = 0 then (0, { C with wd := updA C.wd (bn m 1) (bn m 2), ht := updA C.ht (bn m 1) (bn m 3), by_ := updA C.by_ (bn m 1) (zeros (bn m 2 * bn m 3)) })
    else (can C.by_ (bn m 1) (bn m 2) (bn m 3), C)
  else if bn m 0 = 2 then
    if bn m 1 < 8 ∧ 0 < (C.by_ (bn m 1)).length then (0, { C with wd := updA C.wd (bn m 1) 0, ht := updA C.ht (bn m 1) 0, by_ := updA C.by_ (bn m 1) [] })
    else (2, C)
  else (1, C)

theorem dn_create_ok {C : Ctx} {m : List UInt8} (h : bn m 0 = 1) (k : can C.by_ (bn m 1) (bn m 2) (bn m 3) = 0) : dn C m = (0, { C with wd := updA C.wd (bn m 1) (bn m 2), ht := updA C.ht (bn m 1) (bn m 3), by_ := updA C.by_ (bn m 1) (zeros (bn m 2 * bn m 3)) }) := by
  unfold dn; rw [if_pos h, if_pos k]
theorem dn_create_bad {C : Ctx} {m : List UInt8} (h : bn m 0 = 1) (k : ¬ can C.by_ (bn m 1) (bn m 2) (bn m 3) = 0) : dn C m = (can C.by_ (bn m 1) (bn m 2) (bn m 3), C) := by
  unfold dn; rw [if_pos h, if_neg k]
theorem dn_drop_ok {C : Ctx} {m : List UInt8} (h : bn m 0 = 2) (k : bn m 1 < 8 ∧ 0 < (C.by_ (bn m 1)).length) : dn C m = (0, { C with wd := updA C.wd (bn m 1) 0, ht := updA C.ht (bn m 1) 0, by_ := updA C.by_ (bn m 1) [] }) := by
  unfold dn; rw [if_neg (by omega), if_pos h, if_pos k]
theorem dn_drop_bad {C : Ctx} {m : List UInt8} (h : bn m 0 = 2) (k : ¬ (bn m 1 < 8 ∧ 0 < (C.by_ (bn m 1)).length)) : dn C m = (2, C) := by
  unfold dn; rw [if_neg (by omega), if_pos h, if_neg k]
theorem dn_other {C : Ctx} {m : List UInt8} (h : ¬ bn m 0 = 1) (k : ¬ bn m 0 = 2) : dn C m = (1, C) := by
  unfold dn; rw [if_neg h, if_neg k]

set_option maxHeartbeats 1000000 in
theorem ccreate_any (F : Nat → Prop) (p : Nat) (C : Ctx) (ao : Option Addr) (cap : Nat) (m : List UInt8) (w : World) (hC : Cx w F p C) (hS : smallC C) (hB : BS w ao cap m) (h1 : bn m 0 = 1) :
    Calls Try.prog 95 #[.pointer (some ⟨p, 0, none⟩), .slice ao m.length cap] w fun e w' => e = .returned (.int .i64 (dn C m).1) ∧ Goes F w w' p (dn C m).2 := by
  have HC : Hid (Cx w F p C) := hC
  have HS : Hid (smallC C) := hS
  have HB : Hid (BS w ao cap m) := hB
  have H1 : Hid (bn m 0 = 1) := h1
  have hlt : p < w.heap.size := by obtain ⟨_, _, hA⟩ := hC; exact hA.lt
  clear hC hS hB h1
  by_cases hc : can C.by_ (bn m 1) (bn m 2) (bn m 3) = 0
  · rw [dn_create_ok H1.out hc]
    have HK : Hid _ := hc
    clear hc
    go_enter Try.func95, Try.ntmps95
    go_wp2_with (first | (go_at_call 85; refine (field_at _ _ _ _ _ HB.out 1 (by omega)).mono ?_; rintro e w2 ⟨rfl, rfl⟩) | (go_at_call 85; refine (field_at _ _ _ _ _ HB.out 2 (by omega)).mono ?_; rintro e w2 ⟨rfl, rfl⟩) | (go_at_call 85; refine (field_at _ _ _ _ _ HB.out 3 (by omega)).mono ?_; rintro e w2 ⟨rfl, rfl⟩) | (go_at_call 104; refine (create_ok F p C _ _ _ _ HC.out HS.out HK.out).mono ?_; rintro e w3 ⟨rfl, hb3⟩))
    go_ret
    exact ⟨rfl, hb3⟩
  · rw [dn_create_bad H1.out hc]
    have hk' : (can C.by_ (bn m 1) (bn m 2) (bn m 3) != 0) = true := by simpa using hc
    have HK : Hid _ := hk'
    clear hk'
    clear hc
    go_enter Try.func95, Try.ntmps95
    go_wp2_with (first | (go_at_call 85; refine (field_at _ _ _ _ _ HB.out 1 (by omega)).mono ?_; rintro e w2 ⟨rfl, rfl⟩) | (go_at_call 85; refine (field_at _ _ _ _ _ HB.out 2 (by omega)).mono ?_; rintro e w2 ⟨rfl, rfl⟩) | (go_at_call 85; refine (field_at _ _ _ _ _ HB.out 3 (by omega)).mono ?_; rintro e w2 ⟨rfl, rfl⟩) | (go_at_call 104; refine (create_bad F p C _ _ _ _ HC.out HS.out HK.out).mono ?_; rintro e w3 ⟨rfl, hb3⟩))
    go_ret
    exact ⟨rfl, Goes.stay HC.out hb3⟩

set_option maxHeartbeats 1000000 in
theorem cdrop_any (F : Nat → Prop) (p : Nat) (C : Ctx) (ao : Option Addr) (cap : Nat) (m : List UInt8) (w : World) (hC : Cx w F p C) (hB : BS w ao cap m) (h1 : bn m 0 = 2) :
    Calls Try.prog 96 #[.pointer (some ⟨p, 0, none⟩), .slice ao m.length cap] w fun e w' => e = .returned (.int .i64 (dn C m).1) ∧ Goes F w w' p (dn C m).2 := by
  have HC : Hid (Cx w F p C) := hC
  have HB : Hid (BS w ao cap m) := hB
  have H1 : Hid (bn m 0 = 2) := h1
  have hlt : p < w.heap.size := by obtain ⟨_, _, hA⟩ := hC; exact hA.lt
  clear hC hB h1
  by_cases hc : bn m 1 < 8 ∧ 0 < (C.by_ (bn m 1)).length
  · rw [dn_drop_ok H1.out hc]
    have HK : Hid (bn m 1 < 8 ∧ 0 < (C.by_ (bn m 1)).length) := hc
    clear hc
    go_enter Try.func96, Try.ntmps96
    go_wp2_with (first | (go_at_call 85; refine (field_at _ _ _ _ _ HB.out 1 (by omega)).mono ?_; rintro e w2 ⟨rfl, rfl⟩) | (go_at_call 105; refine (drop_ok F p C _ _ HC.out HK.out.1 HK.out.2).mono ?_; rintro e w3 ⟨rfl, hb3⟩))
    go_ret
    exact ⟨rfl, hb3⟩
  · rw [dn_drop_bad H1.out hc]
    have HK : Hid (¬ (bn m 1 < 8 ∧ 0 < (C.by_ (bn m 1)).length)) := hc
    clear hc
    go_enter Try.func96, Try.ntmps96
    go_wp2_with (first | (go_at_call 85; refine (field_at _ _ _ _ _ HB.out 1 (by omega)).mono ?_; rintro e w2 ⟨rfl, rfl⟩) | (go_at_call 105; refine (drop_none F p C _ _ HC.out HK.out).mono ?_; rintro e w3 ⟨rfl, rfl⟩))
    go_ret
    exact ⟨rfl, Goes.stay HC.out (Below.refl _ _)⟩

set_option maxHeartbeats 1000000 in
theorem cdo_any (F : Nat → Prop) (p : Nat) (C : Ctx) (ao : Option Addr) (cap : Nat) (m : List UInt8) (w : World) (hC : Cx w F p C) (hS : smallC C) (hB : BS w ao cap m) :
    Calls Try.prog 87 #[.pointer (some ⟨p, 0, none⟩), .slice ao m.length cap] w fun e w' => e = .returned (.int .i64 (dn C m).1) ∧ Goes F w w' p (dn C m).2 := by
  have HC : Hid (Cx w F p C) := hC
  have HS : Hid (smallC C) := hS
  have HB : Hid (BS w ao cap m) := hB
  clear hC hS hB
  by_cases h1 : bn m 0 = 1
  · have H1 : Hid (bn m 0 = 1) := h1
    have hd : ((bn m 0 : Int) == 1) = true := by rw [beq_iff_eq]; omega
    clear h1
    go_enter Try.func87, Try.ntmps87
    go_wp2_with (first | (go_at_call 85; refine (field_at _ _ _ _ _ HB.out 0 (by omega)).mono ?_; rintro e w2 ⟨rfl, rfl⟩) | (go_at_call 95; refine (ccreate_any F p C _ _ _ _ HC.out HS.out HB.out H1.out).mono ?_; rintro e w3 ⟨rfl, hb3⟩))
    go_ret
    exact ⟨rfl, hb3⟩
  · have hd : ((bn m 0 : Int) == 1) = false := beq_false_of_ne (by omega)
    by_cases h2 : bn m 0 = 2
    · have H2 : Hid (bn m 0 = 2) := h2
      have hd2 : ((bn m 0 : Int) == 2) = true := by rw [beq_iff_eq]; omega
      clear h1 h2
      go_enter Try.func87, Try.ntmps87
      go_wp2_with (first | (go_at_call 85; refine (field_at _ _ _ _ _ HB.out 0 (by omega)).mono ?_; rintro e w2 ⟨rfl, rfl⟩) | (go_at_call 96; refine (cdrop_any F p C _ _ _ _ HC.out HB.out H2.out).mono ?_; rintro e w3 ⟨rfl, hb3⟩))
      go_ret
      exact ⟨rfl, hb3⟩
    · rw [dn_other h1 h2]
      have hd2 : ((bn m 0 : Int) == 2) = false := beq_false_of_ne (by omega)
      clear h1 h2
      go_enter Try.func87, Try.ntmps87
      go_wp2_with (go_at_call 85; refine (field_at _ _ _ _ _ HB.out 0 (by omega)).mono ?_; rintro e w2 ⟨rfl, rfl⟩)
      go_ret
      exact ⟨rfl, Goes.stay HC.out (Below.refl _ _)⟩

/-- the error, as a reply's byte -/
def ebyte (e : Int) : UInt8 := UInt8.ofNat e.toNat

/-- a command is finished: its reply waits, its bytes do not -/
def fin (C : Ctx) (m : List UInt8) : Ctx :=
  { (dn C m).2 with by_ := updA (updA (dn C m).2.by_ 9 ((dn C m).2.by_ 9 ++ [ebyte (dn C m).1])) 8 ((updA (dn C m).2.by_ 9 ((dn C m).2.by_ 9 ++ [ebyte (dn C m).1]) 8).drop m.length), due := 0 }

theorem can_bd (f : Nat → List UInt8) (h a b : Nat) : 0 ≤ can f h a b ∧ can f h a b ≤ 5 := by unfold can; split <;> (try split) <;> (try split) <;> (try split) <;> omega
theorem dn_bd (C : Ctx) (m : List UInt8) : 0 ≤ (dn C m).1 ∧ (dn C m).1 ≤ 5 := by
  have := can_bd C.by_ (bn m 1) (bn m 2) (bn m 3)
  unfold dn; split <;> split <;> (try split) <;> simp <;> omega

theorem ebyte_val {e : Int} (h0 : 0 ≤ e) (h1 : e ≤ 5) : e = ((ebyte e).toNat : Int) := by
  unfold ebyte
  simp
  omega

theorem fin_aux {w1 w2 : World} {O : Obj} {F1 : Nat → Prop} {p : Nat} {ad : Nat → Option Addr} {cp : Nat → Nat} {C : Ctx} (hA : CtxAt w1 F1 p ad cp C) (ho : Only (blk (ad 9)) (w1.alloc O) w2) :
    p < w2.heap.size ∧ (∀ o, w2.cell? ⟨p, o, none⟩ = w1.cell? ⟨p, o, none⟩) ∧ (∀ o, w2.frozen? ⟨p, o, none⟩ = false) := by
  have hlt := hA.lt
  have hs := ho.size
  rw [World.size_alloc] at hs
  have h9 := hA.own 9 (by omega)
  refine ⟨by omega, fun o => ?_, fun o => ?_⟩
  · rw [ho.cell (by simp; omega) h9, World.cell?_alloc_past _ _ _ hlt]
  · rw [ho.frozen (by simp; omega) h9, World.frozen?_alloc_past _ _ _ hlt]; exact hA.fz o

theorem fin_close {F F1 : Nat → Prop} {w w1 w2 : World} {O : Obj} {p : Nat} {ad : Nat → Option Addr} {cp : Nat → Nat} {C1 : Ctx} {ao2 ao8 : Option Addr} {cap2 n n9 n8 c8 : Nat} {r : List UInt8}
    (HO : Only F w w1) (HF : ∀ b, F1 b → F b ∨ w.heap.size ≤ b) (HA : CtxAt w1 F1 p ad cp C1) (KO : Only (blk (ad 9)) (w1.alloc O) w2) (KB : BS w2 ao2 cap2 (C1.by_ 9 ++ r)) (KK : ∀ b, blk ao2 b → blk (ad 9) b ∨ (w1.alloc O).heap.size ≤ b)
    (hn : n ≤ (C1.by_ 8).length) (h8 : ao8 = if cp 8 = n then ad 8 else (ad 8).map (·.add n)) (hn9 : n9 = (C1.by_ 9 ++ r).length) (hn8 : n8 = (C1.by_ 8).length - n) (hc8 : c8 = cp 8 - n) :
    Goes F w (((w2.setCell ⟨p, 26, none⟩ (.slice ao2 n9 cap2)).setCell ⟨p, 24, none⟩ (.slice ao8 n8 c8)).setCell ⟨p, 25, none⟩ (.int .i64 0)) p
      { C1 with by_ := updA (updA C1.by_ 9 (C1.by_ 9 ++ r)) 8 ((updA C1.by_ 9 (C1.by_ 9 ++ r) 8).drop n), due := 0 } := by
  have h3 := (HA.alloc O).put (k := 9) (by omega) KO KB hn9 KK
  have hb := h3.bs 8 (by omega)
  have e1 : updA ad 9 ao2 8 = ad 8 := rfl
  have e2 : updA cp 9 cap2 8 = cp 8 := rfl
  have e3 : updA C1.by_ 9 (C1.by_ 9 ++ r) 8 = C1.by_ 8 := rfl
  have hb' := hb.drop (ao' := ao8) n hn (by rw [e1, e2]; exact h8)
  rw [e2, ← hc8] at hb'
  have h4 := h3.put (k := 8) (by omega) (Only.refl _ _) hb' (n := n8) (by rw [List.length_drop]; exact hn8) (fun b g => .inl (by rw [e1]; exact blk_drop h8 g))
  have h5 := h4.setDue 0
  refine Goes.then HO HF ⟨?_, _, h5.cx, ?_⟩
  · have o1 : Only F1 w1 w2 := ((Only.of_below ((Below.refl w1.heap.size w1).alloc (Nat.le_refl _) O)).trans KO (fun b g => .inl (HA.fb 9 b (by omega) g)))
    exact ((o1.setCell (.inl HA.fp) _).setCell (.inl HA.fp) _).setCell (.inl HA.fp) _
  · intro b g
    rcases g with g | g
    · rcases g with g | g
      · exact .inl g
      · have := g.1; rw [World.size_alloc] at this; exact .inr (by omega)
    · have := g.1; have := g.2; omega

set_option maxHeartbeats 1000000 in
theorem finish_any (F : Nat → Prop) (p : Nat) (C : Ctx) (ao : Option Addr) (cap : Nat) (m : List UInt8) (w : World) (hC : Cx w F p C) (hS : smallC C) (hB : BS w ao cap m) (hm : m.length ≤ ((dn C m).2.by_ 8).length) (h9 : ((dn C m).2.by_ 9).length ≤ 100000) :
    Calls Try.prog 74 #[.pointer (some ⟨p, 0, none⟩), .slice ao m.length cap] w fun e w' => e = .returned (.tuple #[]) ∧ Goes F w w' p (fin C m) := by
  have HC : Hid (Cx w F p C) := hC
  have HS : Hid (smallC C) := hS
  have HB : Hid (BS w ao cap m) := hB
  have hd := dn_bd C m
  obtain ⟨d0, d1⟩ := hd
  clear hC hS hB
  go_enter Try.func74, Try.ntmps74
  go_wp2_with (first | (go_at_call 87; refine (cdo_any F p C _ _ _ _ HC.out HS.out HB.out).mono ?_; rintro e w1 ⟨rfl, hg1⟩; obtain ⟨ho1, F1, ⟨ad1, cp1, hA1⟩, hF1⟩ := hg1; have q9 := hA1.sl 9 (by omega); have q8 := hA1.sl 8 (by omega); have q25 := hA1.du; have qf := hA1.fz; have qlt := hA1.lt; simp only [show slot 8 = 24 from rfl, show slot 9 = 26 from rfl] at q8 q9; have HA : Hid _ := hA1; have HO : Hid _ := ho1; have HF : Hid _ := hF1; clear hA1 ho1 hF1) | (at_builtin; refine wpList_append_b rfl (.tmp 12) (.tmp 15) 72 72 rfl 5 Try.underlying72 info_byte ((HA.out.bs 9 (by omega)).alloc _) rfl rfl _ [ebyte (dn C m).1] rfl (BS.src (bs_one w1 5 (ebyte (dn C m).1) _ (ebyte_val d0 d1)) Try.underlying72) (by simp; omega) ?_; intro ao2 cap2 w2 hb2 ho2 hk2; obtain ⟨qlt2, c2, f2⟩ := fin_aux HA.out ho2; have q8' := (c2 24).trans q8; have q9' := (c2 26).trans q9; have q25' := (c2 25).trans q25; have hb8 := (HA.out.bs 8 (by omega)).hle; have KB : Hid _ := hb2; have KO : Hid _ := ho2; have KK : Hid _ := hk2; clear hb2 ho2 hk2 q8 q9 q25 qf c2 qlt))
  all_goals
    go_end0
    refine ⟨rfl, fin_close HO.out HF.out HA.out KO.out KB.out KK.out hm ?_ (by simp) rfl ?_⟩
    · first | rw [if_pos (by assumption)] | rw [if_neg (by assumption)]
    · omega

end Go.Proofs.Ytibliodajabhbaa
