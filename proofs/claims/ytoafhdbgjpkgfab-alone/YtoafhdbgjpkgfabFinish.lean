/- Walks: any command is done; a command is finished (P8). -/
import Derived.Test.YtoafhdbgjpkgfabWork2
namespace Go.Proofs.Ytoafhdbgjpkgfab
open Go.RowKit

set_option maxHeartbeats 1000000 in
theorem cdo_any (F : Nat → Prop) (p : Nat) (g : Gst) (ht : Nat → Int) (d : Int) (ao : Option Addr) (cap : Nat) (m : List UInt8) (w : World) (hC : Cx w F (blk ao) p (mk g ht d)) (hR : okR g.rm) (hH : okH g.rm ht) (hB : BS w ao cap m) (h0 : per g.rm m = 0) (hw : m.length = pz m) (h9 : g.out.length ≤ 10000) :
    Calls Try.prog 42 #[.pointer (some ⟨p, 0, none⟩), .slice ao m.length cap] w fun e w' => e = .returned (.tuple #[]) ∧ Done F (blk ao) w w' p g m d := by
  have HC : Hid (Cx w F (blk ao) p (mk g ht d)) := hC
  have HR : Hid (okR g.rm) := hR
  have HH : Hid (okH g.rm ht) := hH
  have HB : Hid (BS w ao cap m) := hB
  have H0 : Hid (per g.rm m = 0) := h0
  have HW : Hid (m.length = pz m) := hw
  have H9 : Hid (g.out.length ≤ 10000) := h9
  clear hC hR hH hB h0 hw h9
  by_cases h1 : bn m 0 = 1
  · have HV : Hid ((bn m 0 : Int) = 1) := (by omega : (bn m 0 : Int) = 1)
    have HE : Hid (bn m 0 = 1) := h1
    clear h1
    go_enter Try.func42, Try.ntmps42
    go_wp2_with (first | (go_at_call 40; refine (field_0 _ _ _ _ _ _ HB.out (by omega) HV.out).mono ?_; rintro e w2 ⟨rfl, w2e⟩; subst w2) | (go_at_call 52; refine (ccreate_any F (blk ao) p g ht d _ _ _ _ HC.out HR.out HH.out HB.out HE.out H0.out).mono ?_; rintro e w3 ⟨rfl, hb3⟩; have HG : Hid _ := hb3; clear hb3))
    go_end0
    exact ⟨rfl, HG.out⟩
  · by_cases h2 : bn m 0 = 2
    · have HV : Hid ((bn m 0 : Int) = 2) := (by omega : (bn m 0 : Int) = 2)
      have HE : Hid (bn m 0 = 2) := h2
      clear h1 h2
      go_enter Try.func42, Try.ntmps42
      go_wp2_with (first | (go_at_call 40; refine (field_0 _ _ _ _ _ _ HB.out (by omega) HV.out).mono ?_; rintro e w2 ⟨rfl, w2e⟩; subst w2) | (go_at_call 53; refine (cdrop_any F (blk ao) p g ht d _ _ _ _ HC.out HH.out HB.out HE.out H0.out).mono ?_; rintro e w3 ⟨rfl, hb3⟩; have HG : Hid _ := hb3; clear hb3))
      go_end0
      exact ⟨rfl, HG.out⟩
    · by_cases h3 : bn m 0 = 3
      · have HV : Hid ((bn m 0 : Int) = 3) := (by omega : (bn m 0 : Int) = 3)
        have HE : Hid (bn m 0 = 3) := h3
        clear h1 h2 h3
        go_enter Try.func42, Try.ntmps42
        go_wp2_with (first | (go_at_call 40; refine (field_0 _ _ _ _ _ _ HB.out (by omega) HV.out).mono ?_; rintro e w2 ⟨rfl, w2e⟩; subst w2) | (go_at_call 54; refine (cwrite_any F p g ht d _ _ _ _ HC.out HH.out HB.out HE.out H0.out HW.out).mono ?_; rintro e w3 ⟨rfl, hb3⟩; have HG : Hid _ := hb3; clear hb3))
        go_end0
        exact ⟨rfl, HG.out⟩
      · by_cases h4 : bn m 0 = 4
        · have HV : Hid ((bn m 0 : Int) = 4) := (by omega : (bn m 0 : Int) = 4)
          have HE : Hid (bn m 0 = 4) := h4
          clear h1 h2 h3 h4
          go_enter Try.func42, Try.ntmps42
          go_wp2_with (first | (go_at_call 40; refine (field_0 _ _ _ _ _ _ HB.out (by omega) HV.out).mono ?_; rintro e w2 ⟨rfl, w2e⟩; subst w2) | (go_at_call 55; refine (cread_any F (blk ao) p g ht d _ _ _ _ HC.out HH.out HB.out HE.out H0.out H9.out).mono ?_; rintro e w3 ⟨rfl, hb3⟩; have HG : Hid _ := hb3; clear hb3))
          go_end0
          exact ⟨rfl, HG.out⟩
        · by_cases h5 : bn m 0 = 5
          · have HV : Hid ((bn m 0 : Int) = 5) := (by omega : (bn m 0 : Int) = 5)
            have HE : Hid (bn m 0 = 5) := h5
            clear h1 h2 h3 h4 h5
            go_enter Try.func42, Try.ntmps42
            go_wp2_with (first | (go_at_call 40; refine (field_0 _ _ _ _ _ _ HB.out (by omega) HV.out).mono ?_; rintro e w2 ⟨rfl, w2e⟩; subst w2) | (go_at_call 56; refine (ccode_any F (blk ao) p g ht d _ _ _ _ HC.out HH.out HB.out HE.out H0.out HW.out).mono ?_; rintro e w3 ⟨rfl, hb3⟩; have HG : Hid _ := hb3; clear hb3))
            go_end0
            exact ⟨rfl, HG.out⟩
          · have h6 : bn m 0 = 6 := by
              rcases Nat.lt_trichotomy (bn m 0) 6 with q | q | q
              · exact absurd (per_o (R := g.rm) h1 h2 h3 h4 h5 (by omega)) (by rw [H0.out]; omega)
              · exact q
              · exact absurd (per_o (R := g.rm) h1 h2 h3 h4 h5 (by omega)) (by rw [H0.out]; omega)
            have HV : Hid ((bn m 0 : Int) = 6) := (by omega : (bn m 0 : Int) = 6)
            have HE : Hid (bn m 0 = 6) := h6
            clear h1 h2 h3 h4 h5 h6
            go_enter Try.func42, Try.ntmps42
            go_wp2_with (first | (go_at_call 40; refine (field_0 _ _ _ _ _ _ HB.out (by omega) HV.out).mono ?_; rintro e w2 ⟨rfl, w2e⟩; subst w2) | (go_at_call 57; refine (cclear_any F (blk ao) p g ht d _ _ _ _ HC.out HR.out HH.out HB.out HE.out H0.out).mono ?_; rintro e w3 ⟨rfl, hb3⟩; have HG : Hid _ := hb3; clear hb3))
            go_end0
            exact ⟨rfl, HG.out⟩

/-- .. of a context that something has been done to -/
theorem cdo_ex {F : Nat → Prop} {p : Nat} {g : Gst} {ht : Nat → Int} {d : Int} {ao : Option Addr} {cap : Nat} {m : List UInt8} {w0 w : World} (hG : Goes F (blk ao) w0 w p (mk g ht d)) (hR : okR g.rm) (hH : okH g.rm ht) (hB : BS w0 ao cap m) (h0 : per g.rm m = 0) (hw : m.length = pz m) (h9 : g.out.length ≤ 10000) :
    Calls Try.prog 42 #[.pointer (some ⟨p, 0, none⟩), .slice ao m.length cap] w fun e w' => e = .returned (.tuple #[]) ∧ Done F (blk ao) w0 w' p g m d := by
  have hb := hG.bs hB
  obtain ⟨h1, F1, h2, h3⟩ := hG
  refine (cdo_any F1 p g ht d ao cap m w h2 hR hH hb h0 hw h9).mono ?_
  rintro e w' ⟨he, ht', hg, hh⟩
  exact ⟨he, ht', Goes.then h1 h3 hg, hh⟩

theorem fin_aux {w1 w2 : World} {O : Obj} {F1 : Nat → Prop} {p : Nat} {ad : Nat → Option Addr} {cp : Nat → Nat} {C : Ctx} (hA : CtxAt w1 F1 p ad cp C) (ho : Only (blk (ad 9)) (w1.alloc O) w2) :
    p < w2.heap.size ∧ (∀ o, w2.cell? ⟨p, o, none⟩ = w1.cell? ⟨p, o, none⟩) ∧ (∀ o, w2.frozen? ⟨p, o, none⟩ = false) := by
  have hlt := hA.lt
  have hs := ho.size
  rw [World.size_alloc] at hs
  have h9 := hA.own 9 (by omega)
  refine ⟨by omega, fun o => ?_, fun o => ?_⟩
  · rw [ho.cell (by simp; omega) h9, World.cell?_alloc_past _ _ _ hlt]
  · rw [ho.frozen (by simp; omega) h9, World.frozen?_alloc_past _ _ _ hlt]; exact hA.fz o

/-- the bytes of a command are taken off -/
theorem cut_close {F : Nat → Prop} {w : World} {p : Nat} {ad : Nat → Option Addr} {cp : Nat → Nat} {g : Gst} {ht : Nat → Int} {d : Int} {ao8 : Option Addr} {n n8 c8 : Nat} (HA : CtxAt w F p ad cp (mk g ht d))
    (hn : n ≤ g.wait.length) (h8 : ao8 = if cp 8 = n then ad 8 else (ad 8).map (·.add n)) (hn8 : n8 = g.wait.length - n) (hc8 : c8 = cp 8 - n) :
    Goes F (fun _ => False) w ((w.setCell ⟨p, 32, none⟩ (.slice ao8 n8 c8)).setCell ⟨p, 33, none⟩ (.int .i64 0)) p (mk { g with wait := g.wait.drop n } ht 0) := by
  have hb := HA.bs 8 (by omega)
  have hb' := hb.drop (ao' := ao8) n hn h8
  rw [← hc8] at hb'
  have h4 := Goes.put8 HA (Only.refl _ _) hb' (n := n8) (by rw [List.length_drop]; exact hn8) (fun b g => .inl (blk_drop h8 g))
  have e : updA (mk g ht d).by_ 8 (((mk g ht d).by_ 8).drop n) = bys g.rm.bs (g.wait.drop n) g.out := bys_upd_8 _ _ _ _
  rw [e] at h4
  obtain ⟨q1, F1, q2, q3⟩ := h4
  exact Goes.then q1 q3 (Goes.setDue q2 0)

/-- .. of a context that something has been done to -/
theorem cut_ex {F M : Nat → Prop} {w0 w : World} {p : Nat} {g : Gst} {ht : Nat → Int} {d : Int} (hG : Goes F M w0 w p (mk g ht d)) : ∃ F1 ad cp, CtxAt w F1 p ad cp (mk g ht d) ∧ ∀ ao8 n n8 c8, n ≤ g.wait.length → (ao8 = if cp 8 = n then ad 8 else (ad 8).map (·.add n)) → n8 = g.wait.length - n → c8 = cp 8 - n →
    Goes F (fun _ => False) w0 ((w.setCell ⟨p, 32, none⟩ (.slice ao8 n8 c8)).setCell ⟨p, 33, none⟩ (.int .i64 0)) p (mk { g with wait := g.wait.drop n } ht 0) := by
  obtain ⟨h1, F1, h2, h3⟩ := hG.loose (N := fun _ => False) (fun _ q => q.elim)
  obtain ⟨ad, cp, hA, _⟩ := h2
  exact ⟨F1, ad, cp, hA, fun ao8 n n8 c8 a b c e => Goes.then h1 h3 (cut_close hA a b c e)⟩

/-- the error's byte is appended, and the bytes of the command are taken off -/
theorem err_close {F1 : Nat → Prop} {w1 w2 : World} {O : Obj} {p : Nat} {ad : Nat → Option Addr} {cp : Nat → Nat} {g : Gst} {ht : Nat → Int} {d : Int} {ao2 ao8 : Option Addr} {cap2 n9 n n8 c8 : Nat} {r : List UInt8}
    (HA : CtxAt w1 F1 p ad cp (mk g ht d)) (KO : Only (blk (ad 9)) (w1.alloc O) w2) (KB : BS w2 ao2 cap2 (g.out ++ r)) (KK : ∀ b, blk ao2 b → blk (ad 9) b ∨ (w1.alloc O).heap.size ≤ b) (hn9 : n9 = (g.out ++ r).length)
    (hn : n ≤ g.wait.length) (h8 : ao8 = if cp 8 = n then ad 8 else (ad 8).map (·.add n)) (hn8 : n8 = g.wait.length - n) (hc8 : c8 = cp 8 - n) :
    Goes F1 (fun _ => False) w1 (((w2.setCell ⟨p, 34, none⟩ (.slice ao2 n9 cap2)).setCell ⟨p, 32, none⟩ (.slice ao8 n8 c8)).setCell ⟨p, 33, none⟩ (.int .i64 0)) p (mk { gO g r with wait := g.wait.drop n } ht 0) := by
  have h3 := (HA.alloc O).put (k := 9) (by omega) KO KB hn9 KK
  have e : updA (mk g ht d).by_ 9 (g.out ++ r) = bys g.rm.bs g.wait (g.out ++ r) := bys_upd_9 _ _ _ _
  rw [e] at h3
  have h4 := cut_close (g := gO g r) (ht := ht) (d := d) (n := n) (ao8 := ao8) (n8 := n8) (c8 := c8) h3 hn h8 hn8 hc8
  have o1 : Only (fun b => F1 b ∧ ¬ False) w1 w2 := (Only.of_below ((Below.refl w1.heap.size w1).alloc (Nat.le_refl _) O)).trans KO (fun b q => .inl ⟨HA.fb 9 b (by omega) q, id⟩)
  refine Goes.then (M := fun _ => False) (F1 := more F1 (w1.alloc O) w2) (o1.setCell (.inl ⟨HA.fp, id⟩) _) (fun b q => ?_) h4
  rcases q with q | q
  · exact .inl q
  · have := q.1; rw [World.size_alloc] at this; exact .inr (by omega)

theorem eb_val {e : Int} (h0 : 0 ≤ e) (h1 : e ≤ 7) : e = ((eb e).toNat : Int) := by
  unfold eb
  simp
  omega

set_option maxHeartbeats 2000000 in
theorem finish_any (F : Nat → Prop) (p : Nat) (g : Gst) (ht : Nat → Int) (d : Int) (ao : Option Addr) (cap : Nat) (w : World) (hC : Cx w F (blk ao) p (mk g ht d)) (hH : okH g.rm ht) (hP : okP g) (hn : ¬ pnx g = 0) (hB : BS w ao cap (pcm g)) :
    Calls Try.prog 30 #[.pointer (some ⟨p, 0, none⟩), .slice ao (pcm g).length cap] w fun e w' => e = .returned (.tuple #[]) ∧ ∃ ht', Goes F (fun _ => False) w w' p (mk (pfin g) ht' 0) ∧ okH (pfin g).rm ht' := by
  have HC : Hid (Cx w F (blk ao) p (mk g ht d)) := hC
  have HR : Hid (okR g.rm) := hP.rm
  have HH : Hid (okH g.rm ht) := hH
  obtain ⟨z1, z2⟩ := pcm_len hn
  obtain ⟨y1, y2, y3, y4⟩ := pnx_some hn
  have hw1 := hP.wt
  have ho1 := hP.ot
  have HN : Hid (pfin g = ⟨true, (pd g.rm (pcm g)).2.2, g.wait.drop (pcm g).length, 0, g.out ++ (pd g.rm (pcm g)).1⟩) := by
    rw [z1]; exact (rfl : pfin g = _)
  have HML : Hid ((pcm g).length ≤ g.wait.length) := (by omega : (pcm g).length ≤ g.wait.length)
  have H2 : Hid ((pcm g).length ≤ 2000) := (by omega : (pcm g).length ≤ 2000)
  have H9 : Hid (g.out.length ≤ 2000) := (by omega : g.out.length ≤ 2000)
  have HW : Hid ((pcm g).length = pz (pcm g)) := z2
  clear z1 z2 y1 y2 y3 y4 hw1 ho1 hP hn hC hH
  generalize pcm g = m at *
  have HB : Hid (BS w ao cap m) := hB
  clear hB
  have d01 := per_bd g.rm m
  obtain ⟨d0, d1⟩ := d01
  by_cases he : per g.rm m = 0
  · have HE : Hid (per g.rm m = 0) := he
    have de : (per g.rm m == 0) = true := by rw [beq_iff_eq]; exact he
    clear he
    go_enter Try.func30, Try.ntmps30
    go_wp2_with (first | (go_at_call 39; refine (fault_any F (blk ao) p g ht d _ _ _ _ HC.out HR.out HB.out HW.out H2.out).mono ?_; rintro e w1 ⟨rfl, hb1⟩; have HB1 : Hid (BS w1 ao cap m) := HB.out.below hb1; have HW1 : Hid (Below w.heap.size w w1) := hb1; obtain ⟨ad, cp, hA1, hM1⟩ := HC.out.below hb1; have q9 := hA1.sl 9 (by omega); have qlt := hA1.lt; simp only [show slot 9 = 34 from rfl, show (mk g ht d).by_ 9 = g.out from rfl] at q9; have HS : Hid (BS w1 (ad 9) (cp 9) g.out) := hA1.bs 9 (by omega); have HA : Hid (CtxAt w1 F p ad cp (mk g ht d)) := hA1; have HM : Hid (∀ b, blk ao b → blk (ad 8) b) := hM1; clear hA1 hM1 hb1) | (at_builtin; refine wpList_append_b rfl (.tmp 12) (.tmp 15) 51 51 rfl 5 Try.underlying51 info_byte (HS.out.alloc _) rfl rfl _ [eb (per g.rm m)] rfl (BS.src (bs_one w1 5 (eb (per g.rm m)) _ (eb_val d0 d1)) Try.underlying51) (by have := H9.out; simp; omega) ?_; intro ao2 cap2 w2 hb2 ho2 hk2; obtain ⟨qlt2, c2, f2⟩ := fin_aux HA.out ho2; have q9' := (c2 34).trans q9; have f34 := f2 34; have K3 : Hid (∀ n9, n9 = (g.out ++ [eb (per g.rm m)]).length → Goes F (blk ao) w1 (w2.setCell ⟨p, 34, none⟩ (.slice ao2 n9 cap2)) p (mk (gO g [eb (per g.rm m)]) ht d)) := fun n9 h => app_close HA.out HM.out ho2 hb2 hk2 h; clear hb2 ho2 hk2 q9 c2 qlt) | (go_at_call 42; refine (cdo_ex (K3.out _ (by simp)) HR.out HH.out HB1.out HE.out HW.out (by show (g.out ++ [_]).length ≤ 10000; have := H9.out; rw [List.length_append]; simp; omega)).mono ?_; rintro e w4 ⟨rfl, ht4, hg4, hh4⟩; obtain ⟨F4, ad4, cp4, hA4, hcut⟩ := cut_ex hg4; have r8 := hA4.sl 8 (by omega); have r33 := hA4.du; have rl := hA4.lt; have rf := hA4.fz; have rle := (hA4.bs 8 (by omega)).hle; simp only [show slot 8 = 32 from rfl, show (mk (gD (gO g [eb (per g.rm m)]) m) ht4 d).by_ 8 = g.wait from rfl] at r8 rle; have HCUT : Hid _ := hcut; have HH4 : Hid (okH (pd (gO g [eb (per g.rm m)]).rm m).2.2 ht4) := hh4; have hml := HML.out; clear hA4 hcut hg4 hh4 q9' f34 f2 qlt2))
    all_goals
      go_end0
      refine ⟨rfl, ht4, ?_, ?_⟩
      · have e : mk (pfin g) ht4 0 = mk { gD (gO g [eb (per g.rm m)]) m with wait := (gD (gO g [eb (per g.rm m)]) m).wait.drop m.length } ht4 0 := by
          rw [HN.out]
          unfold mk gD gO
          simp only [List.append_assoc, List.singleton_append]
          rw [← pd_head]
        rw [e]
        refine Goes.of_below HW1.out (HCUT.out _ _ _ _ HML.out ?_ rfl ?_)
        · first | rw [if_pos (by assumption)] | rw [if_neg (by assumption)]
        · omega
      · rw [HN.out]; exact HH4.out
  · have HE : Hid (¬ per g.rm m = 0) := he
    have de : (per g.rm m == 0) = false := beq_false_of_ne he
    clear he
    go_enter Try.func30, Try.ntmps30
    go_wp2_with (first | (go_at_call 39; refine (fault_any F (blk ao) p g ht d _ _ _ _ HC.out HR.out HB.out HW.out H2.out).mono ?_; rintro e w1 ⟨rfl, hb1⟩; have HB1 : Hid (BS w1 ao cap m) := HB.out.below hb1; have HW1 : Hid (Below w.heap.size w w1) := hb1; obtain ⟨ad, cp, hA1, hM1⟩ := HC.out.below hb1; have q9 := hA1.sl 9 (by omega); have qlt := hA1.lt; simp only [show slot 9 = 34 from rfl, show (mk g ht d).by_ 9 = g.out from rfl] at q9; have HS : Hid (BS w1 (ad 9) (cp 9) g.out) := hA1.bs 9 (by omega); have HA : Hid (CtxAt w1 F p ad cp (mk g ht d)) := hA1; have HM : Hid (∀ b, blk ao b → blk (ad 8) b) := hM1; clear hA1 hM1 hb1) | (at_builtin; refine wpList_append_b rfl (.tmp 12) (.tmp 15) 51 51 rfl 5 Try.underlying51 info_byte (HS.out.alloc _) rfl rfl _ [eb (per g.rm m)] rfl (BS.src (bs_one w1 5 (eb (per g.rm m)) _ (eb_val d0 d1)) Try.underlying51) (by have := H9.out; simp; omega) ?_; intro ao2 cap2 w2 hb2 ho2 hk2; obtain ⟨qlt2, c2, f2⟩ := fin_aux HA.out ho2; have q9' := (c2 34).trans q9; have q8' := (c2 32).trans (HA.out.sl 8 (by omega)); have q33' := (c2 33).trans HA.out.du; have qle := (HA.out.bs 8 (by omega)).hle; simp only [show (mk g ht d).by_ 8 = g.wait from rfl] at q8' qle; have hml := HML.out; have K3 : Hid (∀ n9 ao8 n8 c8, n9 = (g.out ++ [eb (per g.rm m)]).length → m.length ≤ g.wait.length → (ao8 = if cp 8 = m.length then ad 8 else (ad 8).map (·.add m.length)) → n8 = g.wait.length - m.length → c8 = cp 8 - m.length → Goes F (fun _ => False) w1 (((w2.setCell ⟨p, 34, none⟩ (.slice ao2 n9 cap2)).setCell ⟨p, 32, none⟩ (.slice ao8 n8 c8)).setCell ⟨p, 33, none⟩ (.int .i64 0)) p (mk { gO g [eb (per g.rm m)] with wait := g.wait.drop m.length } ht 0)) := fun n9 ao8 n8 c8 a1 a2 a3 a4 a5 => err_close HA.out ho2 hb2 hk2 a1 a2 a3 a4 a5; clear hb2 ho2 hk2 q9 c2 qlt))
    all_goals
      go_end0
      refine ⟨rfl, ht, ?_, ?_⟩
      · have e : mk (pfin g) ht 0 = mk { gO g [eb (per g.rm m)] with wait := g.wait.drop m.length } ht 0 := by
          rw [HN.out, pd_bad HE.out]
          rfl
        rw [e]
        refine Goes.of_below HW1.out (K3.out _ _ _ _ (by simp) HML.out ?_ rfl ?_)
        · first | rw [if_pos (by assumption)] | rw [if_neg (by assumption)]
        · omega
      · rw [HN.out, pd_bad HE.out]; exact HH.out

end Go.Proofs.Ytoafhdbgjpkgfab
