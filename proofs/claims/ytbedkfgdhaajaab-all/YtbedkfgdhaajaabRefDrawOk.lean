/- Walks: the document's answer: Draw, its pixels (P13). -/
import Derived.Test.YtbedkfgdhaajaabRefDraw
import Derived.Deep.RegionHeld3
namespace Go.Proofs.Ytbedkfgdhaajaab
open Go.RowKit

theorem rBytes_bs (R : Rm) (h : Nat) (l : List UInt8) : (rBytes R h l).bs h = l := updA_same _ _ _
theorem rBytes_two (R : Rm) (h : Nat) (l m : List UInt8) : rBytes (rBytes R h l) h m = rBytes R h m := by
  unfold rBytes
  simp only [updA_updA]
theorem wrt_one (b : List UInt8) (k : Nat) (v : UInt8) : wrt b k [v] = b.set k v := by
  have := wrt_in b k [v] 0 (by simp)
  rw [List.take_zero, wrt_nil, Nat.add_zero] at this
  exact this

set_option maxRecDepth 8000 in
set_option maxHeartbeats 4000000 in
theorem draw_ok (b0 : Nat) (s : List UInt8) (R : Rm) (w : World) (hR : RoomAt w b0 0 R) (hk : okR R) (hl : s.length = 17) (h1 : thr R (bn s 1) = true) (h2 : ¬ 4 ≤ bn s 2) (h3 : R.has (bn s 2) = true) (h4 : thr R (bn s 3) = true) (g1 : near (crn s 5) (crn s 7) = true) (g2 : near (crn s 9) (crn s 11) = true) (g3 : near (crn s 13) (crn s 15) = true) :
    Calls Try.prog 105 #[.pointer (some ⟨b0, 0, none⟩), .string (str s)] w fun x w' => x = .returned (.tuple #[.int .i64 0, .int .i64 (dst R s (R.bs (bn s 1)).length).2]) ∧ RGoes b0 0 w w' (rBytes R (bn s 1) (dst R s (R.bs (bn s 1)).length).1) := by
  obtain ⟨sv, hsv⟩ : ∃ sv, str s = sv := ⟨_, rfl⟩
  have hz : sv.size = s.length := by rw [← hsv, str_size]
  have HSV : Hid (str s = sv) := hsv
  have HR : Hid (RoomAt w b0 0 R) := hR
  have HK : Hid (okR R) := hk
  have z1 : 1 < sv.size := by omega
  have z2 : 2 < sv.size := by omega
  have z3 : 3 < sv.size := by omega
  have z4 : 4 < sv.size := by omega
  have e1 : (sv[1]'z1).toNat = bn s 1 := by subst hsv; exact str_byte s 1 _
  have e2 : (sv[2]'z2).toNat = bn s 2 := by subst hsv; exact str_byte s 2 _
  have e3 : (sv[3]'z3).toNat = bn s 3 := by subst hsv; exact str_byte s 3 _
  have e4 : (sv[4]'z4).toNat = bn s 4 := by subst hsv; exact str_byte s 4 _
  have c1 : (bn s 1 : Int) ≤ 255 := by have := bn_le s 1; omega
  have c2 : (bn s 2 : Int) ≤ 255 := by have := bn_le s 2; omega
  have c3 : (bn s 3 : Int) ≤ 255 := by have := bn_le s 3; omega
  have c4 : (bn s 4 : Int) ≤ 255 := by have := bn_le s 4; omega
  have n1 : (0 : Int) ≤ bn s 1 := by omega
  have n2 : (0 : Int) ≤ bn s 2 := by omega
  have n3 : (0 : Int) ≤ bn s 3 := by omega
  have HL : Hid (s.length = 17) := hl
  have ql := hR.lt
  rw [hsv]
  clear hR hk hsv hl
  have h2' : ¬ (4 : Int) ≤ bn s 2 := by omega
  have h2'' : (bn s 2 : Int) < 4 := by omega
  have q := HR.out.has (bn s 2) (by omega)
  rw [Nat.zero_add] at q
  have t1 : bn s 1 < 8 ∧ 0 < (R.bs (bn s 1)).length := of_decide_eq_true h1
  have t3 : bn s 3 < 8 ∧ 0 < (R.bs (bn s 3)).length := of_decide_eq_true h4
  obtain ⟨t1a, t1b⟩ := t1
  obtain ⟨t3a, t3b⟩ := t3
  have n1' : (bn s 1 : Int) < 8 := by omega
  have n3' : (bn s 3 : Int) < 8 := by omega
  have hlen := HK.out.len _ t1a
  have hlx := HK.out.len _ t3a
  have hD0 : 0 < R.wd (bn s 1) := (HK.out.zer _ t1a).2 t1b
  have hD1 := (HK.out.wde _ t1a).2
  have hD2 := HK.out.hig _ t1a
  obtain ⟨s1, s2⟩ := near_small g1
  obtain ⟨s3, s4⟩ := near_small g2
  obtain ⟨s5, s6⟩ := near_small g3
  have SM : Hid (small (crn s 5) ∧ small (crn s 7) ∧ small (crn s 9) ∧ small (crn s 11) ∧ small (crn s 13) ∧ small (crn s 15)) := ⟨s1, s2, s3, s4, s5, s6⟩
  have VG : Hid ((ver (str (R.cd (bn s 2)))).1 = 0) := HK.out.cde _ (by omega) h3
  clear s1 s2 s3 s4 s5 s6 t1b t3b
  go_enter Try.func105, Try.ntmps105
  go_wp2_with (first | (go_at_call 102; refine (rthere_any b0 0 _ R _ HR.out HK.out).mono ?_; rintro e w1 ⟨rfl, hw1⟩; subst w1) | (go_at_call 111; refine (rcorner_any sv s _ 5 _ HSV.out (by omega) (by have := HL.out; omega) (by have := HL.out; omega)).mono ?_; rintro e w1 ⟨rfl, hb1⟩; have B1 : Hid (Below w.heap.size w w1) := hb1; have z1' := hb1.size; clear hb1) | (go_at_call 111; refine (rcorner_any sv s _ 9 _ HSV.out (by omega) (by have := HL.out; omega) (by have := HL.out; omega)).mono ?_; rintro e w2 ⟨rfl, hb2⟩; have pa := (Pt2.made w1 48 (crn s 5) (crn s 7)).below hb2; have PA2 : Hid (Pt2 w2 w1.heap.size (crn s 5) (crn s 7)) := pa; have B2 : Hid (Below w.heap.size w w2) := (B1.out.alloc z1' _).trans (hb2.mono (by simp; omega)); have z2' := pa.lt; clear hb2 pa) | (go_at_call 111; refine (rcorner_any sv s _ 13 _ HSV.out (by omega) (by have := HL.out; omega) (by have := HL.out; omega)).mono ?_; rintro e w3 ⟨rfl, hb3⟩; have pb := (Pt2.made w2 48 (crn s 9) (crn s 11)).below hb3; have PA3 : Hid (Pt2 w3 w1.heap.size (crn s 5) (crn s 7)) := (PA2.out.alloc _).below hb3; have PB3 : Hid (Pt2 w3 w2.heap.size (crn s 9) (crn s 11)) := pb; have B3 : Hid (Below w.heap.size w w3) := (B2.out.alloc (by omega) _).trans (hb3.mono (by simp; omega)); have z3' := pb.lt; have a30 := PA3.out.c0; have a31 := PA3.out.c1; have zA3 := PA3.out.lt; clear hb3 pb) | (go_at_call_has 112 (crn s 5); refine (far_any _ _ _).mono ?_; rintro e w4 ⟨rfl, hb4⟩; have pc := (Pt2.made w3 48 (crn s 13) (crn s 15)).below hb4; have PA4 : Hid (Pt2 w4 w1.heap.size (crn s 5) (crn s 7)) := (PA3.out.alloc _).below hb4; have PB4 : Hid (Pt2 w4 w2.heap.size (crn s 9) (crn s 11)) := (PB3.out.alloc _).below hb4; have PC4 : Hid (Pt2 w4 w3.heap.size (crn s 13) (crn s 15)) := pc; have B4 : Hid (Below w.heap.size w w4) := (B3.out.alloc (by omega) _).trans (hb4.mono (by simp; omega)); have z4' := pc.lt; have b40 := PB4.out.c0; have b41 := PB4.out.c1; clear hb4 pc) | (go_at_call_has 112 (crn s 9); refine (far_any _ _ _).mono ?_; rintro e w5 ⟨rfl, hb5⟩; have pc := PC4.out.below hb5; have PA5 : Hid (Pt2 w5 w1.heap.size (crn s 5) (crn s 7)) := PA4.out.below hb5; have PB5 : Hid (Pt2 w5 w2.heap.size (crn s 9) (crn s 11)) := PB4.out.below hb5; have PC5 : Hid (Pt2 w5 w3.heap.size (crn s 13) (crn s 15)) := pc; have B5 : Hid (Below w.heap.size w w5) := B4.out.trans (hb5.mono (by omega)); have z5' := pc.lt; have c50 := pc.c0; have c51 := pc.c1; clear hb5 pc) | (go_at_call_has 112 (crn s 13); refine (far_any _ _ _).mono ?_; rintro e w6 ⟨rfl, hb6⟩; have pc := PC5.out.below hb6; have PA6 : Hid (Pt2 w6 w1.heap.size (crn s 5) (crn s 7)) := PA5.out.below hb6; have PB6 : Hid (Pt2 w6 w2.heap.size (crn s 9) (crn s 11)) := PB5.out.below hb6; have PC6 : Hid (Pt2 w6 w3.heap.size (crn s 13) (crn s 15)) := pc; have B6 : Hid (Below w.heap.size w w6) := B5.out.trans (hb6.mono (by omega)); have z6' := pc.lt; clear hb6 pc))
  go_loopw [17, 18] (fun c i wr => ∃ k : Nat, k ≤ (R.bs (bn s 1)).length ∧ i = .int .i64 k ∧ c = .int .i64 (dst R s k).2 ∧ RoomAt wr b0 0 (rBytes R (bn s 1) (dst R s k).1) ∧ Only (fun x => x = b0) w6 wr) (fun _ i _ => (R.bs (bn s 1)).length - (intOf i).toNat)
  case atStart =>
    have e : rBytes R (bn s 1) (dst R s 0).1 = R := by
      show { R with bs := updA R.bs (bn s 1) (R.bs (bn s 1)) } = R
      have : updA R.bs (bn s 1) (R.bs (bn s 1)) = R.bs := by funext j; unfold updA; split; rename_i q; rw [q]; rfl
      rw [this]
    exact ⟨0, by omega, rfl, rfl, by rw [e]; exact HR.out.below B6.out, Only.refl _ _⟩
  case round =>
    obtain ⟨k, hk, rfl, rfl, hRo, hO⟩ := hrel
    have KR : Hid (RoomAt wr b0 0 (rBytes R (bn s 1) (dst R s k).1)) := hRo
    have KO : Hid (Only (fun x => x = b0) w6 wr) := hO
    have hbl : b0 < w.heap.size := ql
    have hz6 := B6.out.size
    have PA : Hid (Pt2 wr w1.heap.size (crn s 5) (crn s 7)) := PA6.out.only hO (by omega)
    have PB : Hid (Pt2 wr w2.heap.size (crn s 9) (crn s 11)) := PB6.out.only hO (by omega)
    have PC : Hid (Pt2 wr w3.heap.size (crn s 13) (crn s 15)) := PC6.out.only hO (by omega)
    have zr := hO.size
    have qlr := hRo.lt
    obtain ⟨d1, d2⟩ := dst_bd R s k
    have hlk := dst_len R s k
    have qb := hRo.bs (bn s 1) t1a
    rw [Nat.zero_add] at qb
    have eqb : (rBytes R (bn s 1) (dst R s k).1).bs (bn s 1) = (dst R s k).1 := updA_same _ _ _
    rw [eqb] at qb
    obtain ⟨sb, hsb⟩ : ∃ sb, str (dst R s k).1 = sb := ⟨_, rfl⟩
    have hsbz : sb.size = (R.bs (bn s 1)).length := by rw [← hsb, str_size, hlk]
    rw [hsb] at qb
    have HSB : Hid (str (dst R s k).1 = sb) := hsb
    by_cases hlt : k < (R.bs (bn s 1)).length
    · have k0 : (0 : Int) ≤ k := by omega
      have k1 : (k : Int) < sb.size := by omega
      have k2 : k < sb.size := by omega
      have ebk : (sb[k]'k2).toNat = bn (dst R s k).1 k := by subst hsb; exact str_byte _ k _
      have cbk : (bn (dst R s k).1 k : Int) ≤ 255 := by have := bn_le (dst R s k).1 k; omega
      have qw := hRo.wd (bn s 1) t1a
      rw [Nat.zero_add] at qw
      have qc := hRo.cd (bn s 2) (by omega)
      rw [Nat.zero_add] at qc
      have qt := hRo.bs (bn s 3) t3a
      rw [Nat.zero_add] at qt
      have qw' : wr.cell? ⟨b0, bn s 1 * 2, none⟩ = some (.int .i64 (R.wd (bn s 1))) := qw
      have qc' : wr.cell? ⟨b0, 20 + bn s 2, none⟩ = some (.string (str (R.cd (bn s 2)))) := qc
      have qt' : wr.cell? ⟨b0, bn s 3 * 2 + 1, none⟩ = some (.string (str (if bn s 3 = bn s 1 then (dst R s k).1 else R.bs (bn s 3)))) := qt
      clear qw qc qt
      obtain ⟨D, hD⟩ : ∃ D, R.wd (bn s 1) = D := ⟨_, rfl⟩
      rw [hD] at hD0 hD1 hD2 qw'
      obtain ⟨X, hX⟩ : ∃ X, (k : Int) % D = X := ⟨_, rfl⟩
      obtain ⟨Y, hY⟩ : ∃ Y, (k : Int) / D = Y := ⟨_, rfl⟩
      have hX0 : 0 ≤ X := by rw [← hX]; exact Int.emod_nonneg _ (by omega)
      have hX1 : X < D := by rw [← hX]; exact Int.emod_lt_of_pos _ hD0
      have hY0 : 0 ≤ Y := by rw [← hY]; exact Int.ediv_nonneg (by omega) (by omega)
      have hY1 : Y < 24 := by rw [← hY]; exact Int.ediv_lt_of_lt_mul hD0 (by omega)
      have tX : (k : Int).tmod D = X := by rw [Int.tmod_eq_emod_of_nonneg (by omega)]; exact hX
      have tY : (k : Int).tdiv D = Y := by rw [Int.tdiv_eq_ediv_of_nonneg (by omega)]; exact hY
      have hDne : (D == 0) = false := beq_false_of_ne (by omega)
      have w4b := wrap_byte s 4
      have wkb := wrap_byte (dst R s k).1 k
      have zA := PA.out.lt
      have zB := PB.out.lt
      have zC := PC.out.lt
      have a0 := PA.out.c0
      have a1 := PA.out.c1
      have p0 := PB.out.c0
      have p1 := PB.out.c1
      have m0 := PC.out.c0
      have m1 := PC.out.c1
      have HDP : Hid (dpx R s k = cov (crn s 5) (crn s 7) (crn s 9) (crn s 11) (crn s 13) (crn s 15) X Y) := by
        have e : dpx R s k = cov (crn s 5) (crn s 7) (crn s 9) (crn s 11) (crn s 13) (crn s 15) ((k : Int) % R.wd (bn s 1)) ((k : Int) / R.wd (bn s 1)) := rfl
        rw [hD, hX, hY] at e
        exact e
      have HDS : Hid (dsh R s (dst R s k).1 k = sh (str (R.cd (bn s 2))) (str (if bn s 3 = bn s 1 then (dst R s k).1 else R.bs (bn s 3))) 64 (reg0 X Y (bn (dst R s k).1 k) (bn s 4)) 0) := by
        have e : dsh R s (dst R s k).1 k = sh (str (R.cd (bn s 2))) (str (if bn s 3 = bn s 1 then (dst R s k).1 else R.bs (bn s 3))) 64 (reg0 ((k : Int) % R.wd (bn s 1)) ((k : Int) / R.wd (bn s 1)) (bn (dst R s k).1 k) (bn s 4)) 0 := rfl
        rw [hD, hX, hY] at e
        exact e
      obtain ⟨cd, hcd⟩ : ∃ cd, str (R.cd (bn s 2)) = cd := ⟨_, rfl⟩
      obtain ⟨tx, htx⟩ : ∃ tx, str (if bn s 3 = bn s 1 then (dst R s k).1 else R.bs (bn s 3)) = tx := ⟨_, rfl⟩
      have HTX : Hid (tx.size ≤ maxLen) := by
        have e : tx.size ≤ 576 := by
          rw [← htx, str_size]
          split
          · rw [hlk]; exact hlen
          · exact hlx
        have : tx.size ≤ maxLen := by unfold maxLen; omega
        exact this
      have HCD : Hid ((ver cd).1 = 0) := by rw [← hcd]; exact VG.out
      rw [hcd] at qc'
      rw [htx] at qt'
      rw [hcd, htx] at HDS
      obtain ⟨v, hv⟩ : ∃ v, (sh cd tx 64 (reg0 X Y (bn (dst R s k).1 k) (bn s 4)) 0).1 = v := ⟨_, rfl⟩
      obtain ⟨m, hm⟩ : ∃ m, (sh cd tx 64 (reg0 X Y (bn (dst R s k).1 k) (bn s 4)) 0).2 = m := ⟨_, rfl⟩
      have hsb4 := sh_bd cd tx 64 (reg0 X Y (bn (dst R s k).1 k) (bn s 4)) 0 (Nat.le_refl _)
      rw [hv, hm] at hsb4
      obtain ⟨v0, v1, m2, m3⟩ := hsb4
      have HV : Hid ((sh cd tx 64 (reg0 X Y (bn (dst R s k).1 k) (bn s 4)) 0).1 = v) := hv
      have HM : Hid ((sh cd tx 64 (reg0 X Y (bn (dst R s k).1 k) (bn s 4)) 0).2 = m) := hm
      have HXY : Hid ((k : Int) % D = X ∧ (k : Int) / D = Y ∧ R.wd (bn s 1) = D) := ⟨hX, hY, hD⟩
      clear hRo hO hsb hX hY hD hv hm hcd htx
      go_wp2
      go_region
      by_cases hcv : cov (crn s 5) (crn s 7) (crn s 9) (crn s 11) (crn s 13) (crn s 15) X Y = true
      · go_wp2_with ((go_at_call 113; refine (covers_any _ _ _ _ _ _ _ _ _ SM.out.1 SM.out.2.1 SM.out.2.2.1 SM.out.2.2.2.1 SM.out.2.2.2.2.1 SM.out.2.2.2.2.2 (by unfold small; omega) (by unfold small; omega)).mono ?_; rintro e w7 ⟨rfl, hb7⟩; have B7 : Hid (Below wr.heap.size wr w7) := (((Below.refl wr.heap.size wr).alloc (Nat.le_refl _) _).drew).trans (hb7.mono (by simp)); have x0 : w7.cell? ⟨wr.heap.size, 0, none⟩ = some (.int .i64 X) := (hb7.cell (p := ⟨wr.heap.size, 0, none⟩) (by simp)).trans (by simp [go_sem]); have x1 : w7.cell? ⟨wr.heap.size, 1, none⟩ = some (.int .i64 Y) := (hb7.cell (p := ⟨wr.heap.size, 1, none⟩) (by simp)).trans (by simp [go_sem]); have x2 : w7.cell? ⟨wr.heap.size, 2, none⟩ = some (.int .i64 (bn (dst R s k).1 k)) := (hb7.cell (p := ⟨wr.heap.size, 2, none⟩) (by simp)).trans (by simp [go_sem]); have x3 : w7.cell? ⟨wr.heap.size, 3, none⟩ = some (.int .i64 (bn s 4)) := (hb7.cell (p := ⟨wr.heap.size, 3, none⟩) (by simp)).trans (by simp [go_sem]); have r7 := KR.out.below B7.out; have KR7 : Hid (RoomAt w7 b0 0 (rBytes R (bn s 1) (dst R s k).1)) := r7; have l7 := r7.lt; have qc7 := (B7.out.cell (p := ⟨b0, 20 + bn s 2, none⟩) qlr).trans qc'; have qt7 := (B7.out.cell (p := ⟨b0, bn s 3 * 2 + 1, none⟩) qlr).trans qt'; have z77 : wr.heap.size < w7.heap.size := (by have := hb7.size; simp at this; omega); clear hb7 r7))
        go_region_held3 (fun W' => W'.cell? ⟨b0, 20 + bn s 2, none⟩ = some (.string cd) ∧ W'.cell? ⟨b0, bn s 3 * 2 + 1, none⟩ = some (.string tx) ∧ W'.cell? ⟨wr.heap.size, 0, none⟩ = some (.int .i64 X) ∧ W'.cell? ⟨wr.heap.size, 1, none⟩ = some (.int .i64 Y) ∧ W'.cell? ⟨wr.heap.size, 2, none⟩ = some (.int .i64 (bn (dst R s k).1 k)) ∧ W'.cell? ⟨wr.heap.size, 3, none⟩ = some (.int .i64 (bn s 4))) (go_keep) (first | (go_at_call 114; refine (refRun_any _ _ _ _ _ _ _ (ver_good HCD.out).1 (ver_good HCD.out).2 HTX.out ⟨by omega, by omega⟩ ⟨by omega, by omega⟩ ⟨by omega, by omega⟩ ⟨by omega, by omega⟩).mono ?_; rintro e w8 ⟨rfl, hb8⟩; rw [HV.out, HM.out]; have B8 : Hid (Below w7.heap.size w7 w8) := ⟨hb8.os, hb8.tape, hb8.output, hb8.size, hb8.block⟩; have r8 := KR7.out.below B8.out; have KR8 : Hid (RoomAt w8 b0 0 (rBytes R (bn s 1) (dst R s k).1)) := r8; have l8 := r8.lt; have hcv8 := run_string_bs (P := Try.prog) (bs_one w8 5 (UInt8.ofNat v.toNat) v (by simp; omega)) 51 9 5 Try.underlying51 Try.underlying5 Try.underlying9; simp only [List.length_cons, List.length_nil, Nat.zero_add] at hcv8; have s80 := (B8.out.cell (p := ⟨b0, 20 + bn s 2, none⟩) l7).trans qc7; have s81 := (B8.out.cell (p := ⟨b0, bn s 3 * 2 + 1, none⟩) l7).trans qt7; have s82 := (B8.out.cell (p := ⟨wr.heap.size, 0, none⟩) z77).trans x0; have s83 := (B8.out.cell (p := ⟨wr.heap.size, 1, none⟩) z77).trans x1; have s84 := (B8.out.cell (p := ⟨wr.heap.size, 2, none⟩) z77).trans x2; have s85 := (B8.out.cell (p := ⟨wr.heap.size, 3, none⟩) z77).trans x3; clear hb8 r8))
        all_goals
          go_wp2_with ((go_at_call 115; refine (rwrite_of b0 (bn s 1) k _ _ [UInt8.ofNat v.toNat] _ (rBytes R (bn s 1) (dst R s k).1) _ rfl rfl rfl (KR8.out.alloc _) t1a (by rw [rBytes_bs, dst_len]; exact hlen) (by omega) (by simp)).mono ?_; rintro e w9 ⟨rfl, hg9⟩; have G9 : Hid (RGoes b0 0 (w8.alloc (.cells #[.int .u8 v] 5)) w9 (rBytes R (bn s 1) ((dst R s k).1.set k (UInt8.ofNat v.toNat)))) := by rw [rBytes_bs, rBytes_two, wrt_one] at hg9; exact hg9))
          go_roundw
          case rel =>
            have ed := dst_yes (R := R) (s := s) (i := k) (by rw [HDP.out]; exact hcv)
            rw [HDS.out, HV.out, HM.out] at ed
            have z7 := B7.out.size
            have z8 := B8.out.size
            have o9 : Only (fun x => x = b0) w6 w9 := (((KO.out.trans (Only.of_below (F := fun x => x = b0) B7.out) (fun _ g => .inl g)).trans (Only.of_below (F := fun x => x = b0) B8.out) (fun _ g => .inl g)).alloc _).trans G9.out.1 (fun _ g => .inl g)
            exact ⟨k + 1, by omega, by go_num, by rw [ed], by rw [ed]; exact G9.out.2, o9⟩
          case measure => simp [intOf]; omega
      · have hcv' : cov (crn s 5) (crn s 7) (crn s 9) (crn s 11) (crn s 13) (crn s 15) X Y = false := by simpa using hcv
        clear hcv
        go_wp2_with ((go_at_call 113; refine (covers_any _ _ _ _ _ _ _ _ _ SM.out.1 SM.out.2.1 SM.out.2.2.1 SM.out.2.2.2.1 SM.out.2.2.2.2.1 SM.out.2.2.2.2.2 (by unfold small; omega) (by unfold small; omega)).mono ?_; rintro e w7 ⟨rfl, hb7⟩; have B7 : Hid (Below wr.heap.size wr w7) := (((Below.refl wr.heap.size wr).alloc (Nat.le_refl _) _).drew).trans (hb7.mono (by simp)); have x0 : w7.cell? ⟨wr.heap.size, 0, none⟩ = some (.int .i64 X) := (hb7.cell (p := ⟨wr.heap.size, 0, none⟩) (by simp)).trans (by simp [go_sem]); have x1 : w7.cell? ⟨wr.heap.size, 1, none⟩ = some (.int .i64 Y) := (hb7.cell (p := ⟨wr.heap.size, 1, none⟩) (by simp)).trans (by simp [go_sem]); have x2 : w7.cell? ⟨wr.heap.size, 2, none⟩ = some (.int .i64 (bn (dst R s k).1 k)) := (hb7.cell (p := ⟨wr.heap.size, 2, none⟩) (by simp)).trans (by simp [go_sem]); have x3 : w7.cell? ⟨wr.heap.size, 3, none⟩ = some (.int .i64 (bn s 4)) := (hb7.cell (p := ⟨wr.heap.size, 3, none⟩) (by simp)).trans (by simp [go_sem]); have r7 := KR.out.below B7.out; have KR7 : Hid (RoomAt w7 b0 0 (rBytes R (bn s 1) (dst R s k).1)) := r7; have l7 := r7.lt; have qc7 := (B7.out.cell (p := ⟨b0, 20 + bn s 2, none⟩) qlr).trans qc'; have qt7 := (B7.out.cell (p := ⟨b0, bn s 3 * 2 + 1, none⟩) qlr).trans qt'; have z77 : wr.heap.size < w7.heap.size := (by have := hb7.size; simp at this; omega); clear hb7 r7))
        go_roundw
        case rel =>
          refine ⟨k + 1, by omega, by go_num, ?_, ?_, KO.out.trans (Only.of_below (F := fun x => x = b0) B7.out) (fun _ g => .inl g)⟩
          · rw [dst_no (by rw [HDP.out]; simp [hcv'])]
          · rw [dst_no (by rw [HDP.out]; simp [hcv'])]; exact KR7.out
        case measure => simp [intOf]; omega
    · have e : k = (R.bs (bn s 1)).length := by omega
      have k1 : ¬ (k : Int) < sb.size := by omega
      subst e
      clear hRo hO hsb
      go_wp2
      go_ret2
      exact ⟨rfl, (Only.of_below B6.out).trans KO.out (fun _ g => .inl g), KR.out⟩

end Go.Proofs.Ytbedkfgdhaajaab
