/- Walks: picture (package tenantskeep). -/
import Derived.Test.YtbedkfgdhaajaabPicWalk
namespace Go.Proofs.Ytbedkfgdhaajaab
open Go.RowKit

/-- k pixels are done -/
def PI (R : Rm) (m : List UInt8) (N b : Nat) (W1 wr : World) (k : Nat) : Prop := Only (fun x => x = b) W1 wr ∧ BS wr (some ⟨b, 0, none⟩) N (dst R m k).1

set_option maxRecDepth 8000 in
set_option maxHeartbeats 2000000 in
theorem picture_any (R : Rm) (m : List UInt8) (wd hg : Nat) (xa ya xb yb xc yc col : Int) (code tx : ByteArray) (w : World) (h : PicOk R m wd hg xa ya xb yb xc yc col code tx) :
    Calls Try.prog 21 #[.int .i64 wd, .int .i64 hg, .agg #[.int .i64 xa, .int .i64 ya, .int .i64 xb, .int .i64 yb, .int .i64 xc, .int .i64 yc], .string code, .int .i64 col, .string tx] w fun e w' =>
      e = .returned (.tuple #[.string (str (dst R m (wd * hg)).1), .int .i64 (dst R m (wd * hg)).2, .bool true]) ∧ Below w.heap.size w w' := by
  have HP : Hid (PicOk R m wd hg xa ya xb yb xc yc col code tx) := h
  obtain ⟨w1, w2⟩ := h.w1
  obtain ⟨g1, g2⟩ := h.h1
  have hmm := mul15 h.w1 h.h1
  have hmk : ∀ w : World, (Instr.makeSlice 51 (.int .i64 ((wd : Int) * (hg : Int))) (.int .i64 ((wd : Int) * (hg : Int)))).run Try.prog w = .ok (.slice (some ⟨w.heap.size, 0, none⟩) (wd * hg) (wd * hg)) (w.alloc (.cells (madeCells #[.int .u8 0] (wd * hg)) 5)) := fun w => by
    have := run_make_row' (P := Try.prog) 51 5 (.int .u8 0) 1 Try.underlying51 info_byte rfl .i64 .i64 (wd * hg) (by omega) (by omega) w
    rw [Int.natCast_mul] at this
    exact this
  have m1 : (0 : Int) ≤ (wd : Int) * hg := by rw [← Int.natCast_mul]; omega
  have m2 : (wd : Int) * hg ≤ 225 := by rw [← Int.natCast_mul]; omega
  obtain ⟨N, hN⟩ : ∃ N, wd * hg = N := ⟨_, rfl⟩
  have HN : Hid (wd * hg = N) := hN
  have hN2 : N ≤ 225 := by omega
  have hcl := h.cl
  have hc0 : 0 ≤ col ∧ col ≤ 255 := by have := bn_le m 4; omega
  have HC0 : Hid (0 ≤ col ∧ col ≤ 255) := hc0
  rw [hN] at hmk ⊢
  have HST : Hid (BS ((w.alloc (.cells #[.int .i64 xa, .int .i64 ya, .int .i64 xb, .int .i64 yb, .int .i64 xc, .int .i64 yc] 50)).alloc (.cells (madeCells #[.int .u8 0] N) 5)) (some ⟨w.heap.size + 1, 0, none⟩) N (dst R m 0).1) := by
    have := bs_made (w.alloc (.cells #[.int .i64 xa, .int .i64 ya, .int .i64 xb, .int .i64 yb, .int .i64 xc, .int .i64 yc] 50)) 5 N (by unfold maxLen; omega)
    rw [World.size_alloc] at this
    have e : (dst R m 0).1 = zeros N := by show R.bs (bn m 1) = zeros N; rw [h.bs, hN]
    rw [e]
    exact this
  have HTR : Hid (TC ((w.alloc (.cells #[.int .i64 xa, .int .i64 ya, .int .i64 xb, .int .i64 yb, .int .i64 xc, .int .i64 yc] 50)).alloc (.cells (madeCells #[.int .u8 0] N) 5)) w.heap.size xa ya xb yb xc yc) := (TC.new w _ _ _ _ _ _ _).below ((Below.refl _ _).alloc (Nat.le_refl _) _)
  have HBL : Hid (Below w.heap.size w ((w.alloc (.cells #[.int .i64 xa, .int .i64 ya, .int .i64 xb, .int .i64 yb, .int .i64 xc, .int .i64 yc] 50)).alloc (.cells (madeCells #[.int .u8 0] N) 5))) := ((Below.refl _ _).alloc (Nat.le_refl _) _).alloc (by simp) _
  have HLEN : Hid (∀ k, (dst R m k).1.length = N) := fun k => by rw [dst_len, h.bs, ← hN]; simp [zeros]
  clear h hN hcl hc0 hmm
  go_enter Try.func21, Try.ntmps21
  go_wp2
  obtain ⟨W1, hW1⟩ : ∃ W1, W1 = ((w.alloc (.cells #[.int .i64 xa, .int .i64 ya, .int .i64 xb, .int .i64 yb, .int .i64 xc, .int .i64 yc] 50)).alloc (.cells (madeCells #[.int .u8 0] N) 5)) := ⟨_, rfl⟩
  rw [← hW1] at HST HTR HBL ⊢
  have HS1 : Hid (W1.heap.size = w.heap.size + 2) := (by have h : W1.heap.size = w.heap.size + 2 := (by rw [hW1]; simp); exact h)
  clear hW1 hmk
  go_loopw [16, 17, 18, 19, 20, 21, 22, 23] (fun c y _ _ _ _ _ _ wr => ∃ Y : Nat, Y ≤ hg ∧ y = .int .i64 Y ∧ c = .int .i64 (dst R m (wd * Y)).2 ∧ PI R m N (w.heap.size + 1) W1 wr (wd * Y)) (fun _ y _ _ _ _ _ _ _ => hg - (intOf y).toNat)
  case atStart => exact ⟨0, by omega, rfl, rfl, Only.refl _ _, HST.out⟩
  case round =>
    obtain ⟨Y, hY, rfl, rfl, hP⟩ := hrel
    have KP : Hid (PI R m N (w.heap.size + 1) W1 wr (wd * Y)) := hP
    by_cases hlt : Y < hg
    · have y1 : (Y : Int) < hg := by omega
      have hwy : wd * Y + wd ≤ N := by rw [← HN.out, ← Nat.mul_succ]; exact Nat.mul_le_mul_left _ hlt
      obtain ⟨T, hT⟩ : ∃ T, wd * Y = T := ⟨_, rfl⟩
      have HT : Hid (wd * Y = T) := hT
      rw [hT] at hwy ⊢
      have KP' : Hid (PI R m N (w.heap.size + 1) W1 wr T) := by rw [← hT]; exact KP.out
      have eT : (wd : Int) * (Y : Int) = (T : Int) := by rw [← hT, Int.natCast_mul]
      have y24 : Y < 24 := by omega
      clear hP KP hT
      go_wp2
      go_loopw [16, 18, 19, 20, 21, 22, 23] (fun c x _ _ _ _ _ wr => ∃ X : Nat, X ≤ wd ∧ x = .int .i64 X ∧ c = .int .i64 (dst R m (T + X)).2 ∧ PI R m N (w.heap.size + 1) W1 wr (T + X)) (fun _ x _ _ _ _ _ _ => wd - (intOf x).toNat)
      case atStart => exact ⟨0, by omega, rfl, rfl, KP'.out⟩
      case round =>
        obtain ⟨X, hX, rfl, rfl, hP⟩ := hrel
        have KP : Hid (PI R m N (w.heap.size + 1) W1 wr (T + X)) := hP
        by_cases hlx : X < wd
        · have x1 : (X : Int) < wd := by omega
          have htc := HTR.out.only hP.1 (by omega)
          obtain ⟨zt, t0, t1, t2, t3, t4, t5⟩ := htc
          obtain ⟨hO, hS⟩ := hP
          have KO : Hid (Only (fun x => x = w.heap.size + 1) W1 wr) := hO
          have KS : Hid (BS wr (some ⟨w.heap.size + 1, 0, none⟩) N (dst R m (T + X)).1) := hS
          obtain ⟨e1, e2⟩ := HP.out.px (y := Y) hlx
          rw [HT.out] at e1 e2
          obtain ⟨cv, hcv⟩ : ∃ cv, cov xa ya xb yb xc yc X Y = cv := ⟨_, rfl⟩
          obtain ⟨v, hv⟩ : ∃ v, (sh code tx 64 (reg0 X Y 0 col) 0).1 = v := ⟨_, rfl⟩
          obtain ⟨n, hn⟩ : ∃ n, (sh code tx 64 (reg0 X Y 0 col) 0).2 = n := ⟨_, rfl⟩
          have hsb4 := sh_bd code tx 64 (reg0 X Y 0 col) 0 (Nat.le_refl _)
          rw [hv, hn] at hsb4
          obtain ⟨v0, v1, n0, n1⟩ := hsb4
          have hcb := dst_bd R m (T + X)
          obtain ⟨cst, hcst⟩ : ∃ cst, (dst R m (T + X)).2 = cst := ⟨_, rfl⟩
          rw [hcst] at hcb ⊢
          have KB : Hid (0 ≤ cst ∧ cst ≤ 40000) := (⟨by omega, by omega⟩ : 0 ≤ cst ∧ cst ≤ 40000)
          have HCV : Hid (cov xa ya xb yb xc yc X Y = cv) := hcv
          have HV : Hid ((sh code tx 64 (reg0 X Y 0 col) 0).1 = v) := hv
          have HNN : Hid ((sh code tx 64 (reg0 X Y 0 col) 0).2 = n) := hn
          have EY : Hid (cv = true → dst R m (T + X + 1) = ((dst R m (T + X)).1.set (T + X) (UInt8.ofNat v.toNat), cst + 1 + n)) := by
            have : cv = true → dst R m (T + X + 1) = ((dst R m (T + X)).1.set (T + X) (UInt8.ofNat v.toNat), cst + 1 + n) := fun q => by
              rw [dst_yes (by rw [e1, hcv]; exact q), e2, hv, hn, hcst]
            exact this
          have EN : Hid (cv = false → dst R m (T + X + 1) = dst R m (T + X)) := by
            have : cv = false → dst R m (T + X + 1) = dst R m (T + X) := fun q => dst_no (by rw [e1, hcv, q]; simp)
            exact this
          have HCST : Hid ((dst R m (T + X)).2 = cst) := hcst
          clear hO hS e1 e2 hcv hv hn hcst hcb
          cases cv
          · go_wp2_with (first
              | (go_at_call 30; refine (tcover_at _ _ _ _ _ _ X Y _ _ HP.out.na HP.out.nb HP.out.nc (by omega) (by omega) HCV.out).mono ?_; rintro e w6 ⟨rfl, hb6⟩; have B6 : Hid (Below wr.heap.size wr w6) := hb6; clear hb6)
              | (go_at_call 31; refine (tshade_at _ X Y _ _ v n _ _ HP.out.vr HP.out.ts (by omega) (by omega) rfl HC0.out HV.out HNN.out).mono ?_; rintro e w7 ⟨rfl, hb7⟩; have B7 : Hid (Below wr.heap.size wr w7) := B6.out.trans (hb7.mono B6.out.size); clear hb7))
            go_roundw
            case rel =>
              have ed := EN.out (by simp)
              refine ⟨X + 1, by omega, by go_num, ?_, ?_⟩
              · rw [← Nat.add_assoc, ed, HCST.out]
              · rw [← Nat.add_assoc]
                unfold PI
                rw [ed]
                exact ⟨KO.out.trans (Only.of_below (F := fun x => x = w.heap.size + 1) B7.out) (fun _ g => .inl g), KS.out.below B7.out⟩
            case measure => simp [intOf]; omega
          · have i0 : (0 : Int) ≤ (T : Int) + X := by omega
            have i1 : (T : Int) + X < N := by omega
            go_wp2_with (first
              | (go_at_call 30; refine (tcover_at _ _ _ _ _ _ X Y _ _ HP.out.na HP.out.nb HP.out.nc (by omega) (by omega) HCV.out).mono ?_; rintro e w6 ⟨rfl, hb6⟩; have B6 : Hid (Below wr.heap.size wr w6) := hb6; clear hb6)
              | (go_at_call 31; refine (tshade_at _ X Y _ _ v n _ _ HP.out.vr HP.out.ts (by omega) (by omega) rfl HC0.out HV.out HNN.out).mono ?_; rintro e w7 ⟨rfl, hb7⟩; have B7 : Hid (Below wr.heap.size wr w7) := B6.out.trans (hb7.mono B6.out.size); have KS7 : Hid (BS w7 (some ⟨w.heap.size + 1, 0, none⟩) N (dst R m (T + X)).1) := KS.out.below B7.out; have z7 := (KS7.out.hpl _ rfl).2; have s7 := KS7.out.hce _ rfl (T + X) (by rw [HLEN.out]; omega); have r7 := (KS7.out.hro _ rfl (T + X) (by omega)).2; simp only [Nat.zero_add] at z7 s7 r7; clear hb7))
            go_roundw
            case rel =>
              have ed := EY.out (by simp)
              refine ⟨X + 1, by omega, by go_num, ?_, ?_⟩
              · rw [← Nat.add_assoc, ed]; exact congrArg (Value.int .i64) (by have := KB.out; first | rfl | omega | (unfold wrap64; omega))
              · rw [← Nat.add_assoc]
                unfold PI
                rw [ed]
                refine ⟨(KO.out.trans (Only.of_below (F := fun x => x = w.heap.size + 1) B7.out) (fun _ g => .inl g)).setCell (.inl rfl) _, ?_⟩
                have := KS7.out.set (j := T + X) (by rw [HLEN.out]; omega) (UInt8.ofNat v.toNat) (v := v) (by simp; omega)
                rw [Nat.zero_add] at this
                exact this
            case measure => simp [intOf]; omega
        · have e : X = wd := by omega
          have x1 : ¬ (X : Int) < wd := by omega
          subst e
          clear hP
          go_wp2
          go_roundw
          case rel =>
            refine ⟨Y + 1, by omega, by go_num, ?_, ?_⟩
            · rw [Nat.mul_succ, HT.out]
            · rw [Nat.mul_succ, HT.out]; exact KP.out
          case measure => simp [intOf]; omega
    · have e : Y = hg := by omega
      have y1 : ¬ (Y : Int) < hg := by omega
      have hcv := run_string_bs (P := Try.prog) hP.2 51 9 5 Try.underlying51 Try.underlying5 Try.underlying9
      rw [HLEN.out] at hcv
      have HE : Hid (wd * Y = N) := by rw [e]; exact HN.out
      clear hP e
      go_wp2
      go_ret3
      rw [HE.out]
      refine ⟨rfl, ?_⟩
      have := KP.out.1
      exact HBL.out.trans (this.below HBL.out.size (fun x hx => by rw [hx]; omega))

end Go.Proofs.Ytbedkfgdhaajaab
