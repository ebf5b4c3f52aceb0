/- Rows.PaintedSaid (P3, P5, P12, P13): the walk of the statement. -/
import Derived.Test.YtbedkfgdhaajaabPaintKit
namespace Go.Proofs.Ytbedkfgdhaajaab
open Go.RowKit

set_option maxRecDepth 8000 in
set_option maxHeartbeats 16000000 in
theorem painted_walk (x y xa ya xb yb xc yc cl : Int) (c0 s0 : ByteArray) (W : World) (bx : i64r x) (by_ : i64r y) (b1 : i64r xa) (b2 : i64r ya) (b3 : i64r xb) (b4 : i64r yb) (b5 : i64r xc) (b6 : i64r yc) (bc : i64r cl) (hc0 : c0.size ≤ maxLen) (hs0 : s0.size ≤ maxLen) :
    Calls Try.prog 5 #[.int .i64 x, .int .i64 y, .agg #[.int .i64 xa, .int .i64 ya, .int .i64 xb, .int .i64 yb, .int .i64 xc, .int .i64 yc], .string c0, .int .i64 cl, .string s0] W fun e w' => e = .returned (.bool true) ∧ Below W.heap.size W w' := by
  have HX : Hid (-9223372036854775808 ≤ x ∧ x ≤ 9223372036854775807) := bx
  have HY : Hid (-9223372036854775808 ≤ y ∧ y ≤ 9223372036854775807) := by_
  have HL : Hid (-9223372036854775808 ≤ cl ∧ cl ≤ 9223372036854775807) := bc
  have BB : Hid (i64r xa ∧ i64r ya ∧ i64r xb ∧ i64r yb ∧ i64r xc ∧ i64r yc) := ⟨b1, b2, b3, b4, b5, b6⟩
  have p01 := pck_bd (c := x) (n := 15) (by omega)
  have q01 := pck_bd (c := y) (n := 15) (by omega)
  have k01 := pck_bd (c := cl) (n := 256) (by omega)
  obtain ⟨A, hA⟩ : ∃ A : Nat, pck x 15 = (A : Int) := ⟨(pck x 15).toNat, by omega⟩
  obtain ⟨B, hB⟩ : ∃ B : Nat, pck y 15 = (B : Int) := ⟨(pck y 15).toNat, by omega⟩
  obtain ⟨K, hK⟩ : ∃ K : Nat, pck cl 256 = (K : Int) := ⟨(pck cl 256).toNat, by omega⟩
  have HA : Hid (pck x 15 = (A : Int)) := hA
  have HB : Hid (pck y 15 = (B : Int)) := hB
  have HK : Hid (pck cl 256 = (K : Int)) := hK
  have a1 : A ≤ 14 := by omega
  have b1' : B ≤ 14 := by omega
  have k1 : K ≤ 255 := by omega
  unfold maxLen at hc0 hs0
  clear hA hB hK p01 q01 k01 bx by_ bc b1 b2 b3 b4 b5 b6
  go_enter Try.func5, Try.ntmps5
  go_upto_if 45 with (first
    | (go_at_call 7; refine (begun_any _).mono ?_; rintro e w0 ⟨g, G, rfl, hb0, hs0', hf0⟩; have S0 : Hid (StT W w0 g (one gNew) W.heap.size xa ya xb yb xc yc) := StT.start hb0 hs0' hf0; clear hb0 hs0' hf0)
    | (go_at_call 11; refine (kpick_as _ _ _ _ HX.out (by omega) (by omega) HA.out).mono ?_; rintro e w6 ⟨rfl, w6e⟩; subst w6; clear HX)
    | (go_at_call 11; refine (kpick_as _ _ _ _ HY.out (by omega) (by omega) HB.out).mono ?_; rintro e w6 ⟨rfl, w6e⟩; subst w6; clear HY)
    | (go_at_call 11; refine (kpick_as _ _ _ _ HL.out (by omega) (by omega) HK.out).mono ?_; rintro e w6 ⟨rfl, w6e⟩; subst w6; clear HL))
  go_cut [5] (fun s wc => (∃ sv : ByteArray, s = .string sv ∧ sv.size ≤ 24) ∧ wc = w0)
  case first =>
    by_cases h : 24 < s0.size
    · have h1 : (24 : Int) < s0.size := by omega
      go_wp2
      go_meet
      case rel => exact ⟨⟨_, rfl, by simp [ByteArray.size_extract]; omega⟩, rfl⟩
    · have h1 : ¬ (24 : Int) < s0.size := by omega
      go_wp2
      go_meet
      case rel => exact ⟨⟨_, rfl, by omega⟩, rfl⟩
  case rest =>
    obtain ⟨⟨s, rfl, hs⟩, rfl⟩ := hcut
    obtain ⟨n, hn⟩ : ∃ n, s.size + n = 24 := ⟨24 - s.size, by omega⟩
    have e24 : (24 : Int) - (s.size : Int) = (n : Int) := by omega
    have hmk : ∀ w : World, (Instr.makeSlice 51 (.int .i64 (n : Int)) (.int .i64 (n : Int))).run Try.prog w = .ok (.slice (some ⟨w.heap.size, 0, none⟩) n n) (w.alloc (.cells (madeCells #[.int .u8 0] n) 5)) := fun w =>
      run_make_row' (P := Try.prog) 51 5 (.int .u8 0) 1 Try.underlying51 info_byte rfl .i64 .i64 n (by omega) (by omega) w
    obtain ⟨zn, hzn⟩ : ∃ zn, str (zeros n) = zn := ⟨_, rfl⟩
    have hcv := run_string_bs (P := Try.prog) (bs_made wc 5 n (by unfold maxLen; omega)) 51 9 5 Try.underlying51 Try.underlying5 Try.underlying9
    rw [hzn, show (zeros n).length = n from List.length_replicate] at hcv
    obtain ⟨sl, hsl⟩ : ∃ sl, str sl = s := ⟨s.data.toList, rfl⟩
    have hslz : sl.length = s.size := by rw [← hsl, str_size]
    obtain ⟨tx, htx⟩ : ∃ tx, s ++ zn = tx := ⟨_, rfl⟩
    have HTX : Hid (str (wrt (zeros 24) 0 sl) = tx) := by
      have e : str (wrt (zeros 24) 0 sl) = tx := by rw [wrt_pad (n := n) (by omega), ← str_app, hsl, hzn, htx]
      exact e
    have HSL : Hid (str sl = s) := hsl
    have HSZ : Hid (sl.length = s.size) := hslz
    have zz : (zn.size : Int) ≤ 24 := by rw [← hzn, str_size]; simp [zeros]; omega
    clear hzn hsl hslz hn
    go_upto_if 57 with (fail)
    go_cut [3] (fun c wd => (∃ cv : ByteArray, c = .string cv ∧ cv.size ≤ 128) ∧ wd = wc.alloc (.cells (madeCells #[.int .u8 0] n) 5))
    case first =>
      by_cases h : 128 < c0.size
      · have h1 : (128 : Int) < c0.size := by omega
        go_wp2
        go_meet
        case rel => exact ⟨⟨_, rfl, by simp [ByteArray.size_extract]; omega⟩, rfl⟩
      · have h1 : ¬ (128 : Int) < c0.size := by omega
        go_wp2
        go_meet
        case rel => exact ⟨⟨_, rfl, by omega⟩, rfl⟩
    case rest =>
      obtain ⟨⟨c1, rfl, hc1⟩, hw3⟩ := hcut
      have S3 : Hid (StT W wc g (one gNew) W.heap.size xa ya xb yb xc yc) := by rw [hw3]; exact S0.out.alloc _
      obtain ⟨q, hq⟩ : ∃ q : Nat, c1.size / 4 = q := ⟨_, rfl⟩
      have eq4 : (c1.size : Int) / 4 = (q : Int) := by omega
      have q0 : (0 : Int) ≤ (q : Int) * 4 := by omega
      have q1 : (q : Int) * 4 ≤ (c1.size : Int) := by omega
      have q2 : (q : Int) ≤ 32 := by omega
      obtain ⟨hz, t0, t1, t2, t3, t4, t5⟩ := S3.out.tc
      obtain ⟨Xa, hXa⟩ : ∃ Xa, plk xa = Xa := ⟨_, rfl⟩
      obtain ⟨Ya, hYa⟩ : ∃ Ya, plk ya = Ya := ⟨_, rfl⟩
      obtain ⟨Xb, hXb⟩ : ∃ Xb, plk xb = Xb := ⟨_, rfl⟩
      obtain ⟨Yb, hYb⟩ : ∃ Yb, plk yb = Yb := ⟨_, rfl⟩
      obtain ⟨Xc, hXc⟩ : ∃ Xc, plk xc = Xc := ⟨_, rfl⟩
      obtain ⟨Yc, hYc⟩ : ∃ Yc, plk yc = Yc := ⟨_, rfl⟩
      have PL : Hid (plk xa = Xa ∧ plk ya = Ya ∧ plk xb = Xb ∧ plk yb = Yb ∧ plk xc = Xc ∧ plk yc = Yc) := ⟨hXa, hYa, hXb, hYb, hXc, hYc⟩
      have PB : Hid ((-2048 ≤ Xa ∧ Xa ≤ 2047) ∧ (-2048 ≤ Ya ∧ Ya ≤ 2047) ∧ (-2048 ≤ Xb ∧ Xb ≤ 2047) ∧ (-2048 ≤ Yb ∧ Yb ≤ 2047) ∧ (-2048 ≤ Xc ∧ Xc ≤ 2047) ∧ (-2048 ≤ Yc ∧ Yc ≤ 2047)) := by
        rw [← hXa, ← hYa, ← hXb, ← hYb, ← hXc, ← hYc]
        exact (⟨plk_bd _, plk_bd _, plk_bd _, plk_bd _, plk_bd _, plk_bd _⟩ : (-2048 ≤ plk xa ∧ plk xa ≤ 2047) ∧ (-2048 ≤ plk ya ∧ plk ya ≤ 2047) ∧ (-2048 ≤ plk xb ∧ plk xb ≤ 2047) ∧ (-2048 ≤ plk yb ∧ plk yb ≤ 2047) ∧ (-2048 ≤ plk xc ∧ plk xc ≤ 2047) ∧ (-2048 ≤ plk yc ∧ plk yc ≤ 2047))
      clear hw3 S0 hs0 hc0 hXa hYa hXb hYb hXc hYc htx hmk hcv
      go_upto_region 13 with (fail)
      have hcz0 : (c1.extract 0 (q * 4)).size = q * 4 := by rw [ByteArray.size_extract]; omega
      generalize c1.extract 0 (q * 4) = cd at hcz0 ⊢
      obtain ⟨cl_, hcl⟩ : ∃ cl_, str cl_ = cd := ⟨cd.data.toList, rfl⟩
      have HCL : Hid (str cl_ = cd) := hcl
      have HCZ : Hid (cl_.length = q * 4) := by rw [← str_size, hcl]; exact hcz0
      have hcz : (cd.size : Int) = (q : Int) * 4 := by omega
      clear hcl hcz0 eq4 q1 hc1
      go_cut [12] (fun r wd => r = .bool false ∧ StT W wd g (one gNew) W.heap.size Xa Ya Xb Yb Xc Yc)
      case first =>
        go_region_with (first
          | (go_at_call_has 18 xa; refine (kplace_any xa ya Xa Ya _ BB.out.1 BB.out.2.1 PL.out.1 PL.out.2.1).mono ?_; rintro e w4 ⟨rfl, hb4⟩; have S4 : Hid (StT W w4 g (one gNew) W.heap.size xa ya xb yb xc yc) := S3.out.drew.below hb4; obtain ⟨z4, e0, e1, e2, e3, e4, e5⟩ := S4.out.tc; clear hb4)
          | (go_at_call_has 18 xb; refine (kplace_any xb yb Xb Yb _ BB.out.2.2.1 BB.out.2.2.2.1 PL.out.2.2.1 PL.out.2.2.2.1).mono ?_; rintro e w5 ⟨rfl, hb5⟩; have S5 : Hid (StT W w5 g (one gNew) W.heap.size xa ya xb yb xc yc) := S4.out.below hb5; obtain ⟨z5, f0, f1, f2, f3, f4, f5⟩ := S5.out.tc; clear hb5)
          | (go_at_call_has 18 xc; refine (kplace_any xc yc Xc Yc _ BB.out.2.2.2.2.1 BB.out.2.2.2.2.2 PL.out.2.2.2.2.1 PL.out.2.2.2.2.2).mono ?_; rintro e w6 ⟨rfl, hb6⟩; have S6 : Hid (StT W w6 g (one gNew) W.heap.size xa ya xb yb xc yc) := S5.out.below hb6; obtain ⟨z6, g0, g1, g2, g3, g4, g5⟩ := S6.out.tc; have gf := S6.out.fz; clear hb6))
        all_goals
          go_wp2
          go_meet
          case rel => exact ⟨rfl, S6.out.lay Xa Ya Xb Yb Xc Yc⟩
      case rest =>
        obtain ⟨rfl, hst⟩ := hcut
        have S7 : Hid (StT W wc g (one gNew) W.heap.size Xa Ya Xb Yb Xc Yc) := hst
        have hz2 := hst.tc.1
        obtain ⟨m1, m2⟩ := mul24 (a := 1 + (A : Int)) (b := 1 + (B : Int)) (by omega) (by omega)
        have hA15 : 1 ≤ 1 + A ∧ 1 + A ≤ 15 := by omega
        have hB15 : 1 ≤ 1 + B ∧ 1 + B ≤ 15 := by omega
        have OK1 : Hid (okR (rCreate gNew.rm 1 (1 + A) (1 + B))) := ok1 hA15 hB15
        have OK2 : Hid (okR (R2 (1 + A) (1 + B))) := ok2 hA15 hB15
        have CT : Hid (can (rCreate gNew.rm 1 (1 + A) (1 + B)).bs 2 24 1 = 0) := can_two hA15 hB15
        clear hst hA15 hB15
        have dq : (cd.size : Int) / 4 = (q : Int) := by omega
        have HSV : Hid (str (byts [3, 2, 0, 0, (s.size : Int)] ++ sl) = str (byts [3, 2, 0, 0, (s.size : Int)]) ++ s) := by rw [← HSL.out, ← str_app]; exact (rfl : str (byts [3, 2, 0, 0, _]) ++ str sl = _)
        have PR : Hid (wrt ((R2 (1 + A) (1 + B)).bs 2) 0 sl = wrt (zeros 24) 0 sl) := (rfl : wrt ((R2 (1 + A) (1 + B)).bs 2) 0 sl = wrt (zeros 24) 0 sl)
        have LS : Hid ((s.size : Int) = sl.length) := (by have := HSZ.out; omega : (s.size : Int) = sl.length)
        have sz5 : ((str (byts [3, 2, 0, 0, (s.size : Int)])).size : Int) = 5 := by rw [str_size]; rfl
        have sz3 : ((str (byts [5, 3, (q : Int)])).size : Int) = 3 := by rw [str_size]; rfl
        go_upto_region 20 with (first
          | (go_at_call_has 8 (4 : Nat); refine (text4 1 1 _ _ _ _ _ rfl ⟨by omega, by omega⟩ ⟨by omega, by omega⟩ ⟨by omega, by omega⟩ ⟨by omega, by omega⟩).mono ?_; rintro e w8 ⟨rfl, hb8⟩; have S8 : Hid (StT W w8 g (one gNew) W.heap.size Xa Ya Xb Yb Xc Yc) := S7.out.below hb8; clear hb8 S7)
          | (go_at_call 9; refine (S8.out.call (fun G q => create_pos G g _ 1 (1 + (A : Int)) (1 + (B : Int)) _ 1 (1 + A) (1 + B) _ _ _ q (by omega) rfl rfl (by omega) (by omega) (by omega) (by omega) ⟨by omega, by omega⟩ ⟨by omega, by omega⟩ rfl)).mono ?_; rintro e w9 ⟨rfl, hs9⟩; have S9 : Hid (StT W w9 g (one (gI (rCreate gNew.rm 1 (1 + A) (1 + B)))) W.heap.size Xa Ya Xb Yb Xc Yc) := hs9; clear hs9 S8)
          | (go_at_call_has 8 (4 : Nat); refine (text4 1 2 _ _ _ _ _ rfl ⟨by omega, by omega⟩ ⟨by omega, by omega⟩ ⟨by omega, by omega⟩ ⟨by omega, by omega⟩).mono ?_; rintro e w10 ⟨rfl, hb10⟩; have S10 : Hid (StT W w10 g (one (gI (rCreate gNew.rm 1 (1 + A) (1 + B)))) W.heap.size Xa Ya Xb Yb Xc Yc) := S9.out.below hb10; clear hb10 S9)
          | (go_at_call 9; refine (S10.out.call (fun G q => asked_create G g _ _ 2 24 1 _ 2 24 1 _ _ _ q OK1.out (by omega) rfl rfl (by omega) (by omega) (by omega) (by omega) ⟨by omega, by omega⟩ ⟨by omega, by omega⟩ CT.out (by omega))).mono ?_; rintro e w11 ⟨rfl, hs11⟩; have S11 : Hid (StT W w11 g (one (gI (R2 (1 + A) (1 + B)))) W.heap.size Xa Ya Xb Yb Xc Yc) := hs11; clear hs11 S10)
          | (go_at_call_has 8 (5 : Nat); refine (text5 3 2 0 0 _ _ _ _ rfl ⟨by omega, by omega⟩ ⟨by omega, by omega⟩ ⟨by omega, by omega⟩ ⟨by omega, by omega⟩ ⟨by omega, by omega⟩).mono ?_; rintro e w12 ⟨rfl, hb12⟩; have S12 : Hid (StT W w12 g (one (gI (R2 (1 + A) (1 + B)))) W.heap.size Xa Ya Xb Yb Xc Yc) := S11.out.below hb12; clear hb12 S11)
          | (go_at_call 9; refine (S12.out.call (fun G q => kwrite G g _ _ _ _ sl _ _ _ _ q OK2.out (by omega) HSV.out LS.out (by have := LS.out; omega) (by rw [R2_bs2]; simp [zeros]) PR.out rfl (by rw [LS.out]))).mono ?_; rintro e w13 ⟨rfl, hs13⟩; have S13 : Hid (StT W w13 g (one (gI (R3 (1 + A) (1 + B) sl))) W.heap.size Xa Ya Xb Yb Xc Yc) := hs13; clear hs13 S12)
          | (go_at_call_has 8 (3 : Nat); refine (text3 5 3 _ _ _ _ rfl ⟨by omega, by omega⟩ ⟨by omega, by omega⟩ ⟨by omega, by omega⟩).mono ?_; rintro e w14 ⟨rfl, hb14⟩; have S14 : Hid (StT W w14 g (one (gI (R3 (1 + A) (1 + B) sl))) W.heap.size Xa Ya Xb Yb Xc Yc) := S13.out.below hb14; clear hb14 S13))
        obtain ⟨v5, hv5⟩ : ∃ v5, str (byts [7, 1, 3, 2, (K : Int)]) = v5 := ⟨_, rfl⟩
        obtain ⟨sA, hsA⟩ : ∃ sA, str (c4 Xa Ya) = sA := ⟨_, rfl⟩
        obtain ⟨sB, hsB⟩ : ∃ sB, str (c4 Xb Yb) = sB := ⟨_, rfl⟩
        obtain ⟨sC, hsC⟩ : ∃ sC, str (c4 Xc Yc) = sC := ⟨_, rfl⟩
        have hl5 : v5.size = 5 := by rw [← hv5, str_size]; rfl
        have hlA : sA.size = 4 := by rw [← hsA, str_size]; rfl
        have hlB : sB.size = 4 := by rw [← hsB, str_size]; rfl
        have hlC : sC.size = 4 := by rw [← hsC, str_size]; rfl
        have HV5 : Hid (str (byts [7, 1, 3, 2, (K : Int)]) = v5) := hv5
        have HSA : Hid (str (c4 Xa Ya) = sA) := hsA
        have HSB : Hid (str (c4 Xb Yb) = sB) := hsB
        have HSC : Hid (str (c4 Xc Yc) = sC) := hsC
        obtain ⟨p1, hp1⟩ : ∃ p1, v5 ++ sA = p1 := ⟨_, rfl⟩
        obtain ⟨p2, hp2⟩ : ∃ p2, p1 ++ sB = p2 := ⟨_, rfl⟩
        obtain ⟨p3, hp3⟩ : ∃ p3, p2 ++ sC = p3 := ⟨_, rfl⟩
        have HDS : Hid (str (dcmd (K : Int) Xa Ya Xb Yb Xc Yc) = p3) := by rw [← hp3, ← hp2, ← hp1]; exact dcmd_str _ _ _ _ _ _ _ _ _ _ _ hv5 hsA hsB hsC
        have lp1 : p1.size = 9 := by rw [← hp1, ByteArray.size_append, hl5, hlA]
        have lp2 : p2.size = 13 := by rw [← hp2, ByteArray.size_append, lp1, hlB]
        have g1 : (9223372036854775807 < v5.size + sA.size) = False := eq_false (by omega)
        have g2 : (9223372036854775807 < p1.size + sB.size) = False := eq_false (by omega)
        have g3 : (9223372036854775807 < p2.size + sC.size) = False := eq_false (by omega)
        obtain ⟨y14, h0, h1, h2, h3, h4, h5⟩ := S14.out.tc
        clear hv5 hsA hsB hsC hl5 hlA hlB hlC lp1 lp2
        go_cut [22] (fun d wd => d = .string p3 ∧ StT W wd g (one (gI (R3 (1 + A) (1 + B) sl))) W.heap.size Xa Ya Xb Yb Xc Yc)
        case first =>
          go_region_held3 (fun V => V.cell? ⟨W.heap.size, 0, none⟩ = some (.int .i64 Xa) ∧ V.cell? ⟨W.heap.size, 1, none⟩ = some (.int .i64 Ya) ∧ V.cell? ⟨W.heap.size, 2, none⟩ = some (.int .i64 Xb) ∧ V.cell? ⟨W.heap.size, 3, none⟩ = some (.int .i64 Yb) ∧ V.cell? ⟨W.heap.size, 4, none⟩ = some (.int .i64 Xc) ∧ V.cell? ⟨W.heap.size, 5, none⟩ = some (.int .i64 Yc)) (go_keep) (first
            | (go_at_call 8; refine (text5d 7 1 3 2 _ _ _ _ v5 rfl ⟨by omega, by omega⟩ ⟨by omega, by omega⟩ ⟨by omega, by omega⟩ ⟨by omega, by omega⟩ ⟨by omega, by omega⟩ HV5.out).mono ?_; rintro e w15 ⟨rfl, hb15⟩; have S15 : Hid (StT W w15 g (one (gI (R3 (1 + A) (1 + B) sl))) W.heap.size Xa Ya Xb Yb Xc Yc) := S14.out.below hb15; obtain ⟨y15, j0, j1, j2, j3, j4, j5⟩ := S15.out.tc; clear hb15)
            | (go_at_call_has 19 Xa; refine (kcorner_any Xa Ya sA _ PB.out.1 PB.out.2.1 HSA.out).mono ?_; rintro e w16 ⟨rfl, hb16⟩; have S16 : Hid (StT W w16 g (one (gI (R3 (1 + A) (1 + B) sl))) W.heap.size Xa Ya Xb Yb Xc Yc) := S15.out.below hb16; obtain ⟨y16, k0, k1, k2, k3, k4, k5⟩ := S16.out.tc; clear hb16)
            | (go_at_call_has 19 Xb; refine (kcorner_any Xb Yb sB _ PB.out.2.2.1 PB.out.2.2.2.1 HSB.out).mono ?_; rintro e w17 ⟨rfl, hb17⟩; have S17 : Hid (StT W w17 g (one (gI (R3 (1 + A) (1 + B) sl))) W.heap.size Xa Ya Xb Yb Xc Yc) := S16.out.below hb17; obtain ⟨y17, l0, l1, l2, l3, l4, l5⟩ := S17.out.tc; clear hb17)
            | (go_at_call_has 19 Xc; refine (kcorner_any Xc Yc sC _ PB.out.2.2.2.2.1 PB.out.2.2.2.2.2 HSC.out).mono ?_; rintro e w18 ⟨rfl, hb18⟩; have S18 : Hid (StT W w18 g (one (gI (R3 (1 + A) (1 + B) sl))) W.heap.size Xa Ya Xb Yb Xc Yc) := S17.out.below hb18; obtain ⟨y18, n0, n1, n2, n3, n4, n5⟩ := S18.out.tc; clear hb18))
          go_wp2
          go_meet
          case rel => exact ⟨rfl, S18.out⟩
        case rest =>
          obtain ⟨rfl, hst⟩ := hcut
          have S19 : Hid (StT W wc g (one (gI (R3 (1 + A) (1 + B) sl))) W.heap.size Xa Ya Xb Yb Xc Yc) := hst
          obtain ⟨y19, d0, d1, d2, d3, d4, d5⟩ := hst.tc
          have hA15 : 1 ≤ 1 + A ∧ 1 + A ≤ 15 := by omega
          have hB15 : 1 ≤ 1 + B ∧ 1 + B ≤ 15 := by omega
          have hK15 : 0 ≤ (K : Int) ∧ (K : Int) ≤ 255 := by omega
          have hmm := mul15 hA15 hB15
          have m3 : (1 + (A : Int)) * (1 + (B : Int)) ≤ 225 := by
            have e : (1 + (A : Int)) * (1 + (B : Int)) = (((1 + A) * (1 + B) : Nat) : Int) := by push_cast; rfl
            rw [e]; omega
          have HCC : Hid (cl_.length % 4 = 0 ∧ cl_.length ≤ 128) := (by have := HCZ.out; omega : cl_.length % 4 = 0 ∧ cl_.length ≤ 128)
          have HCM : Hid (str (ccmd cl_) = str (byts [5, 3, (q : Int)]) ++ cd) := by
            unfold ccmd
            rw [← str_app, HCL.out, show (cl_.length : Int) / 4 = (q : Int) from by have := HCZ.out; omega]
            exact (rfl : str (byts [5, 3, (q : Int)]) ++ cd = _)
          have HKK : Hid (0 ≤ (K : Int) ∧ (K : Int) ≤ 255) := hK15
          have OK3 : Hid (okR (R3 (1 + A) (1 + B) sl)) := ok3 hA15 hB15
          have HSZC : Hid (cd.size ≤ maxLen) := (by unfold maxLen; omega : cd.size ≤ maxLen)
          obtain ⟨va, hva⟩ : ∃ va, (ver cd).1 = va := ⟨_, rfl⟩
          obtain ⟨vb, hvb⟩ : ∃ vb, (ver cd).2 = vb := ⟨_, rfl⟩
          have HVA : Hid ((ver cd).1 = va) := hva
          have HVB : Hid ((ver cd).2 = vb) := hvb
          by_cases hv : va = 0
          · have dv : (va != 0) = false := by simp [hv]
            have hok : (ver (str cl_)).1 = 0 := by rw [HCL.out, hva]; exact hv
            have HOK : Hid ((ver (str cl_)).1 = 0) := hok
            have OK4 : Hid (okR (R4 (1 + A) (1 + B) sl cl_)) := ok4 hA15 hB15 hok HCC.out.2
            have D4 : Hid (der (R4 (1 + A) (1 + B) sl cl_) (dcmd (K : Int) Xa Ya Xb Yb Xc Yc) = 0) := der4 hK15 hA15 hB15 PB.out
            have hb1 : bn (dcmd (K : Int) Xa Ya Xb Yb Xc Yc) 1 = 1 := (dcmd_bytes hK15).2.2.1
            have hbs : ((R4 (1 + A) (1 + B) sl cl_).bs (bn (dcmd (K : Int) Xa Ya Xb Yb Xc Yc) 1)).length = (1 + A) * (1 + B) := by rw [hb1]; exact (List.length_replicate : (zeros ((1 + A) * (1 + B))).length = (1 + A) * (1 + B))
            obtain ⟨L, hL⟩ : ∃ L, (dst (R4 (1 + A) (1 + B) sl cl_) (dcmd (K : Int) Xa Ya Xb Yb Xc Yc) ((1 + A) * (1 + B))).1 = L := ⟨_, rfl⟩
            obtain ⟨cst, hcst⟩ : ∃ cst, (dst (R4 (1 + A) (1 + B) sl cl_) (dcmd (K : Int) Xa Ya Xb Yb Xc Yc) ((1 + A) * (1 + B))).2 = cst := ⟨_, rfl⟩
            obtain ⟨LS, hLS⟩ : ∃ LS, str L = LS := ⟨_, rfl⟩
            have hLl : L.length = (1 + A) * (1 + B) := by rw [← hL]; exact dst_length4 hb1 _
            have HLL : Hid (L.length = (1 + A) * (1 + B)) := hLl
            have HLS : Hid (str (dst (R4 (1 + A) (1 + B) sl cl_) (dcmd (K : Int) Xa Ya Xb Yb Xc Yc) ((1 + A) * (1 + B))).1 = LS) := by rw [hL]; exact hLS
            have HCST : Hid ((dst (R4 (1 + A) (1 + B) sl cl_) (dcmd (K : Int) Xa Ya Xb Yb Xc Yc) ((1 + A) * (1 + B))).2 = cst) := hcst
            have HC4 : Hid (dwC (R4 (1 + A) (1 + B) sl cl_) (dcmd (K : Int) Xa Ya Xb Yb Xc Yc) = cst ∧ dwR (R4 (1 + A) (1 + B) sl cl_) (dcmd (K : Int) Xa Ya Xb Yb Xc Yc) = rBytes (R4 (1 + A) (1 + B) sl cl_) 1 L) := by
              refine (⟨?_, ?_⟩ : _ ∧ _)
              · unfold dwC; rw [if_pos D4.out, hbs, hcst]
              · unfold dwR; rw [if_pos D4.out, hbs, hL, hb1]
            have PIC : Hid (PicOk (R4 (1 + A) (1 + B) sl cl_) (dcmd (K : Int) Xa Ya Xb Yb Xc Yc) (1 + A) (1 + B) Xa Ya Xb Yb Xc Yc (K : Int) cd tx) := by
              have h := pic4 (sl := sl) hK15 hA15 hB15 PB.out hok
              rw [HCL.out, HTX.out] at h
              exact h
            have OK5 : Hid (okR (rBytes (R4 (1 + A) (1 + B) sl cl_) 1 L)) := OK4.out.bytes (by rw [hLl]; exact (List.length_replicate : (zeros ((1 + A) * (1 + B))).length = (1 + A) * (1 + B)).symm)
            have HRD : Hid (str (0 :: rdb ((rBytes (R4 (1 + A) (1 + B) sl cl_) 1 L).bs 1) ((0 : Int) + 256 * 0).toNat ((1 + A) * (1 + B))) = (⟨#[0]⟩ : ByteArray) ++ LS) := by
              have e1 : (rBytes (R4 (1 + A) (1 + B) sl cl_) 1 L).bs 1 = L := rB1 _ _
              rw [e1, show ((0 : Int) + 256 * 0).toNat = 0 from rfl, ← hLl, rdb_whole, ← hLS]
              exact (str_app [0] L).symm
            have HPL : Hid (0 < ((rBytes (R4 (1 + A) (1 + B) sl cl_) 1 L).bs 1).length) := by
              have e1 : (rBytes (R4 (1 + A) (1 + B) sl cl_) 1 L).bs 1 = L := rB1 _ _
              rw [e1, hLl]; exact hmm.1
            have HNN : Hid ((1 + (A : Int)) * (1 + (B : Int)) = (((1 + A) * (1 + B) : Nat) : Int)) := by
              have e : (1 + (A : Int)) * (1 + (B : Int)) = (((1 + A) * (1 + B) : Nat) : Int) := by push_cast; rfl
              exact e
            have HN5 : Hid ((1 + A) * (1 + B) ≤ 255) := (by omega : (1 + A) * (1 + B) ≤ 255)
            have lsz : (LS.size : Int) ≤ 225 := by rw [← hLS, str_size, hLl]; omega
            clear hst hva hvb hv hmm hA15 hB15 hK15 hok hb1 hbs hL hcst hLS hLl
            go_wp2_with (first
              | (go_at_call_has 8 (5 : Nat); refine (text5 4 1 0 0 _ _ _ _ rfl ⟨by omega, by omega⟩ ⟨by omega, by omega⟩ ⟨by omega, by omega⟩ ⟨by omega, by omega⟩ ⟨by omega, by omega⟩).mono ?_; rintro e w20 ⟨rfl, hb20⟩; have S20 : Hid (StT W w20 g (one (gI (R3 (1 + A) (1 + B) sl))) W.heap.size Xa Ya Xb Yb Xc Yc) := S19.out.below hb20; clear hb20 S19)
              | (go_at_call 20; refine (tverify_at _ va vb _ HSZC.out HVA.out HVB.out).mono ?_; rintro e w21 ⟨rfl, hb21⟩; have S21 : Hid (StT W w21 g (one (gI (R3 (1 + A) (1 + B) sl))) W.heap.size Xa Ya Xb Yb Xc Yc) := S20.out.below hb21; obtain ⟨y21, b0, b1, b2, b3, b4, b5⟩ := S21.out.tc; clear hb21 S20)
              | (go_at_call 21; refine (picture_at (R4 (1 + A) (1 + B) sl cl_) (dcmd (K : Int) Xa Ya Xb Yb Xc Yc) (1 + A) (1 + B) _ _ _ _ _ _ _ _ _ _ _ LS cst _ PIC.out (by omega) (by omega) HLS.out HCST.out).mono ?_; rintro e w22 ⟨rfl, hb22⟩; have S22 : Hid (StT W w22 g (one (gI (R3 (1 + A) (1 + B) sl))) W.heap.size Xa Ya Xb Yb Xc Yc) := S21.out.below hb22; clear hb22 S21 PIC)
              | (go_at_call 9; refine (S22.out.call (fun G q => kcode_ok G g _ _ _ cl_ _ _ _ q OK3.out (by omega) HCM.out HCC.out.1 HCC.out.2 HOK.out rfl (by have := HCZ.out; omega))).mono ?_; rintro e w23 ⟨rfl, hs23⟩; have S23 : Hid (StT W w23 g (one (gI (R4 (1 + A) (1 + B) sl cl_))) W.heap.size Xa Ya Xb Yb Xc Yc) := hs23; clear hs23 S22)
              | (go_at_call 9; refine (S23.out.call (fun G q => kdraw G g _ _ _ _ 0 (K : Int) Xa Ya Xb Yb Xc Yc _ _ _ q OK4.out (by omega) HKK.out HDS.out (by rw [D4.out]; rfl) rfl HC4.out.1 HC4.out.2)).mono ?_; rintro e w24 ⟨rfl, hs24⟩; have S24 : Hid (StT W w24 g (one (gI (rBytes (R4 (1 + A) (1 + B) sl cl_) 1 L))) W.heap.size Xa Ya Xb Yb Xc Yc) := hs24; clear hs24 S23)
              | (go_at_call 9; refine (S24.out.call (fun G q => asked_read G g _ _ 1 0 0 _ _ 1 ((1 + A) * (1 + B)) _ _ _ q OK5.out (by omega) rfl (by omega) HNN.out (by omega) ⟨by omega, by omega⟩ ⟨by omega, by omega⟩ HN5.out HPL.out HRD.out (by rw [HNN.out]))).mono ?_; rintro e w25 ⟨rfl, hs25⟩; have S25 : Hid (StT W w25 g (one (gI (rBytes (R4 (1 + A) (1 + B) sl cl_) 1 L))) W.heap.size Xa Ya Xb Yb Xc Yc) := hs25; clear hs25 S24))
            go_ret
            exact ⟨rfl, S25.out.done⟩
          · have dv : (va != 0) = true := by simpa using hv
            have HBAD : Hid (¬ (ver (str cl_)).1 = 0) := by rw [HCL.out, hva]; exact hv
            have D3 : Hid (der (R3 (1 + A) (1 + B) sl) (dcmd (K : Int) Xa Ya Xb Yb Xc Yc) = 6) := der3 hK15 hA15 hB15
            have HC3 : Hid (dwC (R3 (1 + A) (1 + B) sl) (dcmd (K : Int) Xa Ya Xb Yb Xc Yc) = 1 ∧ dwR (R3 (1 + A) (1 + B) sl) (dcmd (K : Int) Xa Ya Xb Yb Xc Yc) = R3 (1 + A) (1 + B) sl) := ⟨if_neg (by rw [D3.out]; omega), if_neg (by rw [D3.out]; omega)⟩
            clear hst hva hvb hv hmm hA15 hB15 hK15
            go_wp2_with (first
              | (go_at_call_has 8 (5 : Nat); refine (text5 4 1 0 0 _ _ _ _ rfl ⟨by omega, by omega⟩ ⟨by omega, by omega⟩ ⟨by omega, by omega⟩ ⟨by omega, by omega⟩ ⟨by omega, by omega⟩).mono ?_; rintro e w20 ⟨rfl, hb20⟩; have S20 : Hid (StT W w20 g (one (gI (R3 (1 + A) (1 + B) sl))) W.heap.size Xa Ya Xb Yb Xc Yc) := S19.out.below hb20; clear hb20 S19)
              | (go_at_call 20; refine (tverify_at _ va vb _ HSZC.out HVA.out HVB.out).mono ?_; rintro e w21 ⟨rfl, hb21⟩; have S21 : Hid (StT W w21 g (one (gI (R3 (1 + A) (1 + B) sl))) W.heap.size Xa Ya Xb Yb Xc Yc) := S20.out.below hb21; clear hb21 S20)
              | (go_at_call_has 8 (1 : Nat); refine (text1 7 _ _ _ rfl ⟨by omega, by omega⟩).mono ?_; rintro e w22 ⟨rfl, hb22⟩; have S22 : Hid (StT W w22 g (one (gI (R3 (1 + A) (1 + B) sl))) W.heap.size Xa Ya Xb Yb Xc Yc) := S21.out.below hb22; clear hb22 S21)
              | (go_at_call 9; refine (S22.out.call (fun G q => kcode_bad G g _ _ _ cl_ _ _ _ q OK3.out (by omega) HCM.out HCC.out.1 HCC.out.2 HBAD.out rfl rfl)).mono ?_; rintro e w23 ⟨rfl, hs23⟩; have S23 : Hid (StT W w23 g (one (gI (R3 (1 + A) (1 + B) sl))) W.heap.size Xa Ya Xb Yb Xc Yc) := hs23; clear hs23 S22)
              | (go_at_call_has 8 (1 : Nat); refine (text1 6 _ _ _ rfl ⟨by omega, by omega⟩).mono ?_; rintro e w24 ⟨rfl, hb24⟩; have S24 : Hid (StT W w24 g (one (gI (R3 (1 + A) (1 + B) sl))) W.heap.size Xa Ya Xb Yb Xc Yc) := S23.out.below hb24; clear hb24 S23)
              | (go_at_call 9; refine (S24.out.call (fun G q => kdraw G g _ _ _ _ 6 (K : Int) Xa Ya Xb Yb Xc Yc _ _ _ q OK3.out (by omega) HKK.out HDS.out (by rw [D3.out]; rfl) rfl HC3.out.1 HC3.out.2)).mono ?_; rintro e w25 ⟨rfl, hs25⟩; have S25 : Hid (StT W w25 g (one (gI (R3 (1 + A) (1 + B) sl))) W.heap.size Xa Ya Xb Yb Xc Yc) := hs25; clear hs25 S24))
            go_ret
            exact ⟨rfl, S25.out.done⟩

end Go.Proofs.Ytbedkfgdhaajaab
