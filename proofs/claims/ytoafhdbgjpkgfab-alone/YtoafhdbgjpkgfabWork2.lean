/- Walks: Read, Clear and Code are done; any command is done (P8, P10 to P12). -/
import Derived.Test.YtoafhdbgjpkgfabWork
namespace Go.Proofs.Ytoafhdbgjpkgfab
open Go.RowKit

theorem rdb_succ (b : List UInt8) (a n : Nat) : rdb b a (n + 1) = rdb b a n ++ [b.getD (a + n) 0] := by
  unfold rdb; rw [List.range_succ, List.map_append]; rfl

/-- the block of a context, behind an append to its replies -/
theorem app_aux {w1 w2 : World} {O : Obj} {F1 : Nat → Prop} {p : Nat} {ad : Nat → Option Addr} {cp : Nat → Nat} {C : Ctx} (hA : CtxAt w1 F1 p ad cp C) (ho : Only (blk (ad 9)) (w1.alloc O) w2) :
    p < w2.heap.size ∧ w2.cell? ⟨p, 34, none⟩ = w1.cell? ⟨p, 34, none⟩ ∧ w2.frozen? ⟨p, 34, none⟩ = false := by
  have hlt := hA.lt
  have hs := ho.size
  rw [World.size_alloc] at hs
  have h9 := hA.own 9 (by omega)
  refine ⟨by omega, ?_, ?_⟩
  · rw [ho.cell (by simp; omega) h9, World.cell?_alloc_past _ _ _ hlt]
  · rw [ho.frozen (by simp; omega) h9, World.frozen?_alloc_past _ _ _ hlt]; exact hA.fz 34

/-- .. and what the context is then -/
theorem app_close {F1 M : Nat → Prop} {w1 w2 : World} {O : Obj} {p : Nat} {ad : Nat → Option Addr} {cp : Nat → Nat} {g : Gst} {ht : Nat → Int} {d : Int} {ao2 : Option Addr} {cap2 n9 : Nat} {r : List UInt8}
    (HA : CtxAt w1 F1 p ad cp (mk g ht d)) (hM : ∀ b, M b → blk (ad 8) b) (KO : Only (blk (ad 9)) (w1.alloc O) w2) (KB : BS w2 ao2 cap2 (g.out ++ r)) (KK : ∀ b, blk ao2 b → blk (ad 9) b ∨ (w1.alloc O).heap.size ≤ b) (hn9 : n9 = (g.out ++ r).length) :
    Goes F1 M w1 (w2.setCell ⟨p, 34, none⟩ (.slice ao2 n9 cap2)) p (mk (gO g r) ht d) := by
  have h := Goes.put (HA.alloc O) hM (k := 9) (by omega) (by omega) KO KB hn9 KK
  have e : updA (mk g ht d).by_ 9 (g.out ++ r) = bys g.rm.bs g.wait (g.out ++ r) := bys_upd_9 _ _ _ _
  rw [e] at h
  exact Goes.of_below ((Below.refl _ _).alloc (Nat.le_refl _) O) h

set_option maxHeartbeats 2000000 in
theorem cread_any (F M : Nat → Prop) (p : Nat) (g : Gst) (ht : Nat → Int) (d : Int) (ao : Option Addr) (cap : Nat) (m : List UInt8) (w : World) (hC : Cx w F M p (mk g ht d)) (hH : okH g.rm ht) (hB : BS w ao cap m) (h1 : bn m 0 = 4) (h0 : per g.rm m = 0) (h9 : g.out.length ≤ 10000) :
    Calls Try.prog 55 #[.pointer (some ⟨p, 0, none⟩), .slice ao m.length cap] w fun e w' => e = .returned (.tuple #[]) ∧ Done F M w w' p g m d := by
  have HC : Hid (Cx w F M p (mk g ht d)) := hC
  have HB : Hid (BS w ao cap m) := hB
  have H9 : Hid (g.out.length ≤ 10000) := h9
  have ht' := per_thr (by omega) h0
  have h8 : bn m 1 < 8 := (of_decide_eq_true ht' : _ ∧ _).1
  have H8 : Hid (obs g.rm (bn m 1) = g.rm.bs (bn m 1)) := obs_lo h8
  have HD : Hid (gD g m = gO g (rdb (g.rm.bs (bn m 1)) (wrd m 2) (bn m 4)) ∧ okH (pd g.rm m).2.2 ht) := by
    have e := pd_4 h1 ht'
    refine (⟨?_, ?_⟩ : _ ∧ _)
    · unfold gD gO; rw [e]; rfl
    · rw [e]; exact hH
  have b4 := bn_le m 4
  have HA : Hid (wrd m 2 ≤ 65535) := wrd_le m 2
  clear hC hB h1 h0 hH ht' h9 h8
  go_enter Try.func55, Try.ntmps55
  go_wp2_with (first | (go_at_call 40; refine (field_at _ _ _ _ _ HB.out 1 (by omega)).mono ?_; rintro e w2 ⟨rfl, w2e⟩; subst w2) | (go_at_call 67; refine (wide_any _ _ _ _ _ HB.out 2 (by omega) (by omega)).mono ?_; rintro e w2 ⟨rfl, w2e⟩; subst w2) | (go_at_call 40; refine (field_at _ _ _ _ _ HB.out 4 (by omega)).mono ?_; rintro e w2 ⟨rfl, w2e⟩; subst w2))
  go_loopw [7, 8] (fun i _ wr => ∃ n : Nat, n ≤ bn m 4 ∧ i = .int .i64 n ∧ Goes F M w wr p (mk (gO g (rdb (g.rm.bs (bn m 1)) (wrd m 2) n)) ht d)) (fun i _ _ => bn m 4 - (intOf i).toNat)
  case atStart => exact ⟨0, by omega, rfl, by rw [show rdb (g.rm.bs (bn m 1)) (wrd m 2) 0 = [] from rfl, gO_nil]; exact Goes.stay HC.out (Below.refl _ _)⟩
  case round =>
    obtain ⟨n, hn, rfl, hG⟩ := hrel
    by_cases hlt : n < bn m 4
    · obtain ⟨hO, F1, hX, hF⟩ := hG
      have HO : Hid (Only (fun b => F b ∧ ¬ M b) w wr) := hO
      have HX : Hid (Cx wr F1 M p (mk (gO g (rdb (g.rm.bs (bn m 1)) (wrd m 2) n)) ht d)) := hX
      have HF : Hid (∀ b, F1 b → F b ∨ w.heap.size ≤ b) := hF
      have hplt := hX.lt
      obtain ⟨ad, cp, hA1, hM1⟩ := hX
      have q9 := hA1.sl 9 (by omega)
      have qf := hA1.fz 34
      obtain ⟨L, hL⟩ : ∃ L, g.out ++ rdb (g.rm.bs (bn m 1)) (wrd m 2) n = L := ⟨_, rfl⟩
      simp only [show slot 9 = 34 from rfl, show (mk (gO g (rdb (g.rm.bs (bn m 1)) (wrd m 2) n)) ht d).by_ 9 = g.out ++ rdb (g.rm.bs (bn m 1)) (wrd m 2) n from rfl, hL] at q9
      have HL : Hid (g.out ++ rdb (g.rm.bs (bn m 1)) (wrd m 2) n = L) := hL
      have HS : Hid (BS wr (ad 9) (cp 9) L) := hL ▸ hA1.bs 9 (by omega)
      have hll : L.length ≤ 20000 := by rw [← hL, List.length_append, rdb_length]; have := H9.out; omega
      have HLL : Hid (L.length ≤ 20000) := hll
      have HAA : Hid (CtxAt wr F1 p ad cp (mk (gO g (rdb (g.rm.bs (bn m 1)) (wrd m 2) n)) ht d)) := hA1
      have HM : Hid (∀ b, M b → blk (ad 8) b) := hM1
      have n1 : (n : Int) < bn m 4 := by omega
      obtain ⟨u, hu⟩ : ∃ u : UInt8, (g.rm.bs (bn m 1)).getD (wrd m 2 + n) 0 = u := ⟨_, rfl⟩
      have HU : Hid ((obs (gO g (rdb (g.rm.bs (bn m 1)) (wrd m 2) n)).rm (bn m 1)).getD (wrd m 2 + n) 0 = u) := by
        show Hid ((obs g.rm (bn m 1)).getD (wrd m 2 + n) 0 = u)
        rw [H8.out]; exact hu
      have HU2 : Hid ((g.rm.bs (bn m 1)).getD (wrd m 2 + n) 0 = u) := hu
      clear hO hF hA1 hM1 hL hll hu
      go_wp2_with (first | (go_at_call 69; refine (byte_at F1 M p _ ht d _ HX.out (bn m 1) (wrd m 2 + n) _ (by have := HA.out; first | omega | (unfold wrap64; omega))).mono ?_; rw [HU.out]; rintro e w2 ⟨rfl, w2e⟩; subst w2) | (at_builtin; refine wpList_append_b rfl (.tmp 32) (.tmp 34) 51 51 rfl 5 Try.underlying51 info_byte (HS.out.alloc _) rfl rfl _ [u] rfl (BS.src (bs_one wr 5 u _ rfl) Try.underlying51) (by have := HLL.out; simp; omega) ?_; intro ao2 cap2 w2 hb2 ho2 hk2; obtain ⟨qlt2, c2, f2⟩ := app_aux HAA.out ho2; have q9' := c2.trans q9; have KB : Hid _ := hb2; have KO : Hid _ := ho2; have KK : Hid _ := hk2; clear hb2 ho2 hk2 q9 qf c2))
      go_roundw
      case rel =>
        refine ⟨n + 1, by omega, by go_num, ?_⟩
        have hb := KB.out
        rw [← HL.out] at hb
        have e : gO g (rdb (g.rm.bs (bn m 1)) (wrd m 2) (n + 1)) = gO (gO g (rdb (g.rm.bs (bn m 1)) (wrd m 2) n)) [u] := by rw [gO_gO, rdb_succ, HU2.out]
        rw [e]
        refine Goes.then HO.out HF.out ?_
        exact app_close HAA.out HM.out KO.out hb KK.out (by show _ = (g.out ++ rdb (g.rm.bs (bn m 1)) (wrd m 2) n ++ [u]).length; rw [HL.out]; simp)
      case measure => simp [intOf]; omega
    · have e : n = bn m 4 := by omega
      subst e
      have HG : Hid _ := hG
      clear hG
      go_wp2
      go_end0
      refine ⟨rfl, _, ?_, HD.out.2⟩
      rw [HD.out.1]
      exact HG.out

theorem wrt_all (b : List UInt8) (v : UInt8) : wrt b 0 (List.replicate b.length v) = List.replicate b.length v := by
  refine List.ext_getElem (by rw [wrt_length, List.length_replicate]) (fun i h1 h2 => ?_)
  rw [wrt_length] at h1
  rw [wrt_get _ _ _ h1, if_pos ⟨by omega, by rw [List.length_replicate]; omega⟩, List.getElem_replicate]
  simp [List.getD, h1]

set_option maxHeartbeats 2000000 in
theorem cclear_any (F M : Nat → Prop) (p : Nat) (g : Gst) (ht : Nat → Int) (d : Int) (ao : Option Addr) (cap : Nat) (m : List UInt8) (w : World) (hC : Cx w F M p (mk g ht d)) (hR : okR g.rm) (hH : okH g.rm ht) (hB : BS w ao cap m) (h1 : bn m 0 = 6) (h0 : per g.rm m = 0) :
    Calls Try.prog 57 #[.pointer (some ⟨p, 0, none⟩), .slice ao m.length cap] w fun e w' => e = .returned (.tuple #[]) ∧ Done F M w w' p g m d := by
  have HC : Hid (Cx w F M p (mk g ht d)) := hC
  have HB : Hid (BS w ao cap m) := hB
  have hplt := hC.lt
  have ht' := per_thr (by omega) h0
  have h8 : bn m 1 < 8 := (of_decide_eq_true ht' : _ ∧ _).1
  obtain ⟨N, hN⟩ : ∃ N, (g.rm.bs (bn m 1)).length = N := ⟨_, rfl⟩
  have HN : Hid ((g.rm.bs (bn m 1)).length = N) := hN
  have HN2 : Hid ((obs g.rm (bn m 1)).length = N) := by rw [obs_lo h8]; exact hN
  have hs : N ≤ 576 := by rw [← hN]; exact hR.len _ h8
  have HD : Hid (gD g m = gB g (bn m 1) (wrt (g.rm.bs (bn m 1)) 0 (List.replicate N (m.getD 2 0))) ∧ okH (pd g.rm m).2.2 ht) := by
    have e := pd_6 h1 ht'
    refine (⟨?_, ?_⟩ : _ ∧ _)
    · rw [← hN, wrt_all]; unfold gD gB; rw [e]; simp
    · rw [e]; exact hH.bytes (by simp)
  have b2 := bn_le m 2
  clear hC hR hB h1 h0 hH ht' hN
  go_enter Try.func57, Try.ntmps57
  go_wp2_with (first | (go_at_call 40; refine (field_at _ _ _ _ _ HB.out 1 (by omega)).mono ?_; rintro e w2 ⟨rfl, w2e⟩; subst w2) | (go_at_call 40; refine (field_at _ _ _ _ _ HB.out 2 (by omega)).mono ?_; rintro e w2 ⟨rfl, w2e⟩; subst w2) | (go_at_call 41; refine (size_g F M p g ht d _ HC.out _).mono ?_; rw [HN2.out]; rintro e w2 ⟨rfl, w2e⟩; subst w2))
  go_loopw [7] (fun i wr => ∃ n : Nat, n ≤ N ∧ i = .int .i64 n ∧ Goes F M w wr p (mk (gB g (bn m 1) (wrt (g.rm.bs (bn m 1)) 0 ((List.replicate N (m.getD 2 0)).take n))) ht d)) (fun i _ => N - (intOf i).toNat)
  case atStart => exact ⟨0, by omega, rfl, by rw [List.take_zero, wrt_nil, gB_self]; exact Goes.stay HC.out (Below.refl _ _)⟩
  case round =>
    obtain ⟨n, hn, rfl, hG⟩ := hrel
    by_cases hlt : n < N
    · obtain ⟨hO, F1, hX, hF⟩ := hG
      have HO : Hid (Only (fun b => F b ∧ ¬ M b) w wr) := hO
      have HX : Hid (Cx wr F1 M p (mk (gB g (bn m 1) (wrt (g.rm.bs (bn m 1)) 0 ((List.replicate N (m.getD 2 0)).take n))) ht d)) := hX
      have HF : Hid (∀ b, F1 b → F b ∨ w.heap.size ≤ b) := hF
      have hplt2 := hX.lt
      have n1 : (n : Int) < N := by omega
      clear hO hX hF
      go_wp2_with (go_at_call 68; refine (put_at F1 M p _ ht d _ HX.out (bn m 1) n _ _ (m.getD 2 0) (by omega) (by rfl) h8).mono ?_; rintro e w3 ⟨rfl, hg3⟩; have HG3 : Hid _ := hg3; clear hg3)
      go_roundw
      case rel =>
        refine ⟨n + 1, by omega, by go_num, ?_⟩
        have e1 : n < (List.replicate N (m.getD 2 0)).length := by rw [List.length_replicate]; omega
        have e2 : (List.replicate N (m.getD 2 0))[n] = m.getD 2 0 := List.getElem_replicate _
        have := Goes.then HO.out HF.out HG3.out
        rw [gB_gB, gB_bs] at this
        rw [wrt_in _ _ _ n e1, e2, Nat.zero_add]
        exact this
      case measure => simp [intOf]; omega
    · have e : n = N := by omega
      subst e
      have HG : Hid _ := hG
      clear hG
      go_wp2
      go_end0
      refine ⟨rfl, _, ?_, HD.out.2⟩
      rw [HD.out.1]
      have := HG.out
      rw [List.take_of_length_le (by rw [List.length_replicate]; omega)] at this
      exact this

set_option maxHeartbeats 2000000 in
theorem ccode_any (F M : Nat → Prop) (p : Nat) (g : Gst) (ht : Nat → Int) (d : Int) (ao : Option Addr) (cap : Nat) (m : List UInt8) (w : World) (hC : Cx w F M p (mk g ht d)) (hH : okH g.rm ht) (hB : BS w ao cap m) (h1 : bn m 0 = 5) (h0 : per g.rm m = 0) (hw : m.length = pz m) :
    Calls Try.prog 56 #[.pointer (some ⟨p, 0, none⟩), .slice ao m.length cap] w fun e w' => e = .returned (.tuple #[]) ∧ Done F M w w' p g m d := by
  rw [per_5 h1] at h0
  obtain ⟨c1, c2, c3⟩ := cer_ok h0
  have HD : Hid (gD g m = { g with rm := rCode g.rm (bn m 1) (m.drop 3) } ∧ okH (pd g.rm m).2.2 ht) := by
    have e := pd_5 (R := g.rm) h1
    rw [h0, if_pos rfl, if_pos rfl] at e
    refine (⟨?_, ?_⟩ : _ ∧ _)
    · unfold gD; rw [e]; simp
    · rw [e]; exact hH
  have HB : Hid (BS w ao cap m) := hB
  have H3 : Hid (3 ≤ m.length) := by have := pz_code h1 hw; exact (by omega : 3 ≤ m.length)
  obtain ⟨ad, cp, hA, hM⟩ := hC
  have HA : Hid (CtxAt w F p ad cp (mk g ht d)) := hA
  have HM : Hid (∀ b, M b → blk (ad 8) b) := hM
  have q0 := hA.hs (bn m 1) c1
  have q1 := hA.cd (bn m 1) c1
  have q2 := hA.lt
  have q3 := hA.fz
  have d1 : ¬ (4 : Int) ≤ bn m 1 := by omega
  have d2 : (0 : Int) ≤ bn m 1 := by omega
  have d3 : (bn m 1 : Int) < 4 := by omega
  clear hB h1 h0 hw hA hM c2 c3 hH
  go_enter Try.func56, Try.ntmps56
  go_wp2_with (first | (go_at_call 40; refine (field_at _ _ _ _ _ HB.out 1 (by omega)).mono ?_; rintro e w2 ⟨rfl, w2e⟩; subst w2) | (go_at_call 63; refine (codeOf_any _ _ _ _ HB.out H3.out).mono ?_; rintro e w2 ⟨rfl, w2e⟩; subst w2))
  go_end0
  refine ⟨rfl, ht, ?_, HD.out.2⟩
  rw [HD.out.1]
  exact Goes.putProg HA.out HM.out c1 true (m.drop 3)

end Go.Proofs.Ytoafhdbgjpkgfab
