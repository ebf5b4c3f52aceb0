/- Walks: a command is done (P8, P10 to P12). Walks: Read, Clear and Code are done; any command is done (P8, P10 to P12). Walks: any command is done; a command is finished (P8). -/
import Derived.Test.YtbedkfgdhaajaabFault
namespace Go.Proofs.Ytbedkfgdhaajaab
open Go.RowKit

def gB (g : Gst) (h : Nat) (l : List UInt8) : Gst := { g with rm := rBytes g.rm h l }
def gO (g : Gst) (l : List UInt8) : Gst := { g with out := g.out ++ l }

/-- a command is done: the room behind it, its reply behind the first byte -/
def gD (g : Gst) (m : List UInt8) : Gst := { g with rm := (pd g.rm m).2.2, out := g.out ++ (pd g.rm m).1.tail }
def Done (F M : Nat → Prop) (w w' : World) (p : Nat) (g : Gst) (m : List UInt8) (d : Int) : Prop := ∃ ht', Goes F M w w' p (mk (gD g m) ht' d) ∧ okH (pd g.rm m).2.2 ht'

theorem gB_gB (g : Gst) (h : Nat) (l l2 : List UInt8) : gB (gB g h l) h l2 = gB g h l2 := by
  unfold gB rBytes
  simp only [updA_updA]
theorem gB_bs (g : Gst) (h : Nat) (l : List UInt8) : (gB g h l).rm.bs h = l := updA_same _ _ _
theorem gB_self (g : Gst) (h : Nat) : gB g h (g.rm.bs h) = g := by
  have e2 : updA g.rm.bs h (g.rm.bs h) = g.rm.bs := by funext j; unfold updA; split; rename_i e; rw [e]; rfl
  unfold gB rBytes
  rw [e2]
theorem gO_nil (g : Gst) : gO g [] = g := by unfold gO; rw [List.append_nil]
theorem gO_gO (g : Gst) (a b : List UInt8) : gO (gO g a) b = gO g (a ++ b) := by unfold gO; simp only [List.append_assoc]

theorem okH.bytes {R : Rm} {ht : Nat → Int} (h : okH R ht) {k : Nat} {l : List UInt8} (hl : l.length = (R.bs k).length) : okH (rBytes R k l) ht := by
  intro j hj
  have e : (updA R.bs k l j).length = (R.bs j).length := by
    by_cases e : j = k
    · subst e; rw [updA_same]; exact hl
    · rw [updA_other _ _ e]
  show ((updA R.bs k l j).length : Int) = R.wd j * ht j ∧ _
  rw [e]; exact h j hj
theorem okH.create {R : Rm} {ht : Nat → Int} (h : okH R ht) {k a b : Nat} (hb : b ≤ 24) : okH (rCreate R k a b) (updA ht k b) := by
  intro j hj
  show ((updA R.bs k (zeros (a * b)) j).length : Int) = updA R.wd k a j * updA ht k b j ∧ 0 ≤ updA ht k b j ∧ updA ht k b j ≤ 24
  by_cases e : j = k
  · subst e; rw [updA_same, updA_same, updA_same]; simp only [zeros, List.length_replicate]; rw [Int.natCast_mul]; exact ⟨rfl, by omega, by omega⟩
  · rw [updA_other _ _ e, updA_other _ _ e, updA_other _ _ e]; exact h j hj
theorem okH.drop {R : Rm} {ht : Nat → Int} (h : okH R ht) {k : Nat} : okH (rDrop R k) (updA ht k 0) := by
  intro j hj
  show ((updA R.bs k [] j).length : Int) = updA R.wd k 0 j * updA ht k 0 j ∧ 0 ≤ updA ht k 0 j ∧ updA ht k 0 j ≤ 24
  by_cases e : j = k
  · subst e; rw [updA_same, updA_same, updA_same]; simp
  · rw [updA_other _ _ e, updA_other _ _ e, updA_other _ _ e]; exact h j hj

theorem put_at (F M : Nat → Prop) (p : Nat) (g : Gst) (ht : Nat → Int) (d : Int) (w : World) (hC : Cx w F M p (mk g ht d)) (h k : Nat) (x v : Int) (u : UInt8) (hx : x = k) (hv : v = u.toNat) (h8 : h < 8) :
    Calls Try.prog 94 #[.pointer (some ⟨p, 0, none⟩), .int .i64 h, .int .i64 x, .int .u8 v] w fun e w' => e = .returned (.tuple #[]) ∧ Goes F M w w' p (mk (gB g h ((g.rm.bs h).set k u)) ht d) := by
  subst hx hv; exact put_g F M p g ht d w hC h k u h8
theorem byte_at (F M : Nat → Prop) (p : Nat) (g : Gst) (ht : Nat → Int) (d : Int) (w : World) (hC : Cx w F M p (mk g ht d)) (h k : Nat) (x : Int) (hx : x = k) :
    Calls Try.prog 95 #[.pointer (some ⟨p, 0, none⟩), .int .i64 h, .int .i64 x] w fun e w' => e = .returned (.int .u8 (((obs g.rm h).getD k 0).toNat : Int)) ∧ w' = w := by
  subst hx; exact byte_g F M p g ht d w hC h k

set_option maxHeartbeats 1000000 in
theorem ccreate_any (F M : Nat → Prop) (p : Nat) (g : Gst) (ht : Nat → Int) (d : Int) (ao : Option Addr) (cap : Nat) (m : List UInt8) (w : World) (hC : Cx w F M p (mk g ht d)) (hR : okR g.rm) (hH : okH g.rm ht) (hB : BS w ao cap m) (h1 : bn m 0 = 1) (h0 : per g.rm m = 0) :
    Calls Try.prog 74 #[.pointer (some ⟨p, 0, none⟩), .slice ao m.length cap] w fun e w' => e = .returned (.tuple #[]) ∧ Done F M w w' p g m d := by
  have HC : Hid (Cx w F M p (mk g ht d)) := hC
  have HR : Hid (okR g.rm) := hR
  have HB : Hid (BS w ao cap m) := hB
  have hlt := hC.lt
  rw [per_1 h1] at h0
  have HK : Hid (can g.rm.bs (bn m 1) (bn m 2) (bn m 3) = 0) := h0
  have HD : Hid (gD g m = { g with rm := rCreate g.rm (bn m 1) (bn m 2) (bn m 3) } ∧ okH (pd g.rm m).2.2 (updA ht (bn m 1) (bn m 3))) := by
    have e := pd_1 (R := g.rm) h1
    rw [h0, if_pos rfl, if_pos rfl] at e
    refine (⟨?_, ?_⟩ : _ ∧ _)
    · unfold gD; rw [e]; simp
    · rw [e]; exact hH.create (can_ok h0).2.2.2.1.2
  clear hC hR hB h1 h0 hH
  go_enter Try.func74, Try.ntmps74
  go_wp2_with (first | (go_at_call 52; refine (field_at _ _ _ _ _ HB.out 1 (by omega)).mono ?_; rintro e w2 ⟨rfl, rfl⟩) | (go_at_call 52; refine (field_at _ _ _ _ _ HB.out 2 (by omega)).mono ?_; rintro e w2 ⟨rfl, rfl⟩) | (go_at_call 52; refine (field_at _ _ _ _ _ HB.out 3 (by omega)).mono ?_; rintro e w2 ⟨rfl, rfl⟩) | (go_at_call 91; refine (create_g F M p g ht d _ HC.out _ _ _ HR.out HK.out).mono ?_; rintro e w3 ⟨rfl, hb3⟩; have HG : Hid _ := hb3; clear hb3))
  go_end0
  refine ⟨rfl, _, ?_, HD.out.2⟩
  rw [HD.out.1]; exact HG.out

set_option maxHeartbeats 1000000 in
theorem cdrop_any (F M : Nat → Prop) (p : Nat) (g : Gst) (ht : Nat → Int) (d : Int) (ao : Option Addr) (cap : Nat) (m : List UInt8) (w : World) (hC : Cx w F M p (mk g ht d)) (hH : okH g.rm ht) (hB : BS w ao cap m) (h1 : bn m 0 = 2) (h0 : per g.rm m = 0) :
    Calls Try.prog 75 #[.pointer (some ⟨p, 0, none⟩), .slice ao m.length cap] w fun e w' => e = .returned (.tuple #[]) ∧ Done F M w w' p g m d := by
  have HC : Hid (Cx w F M p (mk g ht d)) := hC
  have HB : Hid (BS w ao cap m) := hB
  have hlt := hC.lt
  have ht' := per_thr (by omega) h0
  have HK : Hid (thr g.rm (bn m 1) = true) := ht'
  have HD : Hid (gD g m = { g with rm := rDrop g.rm (bn m 1) } ∧ okH (pd g.rm m).2.2 (updA ht (bn m 1) 0)) := by
    have e := pd_2 h1 ht'
    refine (⟨?_, ?_⟩ : _ ∧ _)
    · unfold gD; rw [e]; simp
    · rw [e]; exact hH.drop
  clear hC hB h1 h0 hH ht'
  go_enter Try.func75, Try.ntmps75
  go_wp2_with (first | (go_at_call 52; refine (field_at _ _ _ _ _ HB.out 1 (by omega)).mono ?_; rintro e w2 ⟨rfl, rfl⟩) | (go_at_call 92; refine (drop_g F M p g ht d _ HC.out _ HK.out).mono ?_; rintro e w3 ⟨rfl, hb3⟩; have HG : Hid _ := hb3; clear hb3))
  go_end0
  refine ⟨rfl, _, ?_, HD.out.2⟩
  rw [HD.out.1]; exact HG.out

theorem pz_write {m : List UInt8} (h : bn m 0 = 3) (hw : m.length = pz m) : m.length = 5 + bn m 4 := by
  rw [pz_n7 (by omega)] at hw
  by_cases h3 : m.length < 5
  · by_cases h0 : m.length = 0
    · rw [bn_out (by omega)] at h; omega
    · have e : dsz m = 0 := by unfold dsz; simp [h0, h, h3]
      omega
  · have e : dsz m = 5 + bn m 4 := by
      unfold dsz
      rw [if_neg (by omega)]
      simp [h]
      intro q
      omega
    omega

/-- a Goes that goes on -/
theorem Goes.more {F M F1 : Nat → Prop} {w w1 w2 : World} {p : Nat} {C' : Ctx} (h : Only (fun b => F b ∧ ¬ M b) w w1) (h1 : ∀ b, F1 b → F b ∨ w.heap.size ≤ b) (g : Goes F1 M w1 w2 p C') : Goes F M w w2 p C' := Goes.then h h1 g

set_option maxHeartbeats 2000000 in
theorem cwrite_any (F : Nat → Prop) (p : Nat) (g : Gst) (ht : Nat → Int) (d : Int) (ao : Option Addr) (cap : Nat) (m : List UInt8) (w : World) (hC : Cx w F (blk ao) p (mk g ht d)) (hH : okH g.rm ht) (hB : BS w ao cap m) (h1 : bn m 0 = 3) (h0 : per g.rm m = 0) (hw : m.length = pz m) :
    Calls Try.prog 76 #[.pointer (some ⟨p, 0, none⟩), .slice ao m.length cap] w fun e w' => e = .returned (.tuple #[]) ∧ Done F (blk ao) w w' p g m d := by
  have HC : Hid (Cx w F (blk ao) p (mk g ht d)) := hC
  have HB : Hid (BS w ao cap m) := hB
  have ht' := per_thr (by omega) h0
  have h8 : bn m 1 < 8 := (of_decide_eq_true ht' : _ ∧ _).1
  have HL : Hid (m.length = 5 + bn m 4) := pz_write h1 hw
  have HD : Hid (gD g m = gB g (bn m 1) (wrt (g.rm.bs (bn m 1)) (wrd m 2) (m.drop 5)) ∧ okH (pd g.rm m).2.2 ht) := by
    have e := pd_3 h1 ht'
    refine (⟨?_, ?_⟩ : _ ∧ _)
    · unfold gD gB; rw [e]; simp
    · rw [e]; exact hH.bytes (wrt_length _ _ _)
  have b4 := bn_le m 4
  have HA : Hid (wrd m 2 ≤ 65535) := wrd_le m 2
  clear hC hB h1 h0 hH ht' hw
  go_enter Try.func76, Try.ntmps76
  go_wp2_with (first | (go_at_call 52; refine (field_at _ _ _ _ _ HB.out 1 (by omega)).mono ?_; rintro e w2 ⟨rfl, w2e⟩; subst w2) | (go_at_call 93; refine (wide_any _ _ _ _ _ HB.out 2 (by omega) (by omega)).mono ?_; rintro e w2 ⟨rfl, w2e⟩; subst w2) | (go_at_call 52; refine (field_at _ _ _ _ _ HB.out 4 (by omega)).mono ?_; rintro e w2 ⟨rfl, w2e⟩; subst w2))
  go_loopw [7, 8] (fun i _ wr => ∃ n : Nat, n ≤ bn m 4 ∧ i = .int .i64 n ∧ Goes F (blk ao) w wr p (mk (gB g (bn m 1) (wrt (g.rm.bs (bn m 1)) (wrd m 2) ((m.drop 5).take n))) ht d)) (fun i _ _ => bn m 4 - (intOf i).toNat)
  case atStart => exact ⟨0, by omega, rfl, by rw [List.take_zero, wrt_nil, gB_self]; exact Goes.stay HC.out (Below.refl _ _)⟩
  case round =>
    obtain ⟨n, hn, rfl, hG⟩ := hrel
    have HB2 : Hid (BS wr ao cap m) := hG.bs HB.out
    by_cases hlt : n < bn m 4
    · obtain ⟨hO, F1, hX, hF⟩ := hG
      have HO : Hid (Only (fun b => F b ∧ ¬ blk ao b) w wr) := hO
      have HX : Hid (Cx wr F1 (blk ao) p (mk (gB g (bn m 1) (wrt (g.rm.bs (bn m 1)) (wrd m 2) ((m.drop 5).take n))) ht d)) := hX
      have HF : Hid (∀ b, F1 b → F b ∨ w.heap.size ≤ b) := hF
      have hplt := hX.lt
      have n1 : (n : Int) < bn m 4 := by omega
      have b5 := bn_le m (5 + n)
      clear hO hX hF
      go_wp2_with (first | (go_at_call 52; refine (field_at _ _ _ _ _ HB2.out (5 + n) (by omega)).mono ?_; rintro e w2 ⟨rfl, w2e⟩; subst w2) | (go_at_call 94; refine (put_at F1 (blk ao) p _ ht d _ HX.out (bn m 1) (wrd m 2 + n) _ _ (m.getD (5 + n) 0) (by have := HA.out; first | omega | (unfold wrap64; omega)) (by rfl) h8).mono ?_; rintro e w3 ⟨rfl, hg3⟩; have HG3 : Hid _ := hg3; clear hg3))
      go_roundw
      case rel =>
        refine ⟨n + 1, by omega, by go_num, ?_⟩
        have hlen := HL.out
        have e1 : n < (m.drop 5).length := by rw [List.length_drop]; omega
        have e2 : (m.drop 5)[n] = m.getD (5 + n) 0 := by rw [List.getElem_drop, List.getD_eq_getElem?_getD, List.getElem?_eq_getElem (by omega)]; rfl
        have := Goes.then HO.out HF.out HG3.out
        rw [gB_gB, gB_bs] at this
        rw [wrt_in _ _ _ n e1, e2]
        exact this
      case measure => simp [intOf]; omega
    · have e : n = bn m 4 := by omega
      subst e
      have HG : Hid _ := hG
      clear hG
      go_wp2
      go_end0
      refine ⟨rfl, _, ?_, HD.out.2⟩
      rw [HD.out.1]
      have := HG.out
      rw [List.take_of_length_le (by have := HL.out; rw [List.length_drop]; omega)] at this
      exact this

end Go.Proofs.Ytbedkfgdhaajaab

namespace Go.Proofs.Ytbedkfgdhaajaab
open Go.RowKit

theorem rdb_succ (b : List UInt8) (a n : Nat) : rdb b a (n + 1) = rdb b a n ++ [b.getD (a + n) 0] := by
  unfold rdb; rw [List.range_succ, List.map_append]; rfl

/-- the block of a context, behind an append to its replies -/
theorem app_aux {w1 w2 : World} {O : Obj} {F1 : Nat → Prop} {p : Nat} {ad : Nat → Option Addr} {cp : Nat → Nat} {C : Ctx} (hA : CtxAt w1 F1 p ad cp C) (ho : Only (blk (ad 9)) (w1.alloc O) w2) :
    p < w2.heap.size ∧ w2.cell? ⟨p, 26, none⟩ = w1.cell? ⟨p, 26, none⟩ ∧ w2.frozen? ⟨p, 26, none⟩ = false := by
  have hlt := hA.lt
  have hs := ho.size
  rw [World.size_alloc] at hs
  have h9 := hA.own 9 (by omega)
  refine ⟨by omega, ?_, ?_⟩
  · rw [ho.cell (by simp; omega) h9, World.cell?_alloc_past _ _ _ hlt]
  · rw [ho.frozen (by simp; omega) h9, World.frozen?_alloc_past _ _ _ hlt]; exact hA.fz 26

/-- .. and what the context is then -/
theorem app_close {F1 M : Nat → Prop} {w1 w2 : World} {O : Obj} {p : Nat} {ad : Nat → Option Addr} {cp : Nat → Nat} {g : Gst} {ht : Nat → Int} {d : Int} {ao2 : Option Addr} {cap2 n9 : Nat} {r : List UInt8}
    (HA : CtxAt w1 F1 p ad cp (mk g ht d)) (hM : ∀ b, M b → blk (ad 8) b) (KO : Only (blk (ad 9)) (w1.alloc O) w2) (KB : BS w2 ao2 cap2 (g.out ++ r)) (KK : ∀ b, blk ao2 b → blk (ad 9) b ∨ (w1.alloc O).heap.size ≤ b) (hn9 : n9 = (g.out ++ r).length) :
    Goes F1 M w1 (w2.setCell ⟨p, 26, none⟩ (.slice ao2 n9 cap2)) p (mk (gO g r) ht d) := by
  have h := Goes.put (HA.alloc O) hM (k := 9) (by omega) (by omega) KO KB hn9 KK
  have e : updA (mk g ht d).by_ 9 (g.out ++ r) = bys g.rm.bs g.wait (g.out ++ r) := bys_upd_9 _ _ _ _
  rw [e] at h
  exact Goes.of_below ((Below.refl _ _).alloc (Nat.le_refl _) O) h

set_option maxHeartbeats 2000000 in
theorem cread_any (F M : Nat → Prop) (p : Nat) (g : Gst) (ht : Nat → Int) (d : Int) (ao : Option Addr) (cap : Nat) (m : List UInt8) (w : World) (hC : Cx w F M p (mk g ht d)) (hH : okH g.rm ht) (hB : BS w ao cap m) (h1 : bn m 0 = 4) (h0 : per g.rm m = 0) (h9 : g.out.length ≤ 10000) :
    Calls Try.prog 77 #[.pointer (some ⟨p, 0, none⟩), .slice ao m.length cap] w fun e w' => e = .returned (.tuple #[]) ∧ Done F M w w' p g m d := by
  have HC : Hid (Cx w F M p (mk g ht d)) := hC
  have HB : Hid (BS w ao cap m) := hB
  have H9 : Hid (g.out.length ≤ 10000) := h9
  have ht' := per_thr (by omega) h0
  have h8 : bn m 1 < 8 := (of_decide_eq_true ht' : _ ∧ _).1
  have H8 : Hid (obs g.rm (bn m 1) = g.rm.bs (bn m 1)) := obs_lo h8
  have HD : Hid (gD g m = gO g (rdb (g.rm.bs (bn m 1)) (wrd m 2) (bn m 4)) ∧ okH (pd g.rm m).2.2 ht) := by
    have e := pd_4 h1 ht'
    refine (⟨?_, ?_⟩ : _ ∧ _)
    · unfold gD gO; rw [e]; rfl
    · rw [e]; exact hH
  have b4 := bn_le m 4
  have HA : Hid (wrd m 2 ≤ 65535) := wrd_le m 2
  clear hC hB h1 h0 hH ht' h9 h8
  go_enter Try.func77, Try.ntmps77
  go_wp2_with (first | (go_at_call 52; refine (field_at _ _ _ _ _ HB.out 1 (by omega)).mono ?_; rintro e w2 ⟨rfl, w2e⟩; subst w2) | (go_at_call 93; refine (wide_any _ _ _ _ _ HB.out 2 (by omega) (by omega)).mono ?_; rintro e w2 ⟨rfl, w2e⟩; subst w2) | (go_at_call 52; refine (field_at _ _ _ _ _ HB.out 4 (by omega)).mono ?_; rintro e w2 ⟨rfl, w2e⟩; subst w2))
  go_loopw [7, 8] (fun i _ wr => ∃ n : Nat, n ≤ bn m 4 ∧ i = .int .i64 n ∧ Goes F M w wr p (mk (gO g (rdb (g.rm.bs (bn m 1)) (wrd m 2) n)) ht d)) (fun i _ _ => bn m 4 - (intOf i).toNat)
  case atStart => exact ⟨0, by omega, rfl, by rw [show rdb (g.rm.bs (bn m 1)) (wrd m 2) 0 = [] from rfl, gO_nil]; exact Goes.stay HC.out (Below.refl _ _)⟩
  case round =>
    obtain ⟨n, hn, rfl, hG⟩ := hrel
    by_cases hlt : n < bn m 4
    · obtain ⟨hO, F1, hX, hF⟩ := hG
      have HO : Hid (Only (fun b => F b ∧ ¬ M b) w wr) := hO
      have HX : Hid (Cx wr F1 M p (mk (gO g (rdb (g.rm.bs (bn m 1)) (wrd m 2) n)) ht d)) := hX
      have HF : Hid (∀ b, F1 b → F b ∨ w.heap.size ≤ b) := hF
      have hplt := hX.lt
      obtain ⟨ad, cp, hA1, hM1⟩ := hX
      have q9 := hA1.sl 9 (by omega)
      have qf := hA1.fz 26
      obtain ⟨L, hL⟩ : ∃ L, g.out ++ rdb (g.rm.bs (bn m 1)) (wrd m 2) n = L := ⟨_, rfl⟩
      simp only [show slot 9 = 26 from rfl, show (mk (gO g (rdb (g.rm.bs (bn m 1)) (wrd m 2) n)) ht d).by_ 9 = g.out ++ rdb (g.rm.bs (bn m 1)) (wrd m 2) n from rfl, hL] at q9
      have HL : Hid (g.out ++ rdb (g.rm.bs (bn m 1)) (wrd m 2) n = L) := hL
      have HS : Hid (BS wr (ad 9) (cp 9) L) := hL ▸ hA1.bs 9 (by omega)
      have hll : L.length ≤ 20000 := by rw [← hL, List.length_append, rdb_length]; have := H9.out; omega
      have HLL : Hid (L.length ≤ 20000) := hll
      have HAA : Hid (CtxAt wr F1 p ad cp (mk (gO g (rdb (g.rm.bs (bn m 1)) (wrd m 2) n)) ht d)) := hA1
      have HM : Hid (∀ b, M b → blk (ad 8) b) := hM1
      have n1 : (n : Int) < bn m 4 := by omega
      obtain ⟨u, hu⟩ : ∃ u : UInt8, (g.rm.bs (bn m 1)).getD (wrd m 2 + n) 0 = u := ⟨_, rfl⟩
      have HU : Hid ((obs (gO g (rdb (g.rm.bs (bn m 1)) (wrd m 2) n)).rm (bn m 1)).getD (wrd m 2 + n) 0 = u) := by
        show Hid ((obs g.rm (bn m 1)).getD (wrd m 2 + n) 0 = u)
        rw [H8.out]; exact hu
      have HU2 : Hid ((g.rm.bs (bn m 1)).getD (wrd m 2 + n) 0 = u) := hu
      clear hO hF hA1 hM1 hL hll hu
      go_wp2_with (first | (go_at_call 95; refine (byte_at F1 M p _ ht d _ HX.out (bn m 1) (wrd m 2 + n) _ (by have := HA.out; first | omega | (unfold wrap64; omega))).mono ?_; rw [HU.out]; rintro e w2 ⟨rfl, w2e⟩; subst w2) | (at_builtin; refine wpList_append_b rfl (.tmp 32) (.tmp 34) 51 51 rfl 5 Try.underlying51 info_byte (HS.out.alloc _) rfl rfl _ [u] rfl (BS.src (bs_one wr 5 u _ rfl) Try.underlying51) (by have := HLL.out; simp; omega) ?_; intro ao2 cap2 w2 hb2 ho2 hk2; obtain ⟨qlt2, c2, f2⟩ := app_aux HAA.out ho2; have q9' := c2.trans q9; have KB : Hid _ := hb2; have KO : Hid _ := ho2; have KK : Hid _ := hk2; clear hb2 ho2 hk2 q9 qf c2))
      go_roundw
      case rel =>
        refine ⟨n + 1, by omega, by go_num, ?_⟩
        have hb := KB.out
        rw [← HL.out] at hb
        have e : gO g (rdb (g.rm.bs (bn m 1)) (wrd m 2) (n + 1)) = gO (gO g (rdb (g.rm.bs (bn m 1)) (wrd m 2) n)) [u] := by rw [gO_gO, rdb_succ, HU2.out]
        rw [e]
        refine Goes.then HO.out HF.out ?_
        exact app_close HAA.out HM.out KO.out hb KK.out (by show _ = (g.out ++ rdb (g.rm.bs (bn m 1)) (wrd m 2) n ++ [u]).length; rw [HL.out]; simp)
      case measure => simp [intOf]; omega
    · have e : n = bn m 4 := by omega
      subst e
      have HG : Hid _ := hG
      clear hG
      go_wp2
      go_end0
      refine ⟨rfl, _, ?_, HD.out.2⟩
      rw [HD.out.1]
      exact HG.out

theorem wrt_all (b : List UInt8) (v : UInt8) : wrt b 0 (List.replicate b.length v) = List.replicate b.length v := by
  refine List.ext_getElem (by rw [wrt_length, List.length_replicate]) (fun i h1 h2 => ?_)
  rw [wrt_length] at h1
  rw [wrt_get _ _ _ h1, if_pos ⟨by omega, by rw [List.length_replicate]; omega⟩, List.getElem_replicate]
  simp [List.getD, h1]

set_option maxHeartbeats 2000000 in
theorem cclear_any (F M : Nat → Prop) (p : Nat) (g : Gst) (ht : Nat → Int) (d : Int) (ao : Option Addr) (cap : Nat) (m : List UInt8) (w : World) (hC : Cx w F M p (mk g ht d)) (hR : okR g.rm) (hH : okH g.rm ht) (hB : BS w ao cap m) (h1 : bn m 0 = 6) (h0 : per g.rm m = 0) :
    Calls Try.prog 79 #[.pointer (some ⟨p, 0, none⟩), .slice ao m.length cap] w fun e w' => e = .returned (.tuple #[]) ∧ Done F M w w' p g m d := by
  have HC : Hid (Cx w F M p (mk g ht d)) := hC
  have HB : Hid (BS w ao cap m) := hB
  have hplt := hC.lt
  have ht' := per_thr (by omega) h0
  have h8 : bn m 1 < 8 := (of_decide_eq_true ht' : _ ∧ _).1
  obtain ⟨N, hN⟩ : ∃ N, (g.rm.bs (bn m 1)).length = N := ⟨_, rfl⟩
  have HN : Hid ((g.rm.bs (bn m 1)).length = N) := hN
  have HN2 : Hid ((obs g.rm (bn m 1)).length = N) := by rw [obs_lo h8]; exact hN
  have hs : N ≤ 576 := by rw [← hN]; exact hR.len _ h8
  have HD : Hid (gD g m = gB g (bn m 1) (wrt (g.rm.bs (bn m 1)) 0 (List.replicate N (m.getD 2 0))) ∧ okH (pd g.rm m).2.2 ht) := by
    have e := pd_6 h1 ht'
    refine (⟨?_, ?_⟩ : _ ∧ _)
    · rw [← hN, wrt_all]; unfold gD gB; rw [e]; simp
    · rw [e]; exact hH.bytes (by simp)
  have b2 := bn_le m 2
  clear hC hR hB h1 h0 hH ht' hN
  go_enter Try.func79, Try.ntmps79
  go_wp2_with (first | (go_at_call 52; refine (field_at _ _ _ _ _ HB.out 1 (by omega)).mono ?_; rintro e w2 ⟨rfl, w2e⟩; subst w2) | (go_at_call 52; refine (field_at _ _ _ _ _ HB.out 2 (by omega)).mono ?_; rintro e w2 ⟨rfl, w2e⟩; subst w2) | (go_at_call 53; refine (size_g F M p g ht d _ HC.out _).mono ?_; rw [HN2.out]; rintro e w2 ⟨rfl, w2e⟩; subst w2))
  go_loopw [7] (fun i wr => ∃ n : Nat, n ≤ N ∧ i = .int .i64 n ∧ Goes F M w wr p (mk (gB g (bn m 1) (wrt (g.rm.bs (bn m 1)) 0 ((List.replicate N (m.getD 2 0)).take n))) ht d)) (fun i _ => N - (intOf i).toNat)
  case atStart => exact ⟨0, by omega, rfl, by rw [List.take_zero, wrt_nil, gB_self]; exact Goes.stay HC.out (Below.refl _ _)⟩
  case round =>
    obtain ⟨n, hn, rfl, hG⟩ := hrel
    by_cases hlt : n < N
    · obtain ⟨hO, F1, hX, hF⟩ := hG
      have HO : Hid (Only (fun b => F b ∧ ¬ M b) w wr) := hO
      have HX : Hid (Cx wr F1 M p (mk (gB g (bn m 1) (wrt (g.rm.bs (bn m 1)) 0 ((List.replicate N (m.getD 2 0)).take n))) ht d)) := hX
      have HF : Hid (∀ b, F1 b → F b ∨ w.heap.size ≤ b) := hF
      have hplt2 := hX.lt
      have n1 : (n : Int) < N := by omega
      clear hO hX hF
      go_wp2_with (go_at_call 94; refine (put_at F1 M p _ ht d _ HX.out (bn m 1) n _ _ (m.getD 2 0) (by omega) (by rfl) h8).mono ?_; rintro e w3 ⟨rfl, hg3⟩; have HG3 : Hid _ := hg3; clear hg3)
      go_roundw
      case rel =>
        refine ⟨n + 1, by omega, by go_num, ?_⟩
        have e1 : n < (List.replicate N (m.getD 2 0)).length := by rw [List.length_replicate]; omega
        have e2 : (List.replicate N (m.getD 2 0))[n] = m.getD 2 0 := List.getElem_replicate _
        have := Goes.then HO.out HF.out HG3.out
        rw [gB_gB, gB_bs] at this
        rw [wrt_in _ _ _ n e1, e2, Nat.zero_add]
        exact this
      case measure => simp [intOf]; omega
    · have e : n = N := by omega
      subst e
      have HG : Hid _ := hG
      clear hG
      go_wp2
      go_end0
      refine ⟨rfl, _, ?_, HD.out.2⟩
      rw [HD.out.1]
      have := HG.out
      rw [List.take_of_length_le (by rw [List.length_replicate]; omega)] at this
      exact this

theorem wrt_whole (b l : List UInt8) (h : l.length = b.length) : wrt b 0 l = l := by
  refine List.ext_getElem (by rw [wrt_length, h]) (fun i h1 h2 => ?_)
  rw [wrt_length] at h1
  rw [wrt_get _ _ _ h1, if_pos ⟨by omega, by omega⟩, Nat.sub_zero]
  simp [List.getD, h2]

/-- a slice that is new since w stays as it is while the context of w goes on -/
theorem Goes.bs_new {F M : Nat → Prop} {w w2 wr : World} {p : Nat} {C : Ctx} {ao : Option Addr} {cap : Nat} {l : List UInt8} (hF : ∀ b, F b → b < w.heap.size) (hn : ∀ b, blk ao b → w.heap.size ≤ b) (hg : Goes F M w2 wr p C) (hB : BS w2 ao cap l) : BS wr ao cap l :=
  hB.only hg.1 (fun b q k => by have := hF b k.1; have := hn b q; omega)

set_option maxHeartbeats 2000000 in
theorem cdraw_any (F M : Nat → Prop) (p : Nat) (g : Gst) (ht : Nat → Int) (d : Int) (ao : Option Addr) (cap : Nat) (m : List UInt8) (w : World) (hC : Cx w F M p (mk g ht d)) (hR : okR g.rm) (hH : okH g.rm ht) (hB : BS w ao cap m) (h1 : bn m 0 = 7) (h0 : per g.rm m = 0) :
    Calls Try.prog 80 #[.pointer (some ⟨p, 0, none⟩), .slice ao m.length cap] w fun e w' => e = .returned (.tuple #[]) ∧ Done F M w w' p g m d := by
  have HC : Hid (Cx w F M p (mk g ht d)) := hC
  have HB : Hid (BS w ao cap m) := hB
  have HR : Hid (okR g.rm) := hR
  have hplt := hC.lt
  rw [per_7 h1] at h0
  have HK : Hid (der g.rm m = 0) := h0
  have h8 : bn m 1 < 8 := (of_decide_eq_true (der_ok h0).t1 : _ ∧ _).1
  obtain ⟨L, hL⟩ : ∃ L, (dst g.rm m (g.rm.bs (bn m 1)).length).1 = L := ⟨_, rfl⟩
  obtain ⟨cst, hcst⟩ : ∃ cst, (dst g.rm m (g.rm.bs (bn m 1)).length).2 = cst := ⟨_, rfl⟩
  have HL : Hid ((dst g.rm m (g.rm.bs (bn m 1)).length).1 = L) := hL
  have HCST : Hid ((dst g.rm m (g.rm.bs (bn m 1)).length).2 = cst) := hcst
  have hlen : L.length = (g.rm.bs (bn m 1)).length := by rw [← hL]; exact dst_len _ _ _
  obtain ⟨N, hN⟩ : ∃ N, L.length = N := ⟨_, rfl⟩
  have HN : Hid (L.length = N) := hN
  have hs : N ≤ 576 := by rw [← hN, hlen]; exact hR.len _ h8
  have HD : Hid (gD g m = gB g (bn m 1) (wrt (g.rm.bs (bn m 1)) 0 L) ∧ okH (pd g.rm m).2.2 ht) := by
    have e := pd_7 (R := g.rm) h1
    have e2 : dwR g.rm m = rBytes g.rm (bn m 1) L := by rw [← hL]; exact if_pos h0
    rw [e2] at e
    refine (⟨?_, ?_⟩ : _ ∧ _)
    · rw [wrt_whole _ _ hlen]; unfold gD gB; rw [e]; simp
    · rw [e]; exact hH.bytes hlen
  clear hC hR hB h1 h0 hH hN hL hcst hlen
  go_enter Try.func80, Try.ntmps80
  go_wp2_with (first
    | (go_at_call 52; refine (field_at _ _ _ _ _ HB.out 1 (by omega)).mono ?_; rintro e w2 ⟨rfl, w2e⟩; subst w2)
    | (go_at_call 54; refine (drawn_any F M p g ht d _ _ _ _ HC.out HR.out HB.out HK.out).mono ?_; rw [HL.out, HCST.out, HN.out]; rintro e w3 ⟨⟨ao3, cap3, rfl, hb3, hn3⟩, hw3⟩; have B3 : Hid (BS w3 ao3 cap3 L) := hb3; have N3 : Hid (∀ b, blk ao3 b → w.heap.size ≤ b) := hn3; have W3 : Hid (Below w.heap.size w w3) := hw3; clear hb3 hn3 hw3))
  have HF0 : Hid (∀ b, F b → b < w.heap.size) := fun b q => HC.out.inn q
  go_loopw [19, 7, 8] (fun i _ _ wr => ∃ n : Nat, n ≤ N ∧ i = .int .i64 n ∧ Goes F M w3 wr p (mk (gB g (bn m 1) (wrt (g.rm.bs (bn m 1)) 0 (L.take n))) ht d)) (fun i _ _ _ => N - (intOf i).toNat)
  case atStart => exact ⟨0, by omega, rfl, by rw [List.take_zero, wrt_nil, gB_self]; exact Goes.stay (HC.out.below W3.out) (Below.refl _ _)⟩
  case round =>
    obtain ⟨n, hn, rfl, hG⟩ := hrel
    by_cases hlt : n < N
    · have hb := Goes.bs_new HF0.out N3.out hG B3.out
      have hle := hb.hle
      rw [HN.out] at hle
      obtain ⟨bb, oo, hao, hbb⟩ := hb.there (by omega)
      have hnl : n < L.length := by rw [HN.out]; exact hlt
      have hc := hb.hce _ hao n hnl
      simp only at hc
      obtain ⟨u, hu⟩ : ∃ u, L[n]'hnl = u := ⟨_, rfl⟩
      rw [hu] at hc
      have HU : Hid (∃ h : n < L.length, L[n]'h = u) := ⟨hnl, hu⟩
      obtain ⟨hO, F1, hX, hF⟩ := hG
      have HO : Hid (Only (fun b => F b ∧ ¬ M b) w3 wr) := hO
      have HX : Hid (Cx wr F1 M p (mk (gB g (bn m 1) (wrt (g.rm.bs (bn m 1)) 0 (L.take n))) ht d)) := hX
      have HF : Hid (∀ b, F1 b → F b ∨ w3.heap.size ≤ b) := hF
      have hplt2 := hX.lt
      have n0 : (0 : Int) ≤ n := by omega
      have n1 : (n : Int) < N := by omega
      clear hO hX hF hb hu hnl
      subst hao
      go_wp2_with (go_at_call 94; refine (put_at F1 M p _ ht d _ HX.out (bn m 1) n _ _ u (by omega) (by rfl) h8).mono ?_; rintro e w4 ⟨rfl, hg4⟩; have HG4 : Hid _ := hg4; clear hg4)
      go_roundw
      case rel =>
        refine ⟨n + 1, by omega, by go_num, ?_⟩
        obtain ⟨e1, e2⟩ := HU.out
        have := Goes.then HO.out HF.out HG4.out
        rw [gB_gB, gB_bs] at this
        rw [wrt_in _ _ _ n e1, e2, Nat.zero_add]
        exact this
      case measure => simp [intOf]; omega
    · have e : n = N := by omega
      subst e
      have HG : Hid _ := hG
      clear hG
      go_wp2
      go_end0
      refine ⟨rfl, _, ?_, HD.out.2⟩
      rw [HD.out.1]
      have := HG.out
      rw [List.take_of_length_le (by rw [HN.out]; omega)] at this
      exact Goes.of_below W3.out this

set_option maxHeartbeats 2000000 in
theorem ccode_any (F M : Nat → Prop) (p : Nat) (g : Gst) (ht : Nat → Int) (d : Int) (ao : Option Addr) (cap : Nat) (m : List UInt8) (w : World) (hC : Cx w F M p (mk g ht d)) (hH : okH g.rm ht) (hB : BS w ao cap m) (h1 : bn m 0 = 5) (h0 : per g.rm m = 0) (hw : m.length = pz m) :
    Calls Try.prog 78 #[.pointer (some ⟨p, 0, none⟩), .slice ao m.length cap] w fun e w' => e = .returned (.tuple #[]) ∧ Done F M w w' p g m d := by
  rw [per_5 h1] at h0
  obtain ⟨c1, c2, c3⟩ := cer_ok h0
  have HD : Hid (gD g m = { g with rm := rCode g.rm (bn m 1) (m.drop 3) } ∧ okH (pd g.rm m).2.2 ht) := by
    have e := pd_5 (R := g.rm) h1
    rw [h0, if_pos rfl, if_pos rfl] at e
    refine (⟨?_, ?_⟩ : _ ∧ _)
    · unfold gD; rw [e]; simp
    · rw [e]; exact hH
  have HB : Hid (BS w ao cap m) := hB
  have H3 : Hid (3 ≤ m.length) := by have := pz_code h1 hw; exact (by omega : 3 ≤ m.length)
  obtain ⟨ad, cp, hA, hM⟩ := hC
  have HA : Hid (CtxAt w F p ad cp (mk g ht d)) := hA
  have HM : Hid (∀ b, M b → blk (ad 8) b) := hM
  have q0 := hA.hs (bn m 1) c1
  have q1 := hA.cd (bn m 1) c1
  have q2 := hA.lt
  have q3 := hA.fz
  have d1 : ¬ (4 : Int) ≤ bn m 1 := by omega
  have d2 : (0 : Int) ≤ bn m 1 := by omega
  have d3 : (bn m 1 : Int) < 4 := by omega
  clear hB h1 h0 hw hA hM c2 c3 hH
  go_enter Try.func78, Try.ntmps78
  go_wp2_with (first | (go_at_call 52; refine (field_at _ _ _ _ _ HB.out 1 (by omega)).mono ?_; rintro e w2 ⟨rfl, w2e⟩; subst w2) | (go_at_call 89; refine (codeOf_any _ _ _ _ HB.out H3.out).mono ?_; rintro e w2 ⟨rfl, w2e⟩; subst w2))
  go_end0
  refine ⟨rfl, ht, ?_, HD.out.2⟩
  rw [HD.out.1]
  exact Goes.putProg HA.out HM.out c1 true (m.drop 3)

end Go.Proofs.Ytbedkfgdhaajaab

namespace Go.Proofs.Ytbedkfgdhaajaab
open Go.RowKit

set_option maxHeartbeats 1000000 in
theorem cdo_any (F : Nat → Prop) (p : Nat) (g : Gst) (ht : Nat → Int) (d : Int) (ao : Option Addr) (cap : Nat) (m : List UInt8) (w : World) (hC : Cx w F (blk ao) p (mk g ht d)) (hR : okR g.rm) (hH : okH g.rm ht) (hB : BS w ao cap m) (h0 : per g.rm m = 0) (hw : m.length = pz m) (h9 : g.out.length ≤ 10000) :
    Calls Try.prog 55 #[.pointer (some ⟨p, 0, none⟩), .slice ao m.length cap] w fun e w' => e = .returned (.tuple #[]) ∧ Done F (blk ao) w w' p g m d := by
  have HC : Hid (Cx w F (blk ao) p (mk g ht d)) := hC
  have HR : Hid (okR g.rm) := hR
  have HH : Hid (okH g.rm ht) := hH
  have HB : Hid (BS w ao cap m) := hB
  have H0 : Hid (per g.rm m = 0) := h0
  have HW : Hid (m.length = pz m) := hw
  have H9 : Hid (g.out.length ≤ 10000) := h9
  clear hC hR hH hB h0 hw h9
  by_cases h1 : bn m 0 = 1
  · have HV : Hid ((bn m 0 : Int) = 1) := (by omega : (bn m 0 : Int) = 1)
    have HE : Hid (bn m 0 = 1) := h1
    clear h1
    go_enter Try.func55, Try.ntmps55
    go_wp2_with (first | (go_at_call 52; refine (field_0 _ _ _ _ _ _ HB.out (by omega) HV.out).mono ?_; rintro e w2 ⟨rfl, w2e⟩; subst w2) | (go_at_call 74; refine (ccreate_any F (blk ao) p g ht d _ _ _ _ HC.out HR.out HH.out HB.out HE.out H0.out).mono ?_; rintro e w3 ⟨rfl, hb3⟩; have HG : Hid _ := hb3; clear hb3))
    go_end0
    exact ⟨rfl, HG.out⟩
  · by_cases h2 : bn m 0 = 2
    · have HV : Hid ((bn m 0 : Int) = 2) := (by omega : (bn m 0 : Int) = 2)
      have HE : Hid (bn m 0 = 2) := h2
      clear h1 h2
      go_enter Try.func55, Try.ntmps55
      go_wp2_with (first | (go_at_call 52; refine (field_0 _ _ _ _ _ _ HB.out (by omega) HV.out).mono ?_; rintro e w2 ⟨rfl, w2e⟩; subst w2) | (go_at_call 75; refine (cdrop_any F (blk ao) p g ht d _ _ _ _ HC.out HH.out HB.out HE.out H0.out).mono ?_; rintro e w3 ⟨rfl, hb3⟩; have HG : Hid _ := hb3; clear hb3))
      go_end0
      exact ⟨rfl, HG.out⟩
    · by_cases h3 : bn m 0 = 3
      · have HV : Hid ((bn m 0 : Int) = 3) := (by omega : (bn m 0 : Int) = 3)
        have HE : Hid (bn m 0 = 3) := h3
        clear h1 h2 h3
        go_enter Try.func55, Try.ntmps55
        go_wp2_with (first | (go_at_call 52; refine (field_0 _ _ _ _ _ _ HB.out (by omega) HV.out).mono ?_; rintro e w2 ⟨rfl, w2e⟩; subst w2) | (go_at_call 76; refine (cwrite_any F p g ht d _ _ _ _ HC.out HH.out HB.out HE.out H0.out HW.out).mono ?_; rintro e w3 ⟨rfl, hb3⟩; have HG : Hid _ := hb3; clear hb3))
        go_end0
        exact ⟨rfl, HG.out⟩
      · by_cases h4 : bn m 0 = 4
        · have HV : Hid ((bn m 0 : Int) = 4) := (by omega : (bn m 0 : Int) = 4)
          have HE : Hid (bn m 0 = 4) := h4
          clear h1 h2 h3 h4
          go_enter Try.func55, Try.ntmps55
          go_wp2_with (first | (go_at_call 52; refine (field_0 _ _ _ _ _ _ HB.out (by omega) HV.out).mono ?_; rintro e w2 ⟨rfl, w2e⟩; subst w2) | (go_at_call 77; refine (cread_any F (blk ao) p g ht d _ _ _ _ HC.out HH.out HB.out HE.out H0.out H9.out).mono ?_; rintro e w3 ⟨rfl, hb3⟩; have HG : Hid _ := hb3; clear hb3))
          go_end0
          exact ⟨rfl, HG.out⟩
        · by_cases h5 : bn m 0 = 5
          · have HV : Hid ((bn m 0 : Int) = 5) := (by omega : (bn m 0 : Int) = 5)
            have HE : Hid (bn m 0 = 5) := h5
            clear h1 h2 h3 h4 h5
            go_enter Try.func55, Try.ntmps55
            go_wp2_with (first | (go_at_call 52; refine (field_0 _ _ _ _ _ _ HB.out (by omega) HV.out).mono ?_; rintro e w2 ⟨rfl, w2e⟩; subst w2) | (go_at_call 78; refine (ccode_any F (blk ao) p g ht d _ _ _ _ HC.out HH.out HB.out HE.out H0.out HW.out).mono ?_; rintro e w3 ⟨rfl, hb3⟩; have HG : Hid _ := hb3; clear hb3))
            go_end0
            exact ⟨rfl, HG.out⟩
          · by_cases h7 : bn m 0 = 7
            · have HV : Hid ((bn m 0 : Int) = 7) := (by omega : (bn m 0 : Int) = 7)
              have HE : Hid (bn m 0 = 7) := h7
              clear h1 h2 h3 h4 h5 h7
              go_enter Try.func55, Try.ntmps55
              go_wp2_with (first | (go_at_call 52; refine (field_0 _ _ _ _ _ _ HB.out (by omega) HV.out).mono ?_; rintro e w2 ⟨rfl, w2e⟩; subst w2) | (go_at_call 80; refine (cdraw_any F (blk ao) p g ht d _ _ _ _ HC.out HR.out HH.out HB.out HE.out H0.out).mono ?_; rintro e w3 ⟨rfl, hb3⟩; have HG : Hid _ := hb3; clear hb3))
              go_end0
              exact ⟨rfl, HG.out⟩
            · have h6 : bn m 0 = 6 := by
                rcases Nat.lt_trichotomy (bn m 0) 6 with q | q | q
                · exact absurd (per_o (R := g.rm) h1 h2 h3 h4 h5 (by omega) h7) (by rw [H0.out]; omega)
                · exact q
                · exact absurd (per_o (R := g.rm) h1 h2 h3 h4 h5 (by omega) h7) (by rw [H0.out]; omega)
              have HV : Hid ((bn m 0 : Int) = 6) := (by omega : (bn m 0 : Int) = 6)
              have HE : Hid (bn m 0 = 6) := h6
              clear h1 h2 h3 h4 h5 h6 h7
              go_enter Try.func55, Try.ntmps55
              go_wp2_with (first | (go_at_call 52; refine (field_0 _ _ _ _ _ _ HB.out (by omega) HV.out).mono ?_; rintro e w2 ⟨rfl, w2e⟩; subst w2) | (go_at_call 79; refine (cclear_any F (blk ao) p g ht d _ _ _ _ HC.out HR.out HH.out HB.out HE.out H0.out).mono ?_; rintro e w3 ⟨rfl, hb3⟩; have HG : Hid _ := hb3; clear hb3))
              go_end0
              exact ⟨rfl, HG.out⟩

/-- .. of a context that something has been done to -/
theorem cdo_ex {F : Nat → Prop} {p : Nat} {g : Gst} {ht : Nat → Int} {d : Int} {ao : Option Addr} {cap : Nat} {m : List UInt8} {w0 w : World} (hG : Goes F (blk ao) w0 w p (mk g ht d)) (hR : okR g.rm) (hH : okH g.rm ht) (hB : BS w0 ao cap m) (h0 : per g.rm m = 0) (hw : m.length = pz m) (h9 : g.out.length ≤ 10000) :
    Calls Try.prog 55 #[.pointer (some ⟨p, 0, none⟩), .slice ao m.length cap] w fun e w' => e = .returned (.tuple #[]) ∧ Done F (blk ao) w0 w' p g m d := by
  have hb := hG.bs hB
  obtain ⟨h1, F1, h2, h3⟩ := hG
  refine (cdo_any F1 p g ht d ao cap m w h2 hR hH hb h0 hw h9).mono ?_
  rintro e w' ⟨he, ht', hg, hh⟩
  exact ⟨he, ht', Goes.then h1 h3 hg, hh⟩

theorem fin_aux {w1 w2 : World} {O : Obj} {F1 : Nat → Prop} {p : Nat} {ad : Nat → Option Addr} {cp : Nat → Nat} {C : Ctx} (hA : CtxAt w1 F1 p ad cp C) (ho : Only (blk (ad 9)) (w1.alloc O) w2) :
    p < w2.heap.size ∧ (∀ o, w2.cell? ⟨p, o, none⟩ = w1.cell? ⟨p, o, none⟩) ∧ (∀ o, w2.frozen? ⟨p, o, none⟩ = false) := by
  have hlt := hA.lt
  have hs := ho.size
  rw [World.size_alloc] at hs
  have h9 := hA.own 9 (by omega)
  refine ⟨by omega, fun o => ?_, fun o => ?_⟩
  · rw [ho.cell (by simp; omega) h9, World.cell?_alloc_past _ _ _ hlt]
  · rw [ho.frozen (by simp; omega) h9, World.frozen?_alloc_past _ _ _ hlt]; exact hA.fz o

/-- the bytes of a command are taken off -/
theorem cut_close {F : Nat → Prop} {w : World} {p : Nat} {ad : Nat → Option Addr} {cp : Nat → Nat} {g : Gst} {ht : Nat → Int} {d : Int} {ao8 : Option Addr} {n n8 c8 : Nat} (HA : CtxAt w F p ad cp (mk g ht d))
    (hn : n ≤ g.wait.length) (h8 : ao8 = if cp 8 = n then ad 8 else (ad 8).map (·.add n)) (hn8 : n8 = g.wait.length - n) (hc8 : c8 = cp 8 - n) :
    Goes F (fun _ => False) w ((w.setCell ⟨p, 24, none⟩ (.slice ao8 n8 c8)).setCell ⟨p, 25, none⟩ (.int .i64 0)) p (mk { g with wait := g.wait.drop n } ht 0) := by
  have hb := HA.bs 8 (by omega)
  have hb' := hb.drop (ao' := ao8) n hn h8
  rw [← hc8] at hb'
  have h4 := Goes.put8 HA (Only.refl _ _) hb' (n := n8) (by rw [List.length_drop]; exact hn8) (fun b g => .inl (blk_drop h8 g))
  have e : updA (mk g ht d).by_ 8 (((mk g ht d).by_ 8).drop n) = bys g.rm.bs (g.wait.drop n) g.out := bys_upd_8 _ _ _ _
  rw [e] at h4
  obtain ⟨q1, F1, q2, q3⟩ := h4
  exact Goes.then q1 q3 (Goes.setDue q2 0)

/-- .. of a context that something has been done to -/
theorem cut_ex {F M : Nat → Prop} {w0 w : World} {p : Nat} {g : Gst} {ht : Nat → Int} {d : Int} (hG : Goes F M w0 w p (mk g ht d)) : ∃ F1 ad cp, CtxAt w F1 p ad cp (mk g ht d) ∧ ∀ ao8 n n8 c8, n ≤ g.wait.length → (ao8 = if cp 8 = n then ad 8 else (ad 8).map (·.add n)) → n8 = g.wait.length - n → c8 = cp 8 - n →
    Goes F (fun _ => False) w0 ((w.setCell ⟨p, 24, none⟩ (.slice ao8 n8 c8)).setCell ⟨p, 25, none⟩ (.int .i64 0)) p (mk { g with wait := g.wait.drop n } ht 0) := by
  obtain ⟨h1, F1, h2, h3⟩ := hG.loose (N := fun _ => False) (fun _ q => q.elim)
  obtain ⟨ad, cp, hA, _⟩ := h2
  exact ⟨F1, ad, cp, hA, fun ao8 n n8 c8 a b c e => Goes.then h1 h3 (cut_close hA a b c e)⟩

/-- the error's byte is appended, and the bytes of the command are taken off -/
theorem err_close {F1 : Nat → Prop} {w1 w2 : World} {O : Obj} {p : Nat} {ad : Nat → Option Addr} {cp : Nat → Nat} {g : Gst} {ht : Nat → Int} {d : Int} {ao2 ao8 : Option Addr} {cap2 n9 n n8 c8 : Nat} {r : List UInt8}
    (HA : CtxAt w1 F1 p ad cp (mk g ht d)) (KO : Only (blk (ad 9)) (w1.alloc O) w2) (KB : BS w2 ao2 cap2 (g.out ++ r)) (KK : ∀ b, blk ao2 b → blk (ad 9) b ∨ (w1.alloc O).heap.size ≤ b) (hn9 : n9 = (g.out ++ r).length)
    (hn : n ≤ g.wait.length) (h8 : ao8 = if cp 8 = n then ad 8 else (ad 8).map (·.add n)) (hn8 : n8 = g.wait.length - n) (hc8 : c8 = cp 8 - n) :
    Goes F1 (fun _ => False) w1 (((w2.setCell ⟨p, 26, none⟩ (.slice ao2 n9 cap2)).setCell ⟨p, 24, none⟩ (.slice ao8 n8 c8)).setCell ⟨p, 25, none⟩ (.int .i64 0)) p (mk { gO g r with wait := g.wait.drop n } ht 0) := by
  have h3 := (HA.alloc O).put (k := 9) (by omega) KO KB hn9 KK
  have e : updA (mk g ht d).by_ 9 (g.out ++ r) = bys g.rm.bs g.wait (g.out ++ r) := bys_upd_9 _ _ _ _
  rw [e] at h3
  have h4 := cut_close (g := gO g r) (ht := ht) (d := d) (n := n) (ao8 := ao8) (n8 := n8) (c8 := c8) h3 hn h8 hn8 hc8
  have o1 : Only (fun b => F1 b ∧ ¬ False) w1 w2 := (Only.of_below ((Below.refl w1.heap.size w1).alloc (Nat.le_refl _) O)).trans KO (fun b q => .inl ⟨HA.fb 9 b (by omega) q, id⟩)
  refine Goes.then (M := fun _ => False) (F1 := more F1 (w1.alloc O) w2) (o1.setCell (.inl ⟨HA.fp, id⟩) _) (fun b q => ?_) h4
  rcases q with q | q
  · exact .inl q
  · have := q.1; rw [World.size_alloc] at this; exact .inr (by omega)

theorem eb_val {e : Int} (h0 : 0 ≤ e) (h1 : e ≤ 8) : e = ((eb e).toNat : Int) := by
  unfold eb
  simp
  omega

set_option maxHeartbeats 2000000 in
theorem finish_any (F : Nat → Prop) (p : Nat) (g : Gst) (ht : Nat → Int) (d : Int) (ao : Option Addr) (cap : Nat) (w : World) (hC : Cx w F (blk ao) p (mk g ht d)) (hH : okH g.rm ht) (hP : okP g) (hn : ¬ pnx g = 0) (hB : BS w ao cap (pcm g)) :
    Calls Try.prog 38 #[.pointer (some ⟨p, 0, none⟩), .slice ao (pcm g).length cap] w fun e w' => e = .returned (.tuple #[]) ∧ ∃ ht', Goes F (fun _ => False) w w' p (mk (pfin g) ht' 0) ∧ okH (pfin g).rm ht' := by
  have HC : Hid (Cx w F (blk ao) p (mk g ht d)) := hC
  have HR : Hid (okR g.rm) := hP.rm
  have HH : Hid (okH g.rm ht) := hH
  obtain ⟨z1, z2⟩ := pcm_len hn
  obtain ⟨y1, y2, y3, y4⟩ := pnx_some hn
  have hw1 := hP.wt
  have ho1 := hP.ot
  have HN : Hid (pfin g = ⟨true, (pd g.rm (pcm g)).2.2, g.wait.drop (pcm g).length, 0, g.out ++ (pd g.rm (pcm g)).1⟩) := by
    rw [z1]; exact (rfl : pfin g = _)
  have HML : Hid ((pcm g).length ≤ g.wait.length) := (by omega : (pcm g).length ≤ g.wait.length)
  have H2 : Hid ((pcm g).length ≤ 2000) := (by omega : (pcm g).length ≤ 2000)
  have H9 : Hid (g.out.length ≤ 2000) := (by omega : g.out.length ≤ 2000)
  have HW : Hid ((pcm g).length = pz (pcm g)) := z2
  clear z1 z2 y1 y2 y3 y4 hw1 ho1 hP hn hC hH
  generalize pcm g = m at *
  have HB : Hid (BS w ao cap m) := hB
  clear hB
  have d01 := per_bd g.rm m
  obtain ⟨d0, d1⟩ := d01
  by_cases he : per g.rm m = 0
  · have HE : Hid (per g.rm m = 0) := he
    have de : (per g.rm m == 0) = true := by rw [beq_iff_eq]; exact he
    clear he
    go_enter Try.func38, Try.ntmps38
    go_wp2_with (first | (go_at_call 51; refine (fault_any F (blk ao) p g ht d _ _ _ _ HC.out HR.out HB.out HW.out H2.out).mono ?_; rintro e w1 ⟨rfl, hb1⟩; have HB1 : Hid (BS w1 ao cap m) := HB.out.below hb1; have HW1 : Hid (Below w.heap.size w w1) := hb1; obtain ⟨ad, cp, hA1, hM1⟩ := HC.out.below hb1; have q9 := hA1.sl 9 (by omega); have qlt := hA1.lt; simp only [show slot 9 = 26 from rfl, show (mk g ht d).by_ 9 = g.out from rfl] at q9; have HS : Hid (BS w1 (ad 9) (cp 9) g.out) := hA1.bs 9 (by omega); have HA : Hid (CtxAt w1 F p ad cp (mk g ht d)) := hA1; have HM : Hid (∀ b, blk ao b → blk (ad 8) b) := hM1; clear hA1 hM1 hb1) | (at_builtin; refine wpList_append_b rfl (.tmp 12) (.tmp 15) 51 51 rfl 5 Try.underlying51 info_byte (HS.out.alloc _) rfl rfl _ [eb (per g.rm m)] rfl (BS.src (bs_one w1 5 (eb (per g.rm m)) _ (eb_val d0 d1)) Try.underlying51) (by have := H9.out; simp; omega) ?_; intro ao2 cap2 w2 hb2 ho2 hk2; obtain ⟨qlt2, c2, f2⟩ := fin_aux HA.out ho2; have q9' := (c2 26).trans q9; have f34 := f2 26; have K3 : Hid (∀ n9, n9 = (g.out ++ [eb (per g.rm m)]).length → Goes F (blk ao) w1 (w2.setCell ⟨p, 26, none⟩ (.slice ao2 n9 cap2)) p (mk (gO g [eb (per g.rm m)]) ht d)) := fun n9 h => app_close HA.out HM.out ho2 hb2 hk2 h; clear hb2 ho2 hk2 q9 c2 qlt) | (go_at_call 55; refine (cdo_ex (K3.out _ (by simp)) HR.out HH.out HB1.out HE.out HW.out (by show (g.out ++ [_]).length ≤ 10000; have := H9.out; rw [List.length_append]; simp; omega)).mono ?_; rintro e w4 ⟨rfl, ht4, hg4, hh4⟩; obtain ⟨F4, ad4, cp4, hA4, hcut⟩ := cut_ex hg4; have r8 := hA4.sl 8 (by omega); have r33 := hA4.du; have rl := hA4.lt; have rf := hA4.fz; have rle := (hA4.bs 8 (by omega)).hle; simp only [show slot 8 = 24 from rfl, show (mk (gD (gO g [eb (per g.rm m)]) m) ht4 d).by_ 8 = g.wait from rfl] at r8 rle; have HCUT : Hid _ := hcut; have HH4 : Hid (okH (pd (gO g [eb (per g.rm m)]).rm m).2.2 ht4) := hh4; have hml := HML.out; clear hA4 hcut hg4 hh4 q9' f34 f2 qlt2))
    all_goals
      go_end0
      refine ⟨rfl, ht4, ?_, ?_⟩
      · have e : mk (pfin g) ht4 0 = mk { gD (gO g [eb (per g.rm m)]) m with wait := (gD (gO g [eb (per g.rm m)]) m).wait.drop m.length } ht4 0 := by
          rw [HN.out]
          unfold mk gD gO
          simp only [List.append_assoc, List.singleton_append]
          rw [← pd_head]
        rw [e]
        refine Goes.of_below HW1.out (HCUT.out _ _ _ _ HML.out ?_ rfl ?_)
        · first | rw [if_pos (by assumption)] | rw [if_neg (by assumption)]
        · omega
      · rw [HN.out]; exact HH4.out
  · have HE : Hid (¬ per g.rm m = 0) := he
    have de : (per g.rm m == 0) = false := beq_false_of_ne he
    clear he
    go_enter Try.func38, Try.ntmps38
    go_wp2_with (first | (go_at_call 51; refine (fault_any F (blk ao) p g ht d _ _ _ _ HC.out HR.out HB.out HW.out H2.out).mono ?_; rintro e w1 ⟨rfl, hb1⟩; have HB1 : Hid (BS w1 ao cap m) := HB.out.below hb1; have HW1 : Hid (Below w.heap.size w w1) := hb1; obtain ⟨ad, cp, hA1, hM1⟩ := HC.out.below hb1; have q9 := hA1.sl 9 (by omega); have qlt := hA1.lt; simp only [show slot 9 = 26 from rfl, show (mk g ht d).by_ 9 = g.out from rfl] at q9; have HS : Hid (BS w1 (ad 9) (cp 9) g.out) := hA1.bs 9 (by omega); have HA : Hid (CtxAt w1 F p ad cp (mk g ht d)) := hA1; have HM : Hid (∀ b, blk ao b → blk (ad 8) b) := hM1; clear hA1 hM1 hb1) | (at_builtin; refine wpList_append_b rfl (.tmp 12) (.tmp 15) 51 51 rfl 5 Try.underlying51 info_byte (HS.out.alloc _) rfl rfl _ [eb (per g.rm m)] rfl (BS.src (bs_one w1 5 (eb (per g.rm m)) _ (eb_val d0 d1)) Try.underlying51) (by have := H9.out; simp; omega) ?_; intro ao2 cap2 w2 hb2 ho2 hk2; obtain ⟨qlt2, c2, f2⟩ := fin_aux HA.out ho2; have q9' := (c2 26).trans q9; have q8' := (c2 24).trans (HA.out.sl 8 (by omega)); have q33' := (c2 25).trans HA.out.du; have qle := (HA.out.bs 8 (by omega)).hle; simp only [show (mk g ht d).by_ 8 = g.wait from rfl] at q8' qle; have hml := HML.out; have K3 : Hid (∀ n9 ao8 n8 c8, n9 = (g.out ++ [eb (per g.rm m)]).length → m.length ≤ g.wait.length → (ao8 = if cp 8 = m.length then ad 8 else (ad 8).map (·.add m.length)) → n8 = g.wait.length - m.length → c8 = cp 8 - m.length → Goes F (fun _ => False) w1 (((w2.setCell ⟨p, 26, none⟩ (.slice ao2 n9 cap2)).setCell ⟨p, 24, none⟩ (.slice ao8 n8 c8)).setCell ⟨p, 25, none⟩ (.int .i64 0)) p (mk { gO g [eb (per g.rm m)] with wait := g.wait.drop m.length } ht 0)) := fun n9 ao8 n8 c8 a1 a2 a3 a4 a5 => err_close HA.out ho2 hb2 hk2 a1 a2 a3 a4 a5; clear hb2 ho2 hk2 q9 c2 qlt))
    all_goals
      go_end0
      refine ⟨rfl, ht, ?_, ?_⟩
      · have e : mk (pfin g) ht 0 = mk { gO g [eb (per g.rm m)] with wait := g.wait.drop m.length } ht 0 := by
          rw [HN.out, pd_bad HE.out]
          rfl
        rw [e]
        refine Goes.of_below HW1.out (K3.out _ _ _ _ (by simp) HML.out ?_ rfl ?_)
        · first | rw [if_pos (by assumption)] | rw [if_neg (by assumption)]
        · omega
      · rw [HN.out, pd_bad HE.out]; exact HH.out

end Go.Proofs.Ytbedkfgdhaajaab
