/- Walks: a command is done (P8, P10 to P12). -/
import Derived.Test.YtoafhdbgjpkgfabFault
namespace Go.Proofs.Ytoafhdbgjpkgfab
open Go.RowKit

def gB (g : Gst) (h : Nat) (l : List UInt8) : Gst := { g with rm := rBytes g.rm h l }
def gO (g : Gst) (l : List UInt8) : Gst := { g with out := g.out ++ l }

/-- a command is done: the room behind it, its reply behind the first byte -/
def gD (g : Gst) (m : List UInt8) : Gst := { g with rm := (pd g.rm m).2.2, out := g.out ++ (pd g.rm m).1.tail }
def Done (F M : Nat → Prop) (w w' : World) (p : Nat) (g : Gst) (m : List UInt8) (d : Int) : Prop := ∃ ht', Goes F M w w' p (mk (gD g m) ht' d) ∧ okH (pd g.rm m).2.2 ht'

theorem gB_gB (g : Gst) (h : Nat) (l l2 : List UInt8) : gB (gB g h l) h l2 = gB g h l2 := by
  unfold gB rBytes
  simp only [updA_updA]
theorem gB_bs (g : Gst) (h : Nat) (l : List UInt8) : (gB g h l).rm.bs h = l := updA_same _ _ _
theorem gB_self (g : Gst) (h : Nat) : gB g h (g.rm.bs h) = g := by
  have e2 : updA g.rm.bs h (g.rm.bs h) = g.rm.bs := by funext j; unfold updA; split; rename_i e; rw [e]; rfl
  unfold gB rBytes
  rw [e2]
theorem gO_nil (g : Gst) : gO g [] = g := by unfold gO; rw [List.append_nil]
theorem gO_gO (g : Gst) (a b : List UInt8) : gO (gO g a) b = gO g (a ++ b) := by unfold gO; simp only [List.append_assoc]

theorem okH.bytes {R : Rm} {ht : Nat → Int} (h : okH R ht) {k : Nat} {l : List UInt8} (hl : l.length = (R.bs k).length) : okH (rBytes R k l) ht := by
  intro j hj
  have e : (updA R.bs k l j).length = (R.bs j).length := by
    by_cases e : j = k
    · subst e; rw [updA_same]; exact hl
    · rw [updA_other _ _ e]
  show ((updA R.bs k l j).length : Int) = R.wd j * ht j ∧ _
  rw [e]; exact h j hj
theorem okH.create {R : Rm} {ht : Nat → Int} (h : okH R ht) {k a b : Nat} (hb : b ≤ 24) : okH (rCreate R k a b) (updA ht k b) := by
  intro j hj
  show ((updA R.bs k (zeros (a * b)) j).length : Int) = updA R.wd k a j * updA ht k b j ∧ 0 ≤ updA ht k b j ∧ updA ht k b j ≤ 24
  by_cases e : j = k
  · subst e; rw [updA_same, updA_same, updA_same]; simp only [zeros, List.length_replicate]; rw [Int.natCast_mul]; exact ⟨rfl, by omega, by omega⟩
  · rw [updA_other _ _ e, updA_other _ _ e, updA_other _ _ e]; exact h j hj
theorem okH.drop {R : Rm} {ht : Nat → Int} (h : okH R ht) {k : Nat} : okH (rDrop R k) (updA ht k 0) := by
  intro j hj
  show ((updA R.bs k [] j).length : Int) = updA R.wd k 0 j * updA ht k 0 j ∧ 0 ≤ updA ht k 0 j ∧ updA ht k 0 j ≤ 24
  by_cases e : j = k
  · subst e; rw [updA_same, updA_same, updA_same]; simp
  · rw [updA_other _ _ e, updA_other _ _ e, updA_other _ _ e]; exact h j hj

theorem put_at (F M : Nat → Prop) (p : Nat) (g : Gst) (ht : Nat → Int) (d : Int) (w : World) (hC : Cx w F M p (mk g ht d)) (h k : Nat) (x v : Int) (u : UInt8) (hx : x = k) (hv : v = u.toNat) (h8 : h < 8) :
    Calls Try.prog 68 #[.pointer (some ⟨p, 0, none⟩), .int .i64 h, .int .i64 x, .int .u8 v] w fun e w' => e = .returned (.tuple #[]) ∧ Goes F M w w' p (mk (gB g h ((g.rm.bs h).set k u)) ht d) := by
  subst hx hv; exact put_g F M p g ht d w hC h k u h8
theorem byte_at (F M : Nat → Prop) (p : Nat) (g : Gst) (ht : Nat → Int) (d : Int) (w : World) (hC : Cx w F M p (mk g ht d)) (h k : Nat) (x : Int) (hx : x = k) :
    Calls Try.prog 69 #[.pointer (some ⟨p, 0, none⟩), .int .i64 h, .int .i64 x] w fun e w' => e = .returned (.int .u8 (((obs g.rm h).getD k 0).toNat : Int)) ∧ w' = w := by
  subst hx; exact byte_g F M p g ht d w hC h k

set_option maxHeartbeats 1000000 in
theorem ccreate_any (F M : Nat → Prop) (p : Nat) (g : Gst) (ht : Nat → Int) (d : Int) (ao : Option Addr) (cap : Nat) (m : List UInt8) (w : World) (hC : Cx w F M p (mk g ht d)) (hR : okR g.rm) (hH : okH g.rm ht) (hB : BS w ao cap m) (h1 : bn m 0 = 1) (h0 : per g.rm m = 0) :
    Calls Try.prog 52 #[.pointer (some ⟨p, 0, none⟩), .slice ao m.length cap] w fun e w' => e = .returned (.tuple #[]) ∧ Done F M w w' p g m d := by
  have HC : Hid (Cx w F M p (mk g ht d)) := hC
  have HR : Hid (okR g.rm) := hR
  have HB : Hid (BS w ao cap m) := hB
  have hlt := hC.lt
  rw [per_1 h1] at h0
  have HK : Hid (can g.rm.bs (bn m 1) (bn m 2) (bn m 3) = 0) := h0
  have HD : Hid (gD g m = { g with rm := rCreate g.rm (bn m 1) (bn m 2) (bn m 3) } ∧ okH (pd g.rm m).2.2 (updA ht (bn m 1) (bn m 3))) := by
    have e := pd_1 (R := g.rm) h1
    rw [h0, if_pos rfl, if_pos rfl] at e
    refine (⟨?_, ?_⟩ : _ ∧ _)
    · unfold gD; rw [e]; simp
    · rw [e]; exact hH.create (can_ok h0).2.2.2.1.2
  clear hC hR hB h1 h0 hH
  go_enter Try.func52, Try.ntmps52
  go_wp2_with (first | (go_at_call 40; refine (field_at _ _ _ _ _ HB.out 1 (by omega)).mono ?_; rintro e w2 ⟨rfl, rfl⟩) | (go_at_call 40; refine (field_at _ _ _ _ _ HB.out 2 (by omega)).mono ?_; rintro e w2 ⟨rfl, rfl⟩) | (go_at_call 40; refine (field_at _ _ _ _ _ HB.out 3 (by omega)).mono ?_; rintro e w2 ⟨rfl, rfl⟩) | (go_at_call 65; refine (create_g F M p g ht d _ HC.out _ _ _ HR.out HK.out).mono ?_; rintro e w3 ⟨rfl, hb3⟩; have HG : Hid _ := hb3; clear hb3))
  go_end0
  refine ⟨rfl, _, ?_, HD.out.2⟩
  rw [HD.out.1]; exact HG.out

set_option maxHeartbeats 1000000 in
theorem cdrop_any (F M : Nat → Prop) (p : Nat) (g : Gst) (ht : Nat → Int) (d : Int) (ao : Option Addr) (cap : Nat) (m : List UInt8) (w : World) (hC : Cx w F M p (mk g ht d)) (hH : okH g.rm ht) (hB : BS w ao cap m) (h1 : bn m 0 = 2) (h0 : per g.rm m = 0) :
    Calls Try.prog 53 #[.pointer (some ⟨p, 0, none⟩), .slice ao m.length cap] w fun e w' => e = .returned (.tuple #[]) ∧ Done F M w w' p g m d := by
  have HC : Hid (Cx w F M p (mk g ht d)) := hC
  have HB : Hid (BS w ao cap m) := hB
  have hlt := hC.lt
  have ht' := per_thr (by omega) h0
  have HK : Hid (thr g.rm (bn m 1) = true) := ht'
  have HD : Hid (gD g m = { g with rm := rDrop g.rm (bn m 1) } ∧ okH (pd g.rm m).2.2 (updA ht (bn m 1) 0)) := by
    have e := pd_2 h1 ht'
    refine (⟨?_, ?_⟩ : _ ∧ _)
    · unfold gD; rw [e]; simp
    · rw [e]; exact hH.drop
  clear hC hB h1 h0 hH ht'
  go_enter Try.func53, Try.ntmps53
  go_wp2_with (first | (go_at_call 40; refine (field_at _ _ _ _ _ HB.out 1 (by omega)).mono ?_; rintro e w2 ⟨rfl, rfl⟩) | (go_at_call 66; refine (drop_g F M p g ht d _ HC.out _ HK.out).mono ?_; rintro e w3 ⟨rfl, hb3⟩; have HG : Hid _ := hb3; clear hb3))
  go_end0
  refine ⟨rfl, _, ?_, HD.out.2⟩
  rw [HD.out.1]; exact HG.out

theorem pz_write {m : List UInt8} (h : bn m 0 = 3) (hw : m.length = pz m) : m.length = 5 + bn m 4 := by
  rw [pz_n7 (by omega)] at hw
  by_cases h3 : m.length < 5
  · by_cases h0 : m.length = 0
    · rw [bn_out (by omega)] at h; omega
    · have e : dsz m = 0 := by unfold dsz; simp [h0, h, h3]
      omega
  · have e : dsz m = 5 + bn m 4 := by
      unfold dsz
      rw [if_neg (by omega)]
      simp [h]
      intro q
      omega
    omega

/-- a Goes that goes on -/
theorem Goes.more {F M F1 : Nat → Prop} {w w1 w2 : World} {p : Nat} {C' : Ctx} (h : Only (fun b => F b ∧ ¬ M b) w w1) (h1 : ∀ b, F1 b → F b ∨ w.heap.size ≤ b) (g : Goes F1 M w1 w2 p C') : Goes F M w w2 p C' := Goes.then h h1 g

set_option maxHeartbeats 2000000 in
theorem cwrite_any (F : Nat → Prop) (p : Nat) (g : Gst) (ht : Nat → Int) (d : Int) (ao : Option Addr) (cap : Nat) (m : List UInt8) (w : World) (hC : Cx w F (blk ao) p (mk g ht d)) (hH : okH g.rm ht) (hB : BS w ao cap m) (h1 : bn m 0 = 3) (h0 : per g.rm m = 0) (hw : m.length = pz m) :
    Calls Try.prog 54 #[.pointer (some ⟨p, 0, none⟩), .slice ao m.length cap] w fun e w' => e = .returned (.tuple #[]) ∧ Done F (blk ao) w w' p g m d := by
  have HC : Hid (Cx w F (blk ao) p (mk g ht d)) := hC
  have HB : Hid (BS w ao cap m) := hB
  have ht' := per_thr (by omega) h0
  have h8 : bn m 1 < 8 := (of_decide_eq_true ht' : _ ∧ _).1
  have HL : Hid (m.length = 5 + bn m 4) := pz_write h1 hw
  have HD : Hid (gD g m = gB g (bn m 1) (wrt (g.rm.bs (bn m 1)) (wrd m 2) (m.drop 5)) ∧ okH (pd g.rm m).2.2 ht) := by
    have e := pd_3 h1 ht'
    refine (⟨?_, ?_⟩ : _ ∧ _)
    · unfold gD gB; rw [e]; simp
    · rw [e]; exact hH.bytes (wrt_length _ _ _)
  have b4 := bn_le m 4
  have HA : Hid (wrd m 2 ≤ 65535) := wrd_le m 2
  clear hC hB h1 h0 hH ht' hw
  go_enter Try.func54, Try.ntmps54
  go_wp2_with (first | (go_at_call 40; refine (field_at _ _ _ _ _ HB.out 1 (by omega)).mono ?_; rintro e w2 ⟨rfl, w2e⟩; subst w2) | (go_at_call 67; refine (wide_any _ _ _ _ _ HB.out 2 (by omega) (by omega)).mono ?_; rintro e w2 ⟨rfl, w2e⟩; subst w2) | (go_at_call 40; refine (field_at _ _ _ _ _ HB.out 4 (by omega)).mono ?_; rintro e w2 ⟨rfl, w2e⟩; subst w2))
  go_loopw [7, 8] (fun i _ wr => ∃ n : Nat, n ≤ bn m 4 ∧ i = .int .i64 n ∧ Goes F (blk ao) w wr p (mk (gB g (bn m 1) (wrt (g.rm.bs (bn m 1)) (wrd m 2) ((m.drop 5).take n))) ht d)) (fun i _ _ => bn m 4 - (intOf i).toNat)
  case atStart => exact ⟨0, by omega, rfl, by rw [List.take_zero, wrt_nil, gB_self]; exact Goes.stay HC.out (Below.refl _ _)⟩
  case round =>
    obtain ⟨n, hn, rfl, hG⟩ := hrel
    have HB2 : Hid (BS wr ao cap m) := hG.bs HB.out
    by_cases hlt : n < bn m 4
    · obtain ⟨hO, F1, hX, hF⟩ := hG
      have HO : Hid (Only (fun b => F b ∧ ¬ blk ao b) w wr) := hO
      have HX : Hid (Cx wr F1 (blk ao) p (mk (gB g (bn m 1) (wrt (g.rm.bs (bn m 1)) (wrd m 2) ((m.drop 5).take n))) ht d)) := hX
      have HF : Hid (∀ b, F1 b → F b ∨ w.heap.size ≤ b) := hF
      have hplt := hX.lt
      have n1 : (n : Int) < bn m 4 := by omega
      have b5 := bn_le m (5 + n)
      clear hO hX hF
      go_wp2_with (first | (go_at_call 40; refine (field_at _ _ _ _ _ HB2.out (5 + n) (by omega)).mono ?_; rintro e w2 ⟨rfl, w2e⟩; subst w2) | (go_at_call 68; refine (put_at F1 (blk ao) p _ ht d _ HX.out (bn m 1) (wrd m 2 + n) _ _ (m.getD (5 + n) 0) (by have := HA.out; first | omega | (unfold wrap64; omega)) (by rfl) h8).mono ?_; rintro e w3 ⟨rfl, hg3⟩; have HG3 : Hid _ := hg3; clear hg3))
      go_roundw
      case rel =>
        refine ⟨n + 1, by omega, by go_num, ?_⟩
        have hlen := HL.out
        have e1 : n < (m.drop 5).length := by rw [List.length_drop]; omega
        have e2 : (m.drop 5)[n] = m.getD (5 + n) 0 := by rw [List.getElem_drop, List.getD_eq_getElem?_getD, List.getElem?_eq_getElem (by omega)]; rfl
        have := Goes.then HO.out HF.out HG3.out
        rw [gB_gB, gB_bs] at this
        rw [wrt_in _ _ _ n e1, e2]
        exact this
      case measure => simp [intOf]; omega
    · have e : n = bn m 4 := by omega
      subst e
      have HG : Hid _ := hG
      clear hG
      go_wp2
      go_end0
      refine ⟨rfl, _, ?_, HD.out.2⟩
      rw [HD.out.1]
      have := HG.out
      rw [List.take_of_length_le (by have := HL.out; rw [List.length_drop]; omega)] at this
      exact this

end Go.Proofs.Ytoafhdbgjpkgfab
