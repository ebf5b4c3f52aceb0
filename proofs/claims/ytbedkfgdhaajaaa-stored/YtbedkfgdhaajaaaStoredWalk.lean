/- Rows.StoredSaid (P10, P11): the walk of the statement. -/
import Derived.Test.YtbedkfgdhaajaaaStKit
import Derived.Deep.RegionHeld3
namespace Go.Proofs.Ytbedkfgdhaajaaa
open Go.RowKit

/-- a server lies at g, all of it made since W; beside it the bytes l at block wb -/
def StB (W w : World) (g : Nat) (S : Nat → Option Gst) (wb cap : Nat) (l : List UInt8) : Prop := ∃ G, Sv w G g S ∧ Below W.heap.size W w ∧ (∀ b, G b → W.heap.size ≤ b) ∧ ¬ G wb ∧ W.heap.size ≤ wb ∧ BS w (some ⟨wb, 0, none⟩) cap l

section
variable {W w w' : World} {g : Nat} {S S' : Nat → Option Gst} {wb cap : Nat} {l : List UInt8}
theorem StB.below (h : StB W w g S wb cap l) (hb : Below w.heap.size w w') : StB W w' g S wb cap l := by
  obtain ⟨G, h1, h2, h3, h4, h5, h6⟩ := h
  exact ⟨G, h1.below hb, h2.trans (hb.mono h2.size), h3, h4, h5, h6.below hb⟩
theorem StB.drewN (h : StB W w g S wb cap l) (n : Nat) : StB W (w.drewN n) g S wb cap l := h.below ⟨rfl, rfl, rfl, Nat.le_refl _, fun _ _ => rfl⟩
theorem StB.bs (h : StB W w g S wb cap l) : BS w (some ⟨wb, 0, none⟩) cap l := by obtain ⟨_, _, _, _, _, _, h⟩ := h; exact h
theorem StB.done (h : StB W w g S wb cap l) : Below W.heap.size W w := by obtain ⟨_, _, h, _⟩ := h; exact h
theorem StB.call {f : Nat} {args : Array Value} {Q : Ending → Prop} (h : StB W w g S wb cap l) (k : ∀ G, Sv w G g S → Calls Try.prog f args w fun e w' => Q e ∧ SGoes G w w' g S') :
    Calls Try.prog f args w fun e w' => Q e ∧ StB W w' g S' wb cap l := by
  obtain ⟨G, h1, h2, h3, h4, h5, h6⟩ := h
  refine (k G h1).mono fun e w' ⟨a, b⟩ => ⟨a, ?_⟩
  obtain ⟨k1, G', k2, k3⟩ := b
  have hlt := (h6.hpl _ rfl).2
  simp only at hlt
  refine ⟨G', k2, h2.trans (k1.below h2.size h3), fun b hb => ?_, fun q => ?_, h5, h6.only k1 (fun b q => by obtain ⟨a, e, rfl⟩ := q; cases e; exact h4)⟩
  · rcases k3 b hb with q | q
    · exact h3 b q
    · have := h2.size; omega
  · rcases k3 wb q with q | q
    · exact h4 q
    · omega
theorem StB.set (h : StB W w g S wb cap l) {j : Nat} (hj : j < l.length) (u : UInt8) {v : Int} (hv : v = u.toNat) : StB W (w.setCell ⟨wb, j, none⟩ (.int .u8 v)) g S wb cap (l.set j u) := by
  obtain ⟨G, h1, h2, h3, h4, h5, h6⟩ := h
  have := h6.set hj u hv
  rw [Nat.zero_add] at this
  refine ⟨G, h1.only (H := fun b => b = wb) ((Only.refl (fun b => b = wb) w).setCell (.inl rfl) _) (fun _ hb q => h4 (q ▸ hb)), h2.setCell h5 _, h3, h4, h5, this⟩
theorem St.made (h : St W w g S) (t : TypeId) (n : Nat) (hn : n ≤ maxLen) : StB W (w.alloc (.cells (madeCells #[.int .u8 0] n) t)) g S w.heap.size n (zeros n) := by
  obtain ⟨G, h1, h2, h3⟩ := h
  have hin : ∀ b, G b → b < w.heap.size := by obtain ⟨_, _, q⟩ := h1; exact q.inn
  exact ⟨G, h1.below ((Below.refl _ _).alloc (Nat.le_refl _) _), h2.alloc h2.size _, h3, fun q => by have := hin _ q; omega, h2.size, bs_made w t n hn⟩
end

theorem rdp_same (b : List UInt8) (a n k : Nat) (h : b.getD (a + k) 0 = 0) : rdp b a n (k + 1) = rdp b a n k := by
  unfold rdp
  refine List.map_congr_left (fun i _ => ?_)
  by_cases g : i < k
  · rw [if_pos g, if_pos (by omega)]
  · rw [if_neg g]
    by_cases g2 : i < k + 1
    · rw [if_pos g2, show i = k by omega]; exact h
    · rw [if_neg g2]
theorem rdp_step (b : List UInt8) (a n k : Nat) : rdp b a n (k + 1) = (rdp b a n k).set k (b.getD (a + k) 0) := by
  by_cases h : a + k < b.length
  · rw [rdp_in b a n k h, List.getD_eq_getElem?_getD, List.getElem?_eq_getElem h]; rfl
  · rw [rdp_out b a n k (by omega)]
    have e : b.getD (a + k) 0 = 0 := by rw [List.getD_eq_getElem?_getD, List.getElem?_eq_none (by omega)]; rfl
    rw [e]
    refine List.ext_getElem (by rw [List.length_set]) (fun i h1 h2 => ?_)
    rw [List.getElem_set]
    split
    · rename_i q; subst q; simp [rdp]
    · rfl

/-- what is read of what was written -/
theorem wrt_getD (N a : Nat) (s : List UInt8) (k : Nat) : (wrt (zeros N) a s).getD k 0 = if k < N ∧ a ≤ k ∧ k < a + s.length then s.getD (k - a) 0 else 0 := by
  have hl : (wrt (zeros N) a s).length = N := by rw [wrt_length]; simp [zeros]
  by_cases h : k < N
  · rw [List.getD_eq_getElem?_getD, List.getElem?_eq_getElem (by omega), wrt_get _ _ _ (by simp [zeros]; omega)]
    by_cases g : a ≤ k ∧ k < a + s.length
    · rw [if_pos g, if_pos ⟨h, g⟩]; rfl
    · rw [if_neg g, if_neg (fun q => g q.2)]; simp [zeros, List.getD, h]
  · rw [List.getD_eq_getElem?_getD, List.getElem?_eq_none (by omega), if_neg (fun q => h q.1)]; rfl

theorem text5e (x y u v z : Int) (t : TypeId) (w : World) (b : Nat) (hbw : b = w.heap.size) (h : 0 ≤ x ∧ x ≤ 255) (k : 0 ≤ y ∧ y ≤ 255) (h' : 0 ≤ u ∧ u ≤ 255) (k' : 0 ≤ v ∧ v ≤ 255) (k2 : 0 ≤ z ∧ z ≤ 255) :
    Calls Try.prog 32 #[.slice (some ⟨b, 0, none⟩) 5 5] (w.alloc (.cells #[.int .i64 x, .int .i64 y, .int .i64 u, .int .i64 v, .int .i64 z] t)) fun e w' => ∃ tv, e = .returned (.string tv) ∧ str (byts [x, y, u, v, z]) = tv ∧ tv.size = 5 ∧ Below w.heap.size w w' :=
  (text5 x y u v z t w b hbw h k h' k' k2).mono fun e w' ⟨h1, h2⟩ => ⟨_, h1, rfl, by rw [str_size]; rfl, h2⟩

theorem text5h (x y u v z : Int) (t : TypeId) (w W : World) (b : Nat) (hh : W.heap = (w.alloc (.cells #[.int .i64 x, .int .i64 y, .int .i64 u, .int .i64 v, .int .i64 z] t)).heap) (hB : Below w.heap.size w W) (hbw : b = w.heap.size) (h : 0 ≤ x ∧ x ≤ 255) (k : 0 ≤ y ∧ y ≤ 255) (h' : 0 ≤ u ∧ u ≤ 255) (k' : 0 ≤ v ∧ v ≤ 255) (k2 : 0 ≤ z ∧ z ≤ 255) :
    Calls Try.prog 32 #[.slice (some ⟨b, 0, none⟩) 5 5] W fun e w' => ∃ tv, e = .returned (.string tv) ∧ str (byts [x, y, u, v, z]) = tv ∧ tv.size = 5 ∧ Below w.heap.size w w' := by
  subst hbw
  have hc : ∀ j, W.cell? ⟨w.heap.size, j, none⟩ = (w.alloc (.cells #[.int .i64 x, .int .i64 y, .int .i64 u, .int .i64 v, .int .i64 z] t)).cell? ⟨w.heap.size, j, none⟩ := fun j => by unfold World.cell?; rw [hh]
  have hz : W.heap.size = w.heap.size + 1 := by rw [hh]; simp
  refine (text_any w.heap.size 5 [x, y, u, v, z] W (by omega) (by simp) (fun j hj => ?_) (fun j hj => ?_)).mono ?_
  · rw [hc]
    rcases (by simp at hj; omega : j = 0 ∨ j = 1 ∨ j = 2 ∨ j = 3 ∨ j = 4) with rfl | rfl | rfl | rfl | rfl <;> (rw [World.cell?_alloc_at _ _ _ _ rfl]; rfl)
  · rcases (by simp at hj; omega : j = 0 ∨ j = 1 ∨ j = 2 ∨ j = 3 ∨ j = 4) with rfl | rfl | rfl | rfl | rfl
    · exact h
    · exact k
    · exact h'
    · exact k'
    · exact k2
  · rintro e w' ⟨rfl, hb⟩
    exact ⟨_, rfl, rfl, by rw [str_size]; rfl, hB.trans (hb.mono (by omega))⟩

theorem text5d (x y u v z : Int) (t : TypeId) (w : World) (b : Nat) (hbw : b = w.heap.size) (h : 0 ≤ x ∧ x ≤ 255) (k : 0 ≤ y ∧ y ≤ 255) (h' : 0 ≤ u ∧ u ≤ 255) (k' : 0 ≤ v ∧ v ≤ 255) (k2 : 0 ≤ z ∧ z ≤ 255) :
    Calls Try.prog 32 #[.slice (some ⟨b, 0, none⟩) 5 5] (w.alloc (.cells #[.int .i64 x, .int .i64 y, .int .i64 u, .int .i64 v, .int .i64 z] t)).drew fun e w' => ∃ tv, e = .returned (.string tv) ∧ str (byts [x, y, u, v, z]) = tv ∧ tv.size = 5 ∧ Below w.heap.size w w' :=
  text5h x y u v z t w _ b rfl (((Below.refl _ _).alloc (Nat.le_refl _) _).drew) hbw h k h' k' k2

/-- a Write asked -/
theorem asked_write (G : Nat → Prop) (g : Nat) (x : Int) (R : Rm) (h c d n k : Int) (H : Nat) (l : List UInt8) (mv want : ByteArray) (w : World) (hS : Sv w G g (one (gI R))) (hR : okR R) (hx : x = 0) (hmv : str (byts [3, h, c, d, n] ++ l) = mv) (hh : h = H) (hn : n = l.length) (hH : H < 8) (hc : 0 ≤ c ∧ c ≤ 255) (hd : 0 ≤ d ∧ d ≤ 255) (hN : l.length ≤ 255) (ht : 0 < (R.bs H).length)
    (hw : str [0] = want) (hk : k = 1 + (l.length : Int)) :
    Calls Try.prog 31 #[.pointer (some ⟨g, 0, none⟩), .int .i64 x, .string mv, .string want, .int .i64 k] w fun e w' => e = .returned (.bool true) ∧ SGoes G w w' g (one (gI (rBytes R H (wrt (R.bs H) (c + 256 * d).toNat l)))) := by
  obtain ⟨r1, r2, r3, r4⟩ := write_as (R := R) hh hn hH hc hd hN ht
  have := ask_one G g x R _ mv want k w hS hR hx hmv r1 r2 r3 (by rw [r4]; exact hw) (by rw [r4, hk])
  rw [r4] at this
  exact this

/-- the walk from where the text s is no longer than 255 bytes: what the loop starts from -/
def SR (W : World) (g wb N : Nat) (X : List UInt8) (Fr : Nat) (i : Value) (wr : World) : Prop := ∃ k : Nat, k ≤ N ∧ i = .int .i64 k ∧ StB W wr g (one gNew) wb (N + 1) (0 :: rdp X Fr N k)

set_option maxHeartbeats 8000000 in
theorem stored_walk (x y : Int) (at_ : Int) (s0 s : ByteArray) (fr n : Int) (W : World) (hs : s.size ≤ 255) (hs0 : s0.size ≤ maxLen) (hS : (s0.size ≤ 255 ∧ s0 = s) ∨ (255 < s0.size ∧ s0.extract 0 255 = s)) (bx : -9223372036854775808 ≤ x ∧ x ≤ 9223372036854775807) (by_ : -9223372036854775808 ≤ y ∧ y ≤ 9223372036854775807) (ba : -9223372036854775808 ≤ at_ ∧ at_ ≤ 9223372036854775807) (bf : -9223372036854775808 ≤ fr ∧ fr ≤ 9223372036854775807) (bn_ : -9223372036854775808 ≤ n ∧ n ≤ 9223372036854775807) :
    Calls Try.prog 9 #[.int .i64 x, .int .i64 y, .int .i64 at_, .string s0, .int .i64 fr, .int .i64 n] W fun e w' => e = .returned (.bool true) ∧ Below W.heap.size W w' := by
  have HX : Hid (-9223372036854775808 ≤ x ∧ x ≤ 9223372036854775807) := bx
  have HY : Hid (-9223372036854775808 ≤ y ∧ y ≤ 9223372036854775807) := by_
  have HT : Hid (-9223372036854775808 ≤ at_ ∧ at_ ≤ 9223372036854775807) := ba
  have HF : Hid (-9223372036854775808 ≤ fr ∧ fr ≤ 9223372036854775807) := bf
  have HN : Hid (-9223372036854775808 ≤ n ∧ n ≤ 9223372036854775807) := bn_
  obtain ⟨p0, p1⟩ := pck24 x
  obtain ⟨q0, q1⟩ := pck24 y
  have t01 := pck_bd (c := at_) (n := 65536) (by omega)
  have f01 := pck_bd (c := fr) (n := 65536) (by omega)
  have n01 := pck_bd (c := n) (n := 256) (by omega)
  obtain ⟨A, hA⟩ : ∃ A : Nat, pck x 24 = (A : Int) := ⟨(pck x 24).toNat, by omega⟩
  obtain ⟨B, hB⟩ : ∃ B : Nat, pck y 24 = (B : Int) := ⟨(pck y 24).toNat, by omega⟩
  obtain ⟨T, hT⟩ : ∃ T : Nat, pck at_ 65536 = (T : Int) := ⟨(pck at_ 65536).toNat, by omega⟩
  obtain ⟨Fr, hFr⟩ : ∃ Fr : Nat, pck fr 65536 = (Fr : Int) := ⟨(pck fr 65536).toNat, by omega⟩
  obtain ⟨N, hN⟩ : ∃ N : Nat, pck n 256 = (N : Int) := ⟨(pck n 256).toNat, by omega⟩
  have HA : Hid (pck x 24 = (A : Int)) := hA
  have HB : Hid (pck y 24 = (B : Int)) := hB
  have HPT : Hid (pck at_ 65536 = (T : Int)) := hT
  have HPF : Hid (pck fr 65536 = (Fr : Int)) := hFr
  have HPN : Hid (pck n 256 = (N : Int)) := hN
  have a1 : A ≤ 23 := by omega
  have b1 : B ≤ 23 := by omega
  have T1 : Hid (T ≤ 65535) := (by omega : T ≤ 65535)
  have F1 : Hid (Fr ≤ 65535) := (by omega : Fr ≤ 65535)
  have n1 : N ≤ 255 := by omega
  obtain ⟨m1, m2⟩ := mul24 (a := 1 + (A : Int)) (b := 1 + (B : Int)) (by omega) (by omega)
  have hNN : (1 + (A : Int)) * (1 + (B : Int)) = (((1 + A) * (1 + B) : Nat) : Int) := by push_cast; rfl
  have HNN : Hid ((1 + (A : Int)) * (1 + (B : Int)) = (((1 + A) * (1 + B) : Nat) : Int)) := hNN
  have HOK : Hid (okR (rCreate gNew.rm 5 (1 + A) (1 + B))) := okR_new.create (can_first (by omega) (by omega) 5 (by omega))
  have hmk : ∀ w : World, (Instr.makeSlice 61 (.int .i64 ((N : Int) + 1)) (.int .i64 ((N : Int) + 1))).run Try.prog w = .ok (.slice (some ⟨w.heap.size, 0, none⟩) (N + 1) (N + 1)) (w.alloc (.cells (madeCells #[.int .u8 0] (N + 1)) 5)) := fun w => by
    have := run_make_row' (P := Try.prog) 61 5 (.int .u8 0) 1 Try.underlying61 info_byte rfl .i64 .i64 (N + 1) (by omega) (by omega) w
    rw [Int.natCast_add] at this
    exact this
  obtain ⟨sl, hsl⟩ : ∃ sl, str sl = s := ⟨s.data.toList, rfl⟩
  have HSL : Hid (str sl = s) := hsl
  have hslz : sl.length = s.size := by rw [← hsl, str_size]
  have HSZ : Hid (sl.length = s.size) := hslz
  obtain ⟨X, hX⟩ : ∃ X, wrt (zeros ((1 + A) * (1 + B))) T sl = X := ⟨_, rfl⟩
  have HXX : Hid (wrt (zeros ((1 + A) * (1 + B))) T sl = X) := hX
  clear hA hB hT hFr hN hNN p0 p1 q0 q1 bx by_ ba bf bn_ t01 f01 n01 hsl hslz hX
  unfold maxLen at hs0
  rcases hS with ⟨h1, h2⟩ | ⟨h1, h2⟩
  · have h2' := h2.symm
    subst h2'
    have hs' : ¬ (255 : Int) < s.size := by omega
    clear h1 hs0
    go_enter Try.func9, Try.ntmps9
    go_wp2_with (first | (go_at_call 25; refine (begun_st W).mono ?_; rintro e w0 ⟨g, rfl, hs0⟩; have S0 : Hid (St W w0 g (one gNew)) := hs0; clear hs0) | (go_at_call 18; refine (kpick_as _ _ _ _ HX.out (by omega) (by omega) HA.out).mono ?_; rintro e w6 ⟨rfl, w6e⟩; subst w6; clear HX) | (go_at_call 18; refine (kpick_as _ _ _ _ HY.out (by omega) (by omega) HB.out).mono ?_; rintro e w6 ⟨rfl, w6e⟩; subst w6; clear HY) | (go_at_call 18; refine (kpick_as _ _ _ _ HT.out (by omega) (by omega) HPT.out).mono ?_; rintro e w6 ⟨rfl, w6e⟩; subst w6; clear HT) | (go_at_call 18; refine (kpick_as _ _ _ _ HF.out (by omega) (by omega) HPF.out).mono ?_; rintro e w6 ⟨rfl, w6e⟩; subst w6; clear HF) | (go_at_call 18; refine (kpick_as _ _ _ _ HN.out (by omega) (by omega) HPN.out).mono ?_; rintro e w6 ⟨rfl, w6e⟩; subst w6; clear HN))
    go_loopw [18, 19] (fun i _ wr => SR W g w0.heap.size N X Fr i wr) (fun i _ _ => N - (intOf i).toNat)
    case atStart =>
      refine ⟨0, by omega, rfl, ?_⟩
      have := S0.out.made 5 (N + 1) (by unfold maxLen; omega)
      rw [rdp_zero]
      exact this
    case round =>
      obtain ⟨k, hk, rfl, hSt⟩ := hrel
      have HSt : Hid (StB W wr g (one gNew) w0.heap.size (N + 1) (0 :: rdp X Fr N k)) := hSt
      by_cases hlt : k < N
      · have n0 : (k : Int) < N := by omega
        have w1 : wrap64 ((Fr : Int) + k) = (Fr : Int) + k := by have := F1.out; unfold wrap64; omega
        have w2 : wrap64 ((T : Int) + s.size) = (T : Int) + s.size := by have := T1.out; unfold wrap64; omega
        by_cases c1 : Fr + k < (1 + A) * (1 + B)
        · have d1 : decide ((Fr : Int) + k < (1 + (A : Int)) * (1 + (B : Int))) = true := decide_eq_true (by rw [HNN.out]; omega)
          by_cases c2 : T ≤ Fr + k
          · have d2 : decide ((T : Int) ≤ (Fr : Int) + k) = true := decide_eq_true (by omega)
            by_cases c3 : Fr + k < T + s.size
            · have d3 : decide ((Fr : Int) + k < (T : Int) + s.size) = true := decide_eq_true (by omega)
              have w3 : wrap64 ((Fr : Int) + k - T) = (Fr : Int) + k - T := by have := F1.out; unfold wrap64; omega
              have i0 : (0 : Int) ≤ (Fr : Int) + k - T := by omega
              have i1 : (Fr : Int) + k - T < s.size := by omega
              have r := hSt.bs.hro _ rfl (k + 1) (by omega)
              simp only [Nat.zero_add] at r
              obtain ⟨v, hv⟩ := Option.isSome_iff_exists.1 r.1
              have r2 := r.2
              have hz := (hSt.bs.hpl _ rfl).2
              simp only at hz
              have k0 : (0 : Int) ≤ (k : Int) + 1 := by omega
              have k1 : (k : Int) + 1 < (N : Int) + 1 := by omega
              have HC : Hid (Fr + k < (1 + A) * (1 + B) ∧ T ≤ Fr + k ∧ Fr + k < T + sl.length) := (by have := HSZ.out; omega : Fr + k < (1 + A) * (1 + B) ∧ T ≤ Fr + k ∧ Fr + k < T + sl.length)
              clear hSt r c1 c2 c3
              go_wp2
              go_roundw
              case rel =>
                refine ⟨k + 1, by omega, by go_num, ?_⟩
                have hlt2 : Fr + k - T < sl.length := by have := HC.out; omega
                have hlt3 : Fr + k - T < s.size := by rw [← HSZ.out]; exact hlt2
                have eu : X.getD (Fr + k) 0 = s[Fr + k - T]'hlt3 := by
                  rw [← HXX.out, wrt_getD, if_pos HC.out, List.getD_eq_getElem?_getD, List.getElem?_eq_getElem hlt2]
                  have := HSL.out
                  subst this
                  rfl
                rw [rdp_step, eu]
                exact HSt.out.set (j := k + 1) (by simp [rdp_length]; omega) _ rfl
              case measure => simp [intOf]; omega
            · have d3 : decide ((Fr : Int) + k < (T : Int) + s.size) = false := decide_eq_false (by omega)
              have HC : Hid (¬ (Fr + k < (1 + A) * (1 + B) ∧ T ≤ Fr + k ∧ Fr + k < T + sl.length)) := (by have := HSZ.out; omega : ¬ (Fr + k < (1 + A) * (1 + B) ∧ T ≤ Fr + k ∧ Fr + k < T + sl.length))
              clear hSt c1 c2 c3
              go_wp2
              go_roundw
              case rel => exact ⟨k + 1, by omega, by go_num, by rw [rdp_same _ _ _ _ (by rw [← HXX.out, wrt_getD, if_neg HC.out])]; exact HSt.out⟩
              case measure => simp [intOf]; omega
          · have d2 : decide ((T : Int) ≤ (Fr : Int) + k) = false := decide_eq_false (by omega)
            have HC : Hid (¬ (Fr + k < (1 + A) * (1 + B) ∧ T ≤ Fr + k ∧ Fr + k < T + sl.length)) := (by have := HSZ.out; omega : ¬ (Fr + k < (1 + A) * (1 + B) ∧ T ≤ Fr + k ∧ Fr + k < T + sl.length))
            clear hSt c1 c2
            go_wp2
            go_roundw
            case rel => exact ⟨k + 1, by omega, by go_num, by rw [rdp_same _ _ _ _ (by rw [← HXX.out, wrt_getD, if_neg HC.out])]; exact HSt.out⟩
            case measure => simp [intOf]; omega
        · have d1 : decide ((Fr : Int) + k < (1 + (A : Int)) * (1 + (B : Int))) = false := decide_eq_false (by rw [HNN.out]; omega)
          have HC : Hid (¬ (Fr + k < (1 + A) * (1 + B) ∧ T ≤ Fr + k ∧ Fr + k < T + sl.length)) := (by have := HSZ.out; omega : ¬ (Fr + k < (1 + A) * (1 + B) ∧ T ≤ Fr + k ∧ Fr + k < T + sl.length))
          clear hSt c1
          go_wp2
          go_roundw
          case rel => exact ⟨k + 1, by omega, by go_num, by rw [rdp_same _ _ _ _ (by rw [← HXX.out, wrt_getD, if_neg HC.out])]; exact HSt.out⟩
          case measure => simp [intOf]; omega
      · have e : k = N := by omega
        subst e
        have k1 : ¬ (k : Int) < k := by omega
        have t0 : (0 : Int) ≤ (T : Int) % 256 ∧ (T : Int) % 256 ≤ 255 := by omega
        have t2 : (0 : Int) ≤ (T : Int) / 256 ∧ (T : Int) / 256 ≤ 255 := by have := T1.out; omega
        have u0 : (0 : Int) ≤ (Fr : Int) % 256 ∧ (Fr : Int) % 256 ≤ 255 := by omega
        have u2 : (0 : Int) ≤ (Fr : Int) / 256 ∧ (Fr : Int) / 256 ≤ 255 := by have := F1.out; omega
        have T0 : Hid ((0 : Int) ≤ (T : Int) % 256 ∧ (T : Int) % 256 ≤ 255) := t0
        have T2 : Hid ((0 : Int) ≤ (T : Int) / 256 ∧ (T : Int) / 256 ≤ 255) := t2
        have U0 : Hid ((0 : Int) ≤ (Fr : Int) % 256 ∧ (Fr : Int) % 256 ≤ 255) := u0
        have U2 : Hid ((0 : Int) ≤ (Fr : Int) / 256 ∧ (Fr : Int) / 256 ≤ 255) := u2
        have HXT : Hid (wrt ((rCreate gNew.rm 5 (1 + A) (1 + B)).bs 5) ((T : Int) % 256 + 256 * ((T : Int) / 256)).toNat sl = X) := by
          have e1 : ((T : Int) % 256 + 256 * ((T : Int) / 256)).toNat = T := by omega
          rw [e1, ← HXX.out]
          exact (rfl : wrt (zeros ((1 + A) * (1 + B))) T sl = wrt (zeros ((1 + A) * (1 + B))) T sl)
        have HFT : Hid (((Fr : Int) % 256 + 256 * ((Fr : Int) / 256)).toNat = Fr) := (by omega : ((Fr : Int) % 256 + 256 * ((Fr : Int) / 256)).toNat = Fr)
        have HXL : Hid (X.length = (1 + A) * (1 + B)) := by rw [← HXX.out, wrt_length]; exact (List.length_replicate : (zeros ((1 + A) * (1 + B))).length = (1 + A) * (1 + B))
        have HPOS : Hid (0 < (1 + A) * (1 + B)) := (Nat.mul_pos (by omega) (by omega) : 0 < (1 + A) * (1 + B))
        have hp2 : 0 < ((rCreate gNew.rm 5 (1 + A) (1 + B)).bs 5).length := by show 0 < (zeros ((1 + A) * (1 + B))).length; rw [show (zeros ((1 + A) * (1 + B))).length = (1 + A) * (1 + B) from List.length_replicate]; exact HPOS.out
        have HPOS2 : Hid (0 < ((rCreate gNew.rm 5 (1 + A) (1 + B)).bs 5).length) := hp2
        clear hp2
        have hx2 : X.length = ((rCreate gNew.rm 5 (1 + A) (1 + B)).bs 5).length := by rw [HXL.out]; exact (List.length_replicate : (zeros ((1 + A) * (1 + B))).length = (1 + A) * (1 + B)).symm
        have HXL2 : Hid (X.length = ((rCreate gNew.rm 5 (1 + A) (1 + B)).bs 5).length) := hx2
        have hp3 : 0 < ((rBytes (rCreate gNew.rm 5 (1 + A) (1 + B)) 5 X).bs 5).length := by show 0 < X.length; rw [HXL.out]; exact HPOS.out
        have HPOS3 : Hid (0 < ((rBytes (rCreate gNew.rm 5 (1 + A) (1 + B)) 5 X).bs 5).length) := hp3
        clear hx2 hp3
        have S1 : Hid (StB W wr g (one gNew) w0.heap.size (k + 1) (0 :: rdp X Fr k k)) := HSt.out
        have w4 : wrap64 ((T : Int) / 256) = (T : Int) / 256 := by unfold wrap64; omega
        have w5 : wrap64 ((Fr : Int) / 256) = (Fr : Int) / 256 := by unfold wrap64; omega
        clear hSt hlt t0 t2 u0 u2 HSt
        go_wp2_with (first | (go_at_call_has 32 (4 : Nat); refine (text4 _ _ _ _ _ _ _ rfl ⟨by omega, by omega⟩ ⟨by omega, by omega⟩ ⟨by omega, by omega⟩ ⟨by omega, by omega⟩).mono ?_; rintro e w7 ⟨rfl, hb7⟩; have S7 : Hid (StB W w7 g (one gNew) w0.heap.size (k + 1) (0 :: rdp X Fr k k)) := S1.out.below hb7; clear hb7 S1) | (go_at_call 31; refine (S7.out.call (fun G q => create_pos G g _ _ _ _ _ 5 (1 + A) (1 + B) _ _ _ q (by omega) rfl rfl (by omega) (by omega) (by omega) (by omega) ⟨by omega, by omega⟩ ⟨by omega, by omega⟩ rfl)).mono ?_; rintro e w8 ⟨rfl, hs8⟩; have S8 : Hid (StB W w8 g (one (gI (rCreate gNew.rm 5 (1 + A) (1 + B)))) w0.heap.size (k + 1) (0 :: rdp X Fr k k)) := hs8; clear hs8 S7) | (go_at_call_has 32 (5 : Nat); refine (text5e _ _ _ _ _ _ _ _ rfl ⟨by omega, by omega⟩ ⟨by omega, by omega⟩ T0.out T2.out ⟨by omega, by omega⟩).mono ?_; rintro e w9 ⟨tv, rfl, htv, hts, hb9⟩; have HTV : Hid (str (byts [3, 5, (T : Int) % 256, (T : Int) / 256, (s.size : Int)]) = tv) := htv; clear htv; have S9 : Hid (StB W w9 g (one (gI (rCreate gNew.rm 5 (1 + A) (1 + B)))) w0.heap.size (k + 1) (0 :: rdp X Fr k k)) := S8.out.below hb9; clear hb9 S8) | (go_at_call 31; refine (S9.out.call (fun G q => asked_write G g _ _ _ _ _ _ _ 5 sl _ _ _ q HOK.out (by omega) (by rw [← str_app, HSL.out, HTV.out]) (by omega) (by rw [HSZ.out]) (by omega) T0.out T2.out (by rw [HSZ.out]; omega) HPOS2.out rfl (by rw [HSZ.out]))).mono ?_; rintro e w10 ⟨rfl, hs10⟩; rw [HXT.out] at hs10; have S10 : Hid (StB W w10 g (one (gI (rBytes (rCreate gNew.rm 5 (1 + A) (1 + B)) 5 X))) w0.heap.size (k + 1) (0 :: rdp X Fr k k)) := hs10; clear hs10 S9))
        obtain ⟨WV, hWV⟩ : ∃ WV, str (0 :: rdp X Fr k k) = WV := ⟨_, rfl⟩
        have HWV : Hid (str (0 :: rdp X Fr k k) = WV) := hWV
        have hlw : (0 :: rdp X Fr k k).length = k + 1 := by rw [List.length_cons, rdp_length]
        have HCV : Hid (∀ W', BS W' (some ⟨w0.heap.size, 0, none⟩) (k + 1) (0 :: rdp X Fr k k) → (convert 61 9 (.slice (some ⟨w0.heap.size, 0, none⟩) (k + 1) (k + 1))).run Try.prog W' = .ok (.string WV) W') := fun W' hb => by
          have := run_string_bs (P := Try.prog) hb 61 9 5 Try.underlying61 Try.underlying5 Try.underlying9
          rw [hlw, hWV] at this
          exact this
        have cv0 := HCV.out _ S10.out.bs
        have cv1 := HCV.out _ S10.out.bs.drew
        have cv2 : ∀ o, (convert 61 9 (.slice (some ⟨w0.heap.size, 0, none⟩) (k + 1) (k + 1))).run Try.prog (w10.alloc o) = .ok (.string WV) (w10.alloc o) := fun o => HCV.out _ (S10.out.bs.alloc o)
        have cv4 : ∀ o, (convert 61 9 (.slice (some ⟨w0.heap.size, 0, none⟩) (k + 1) (k + 1))).run Try.prog (w10.alloc o).drew = .ok (.string WV) (w10.alloc o).drew := fun o => HCV.out _ (S10.out.bs.alloc o).drew
        have tm : (Fr : Int).tmod 256 = (Fr : Int) % 256 := Int.tmod_eq_emod_of_nonneg (by omega)
        have w7 : IntKind.i64.wrap (1 + (k : Int)) = 1 + (k : Int) := by rw [IntKind.wrap_i64]; omega
        have w6 : IntKind.i64.wrap ((Fr : Int) / 256) = (Fr : Int) / 256 := by have := U2.out; simp [IntKind.wrap, IntKind.signed, IntKind.bits]; omega
        clear hWV hlw
        go_region_with (first | (go_at_call 32; refine (text5d _ _ _ _ _ _ _ _ rfl ⟨by omega, by omega⟩ ⟨by omega, by omega⟩ U0.out U2.out ⟨by omega, by omega⟩).mono ?_; rintro e w12 ⟨tv2, rfl, htv2, hts2, hb12⟩; have HTV2 : Hid (str (byts [4, 5, (Fr : Int) % 256, (Fr : Int) / 256, (k : Int)]) = tv2) := htv2; have S12 : Hid (StB W w12 g (one (gI (rBytes (rCreate gNew.rm 5 (1 + A) (1 + B)) 5 X))) w0.heap.size (k + 1) (0 :: rdp X Fr k k)) := S10.out.below hb12; have cv3 := HCV.out _ S12.out.bs; clear hb12 htv2) | (go_at_call 31; refine (S12.out.call (fun G q => asked_read G g _ _ _ _ _ _ _ 5 k _ _ _ q (HOK.out.bytes HXL2.out) (by omega) HTV2.out (by omega) (by omega) (by omega) U0.out U2.out (by omega) HPOS3.out (by rw [HFT.out, ← HWV.out, rdp_all]; rfl) (by omega))).mono ?_; rintro e w13 ⟨rfl, hs13⟩; have S13 : Hid _ := hs13; clear hs13))
        all_goals
          go_wp2
          go_ret
          exact ⟨rfl, StB.done S13.out⟩
  · have hs' : (255 : Int) < s0.size := by omega
    clear h1
    go_enter Try.func9, Try.ntmps9
    go_wp2_with (first | (go_at_call 25; refine (begun_st W).mono ?_; rintro e w0 ⟨g, rfl, hs0⟩; have S0 : Hid (St W w0 g (one gNew)) := hs0; clear hs0) | (go_at_call 18; refine (kpick_as _ _ _ _ HX.out (by omega) (by omega) HA.out).mono ?_; rintro e w6 ⟨rfl, w6e⟩; subst w6; clear HX) | (go_at_call 18; refine (kpick_as _ _ _ _ HY.out (by omega) (by omega) HB.out).mono ?_; rintro e w6 ⟨rfl, w6e⟩; subst w6; clear HY) | (go_at_call 18; refine (kpick_as _ _ _ _ HT.out (by omega) (by omega) HPT.out).mono ?_; rintro e w6 ⟨rfl, w6e⟩; subst w6; clear HT) | (go_at_call 18; refine (kpick_as _ _ _ _ HF.out (by omega) (by omega) HPF.out).mono ?_; rintro e w6 ⟨rfl, w6e⟩; subst w6; clear HF) | (go_at_call 18; refine (kpick_as _ _ _ _ HN.out (by omega) (by omega) HPN.out).mono ?_; rintro e w6 ⟨rfl, w6e⟩; subst w6; clear HN))
    go_loopw [18, 19] (fun i _ wr => SR W g w0.heap.size N X Fr i wr) (fun i _ _ => N - (intOf i).toNat)
    case atStart =>
      refine ⟨0, by omega, rfl, ?_⟩
      have := S0.out.made 5 (N + 1) (by unfold maxLen; omega)
      rw [rdp_zero]
      exact this
    case round =>
      obtain ⟨k, hk, rfl, hSt⟩ := hrel
      have HSt : Hid (StB W wr g (one gNew) w0.heap.size (N + 1) (0 :: rdp X Fr N k)) := hSt
      by_cases hlt : k < N
      · have n0 : (k : Int) < N := by omega
        have w1 : wrap64 ((Fr : Int) + k) = (Fr : Int) + k := by have := F1.out; unfold wrap64; omega
        have w2 : wrap64 ((T : Int) + s.size) = (T : Int) + s.size := by have := T1.out; unfold wrap64; omega
        by_cases c1 : Fr + k < (1 + A) * (1 + B)
        · have d1 : decide ((Fr : Int) + k < (1 + (A : Int)) * (1 + (B : Int))) = true := decide_eq_true (by rw [HNN.out]; omega)
          by_cases c2 : T ≤ Fr + k
          · have d2 : decide ((T : Int) ≤ (Fr : Int) + k) = true := decide_eq_true (by omega)
            by_cases c3 : Fr + k < T + s.size
            · have d3 : decide ((Fr : Int) + k < (T : Int) + s.size) = true := decide_eq_true (by omega)
              have w3 : wrap64 ((Fr : Int) + k - T) = (Fr : Int) + k - T := by have := F1.out; unfold wrap64; omega
              have i0 : (0 : Int) ≤ (Fr : Int) + k - T := by omega
              have i1 : (Fr : Int) + k - T < s.size := by omega
              have r := hSt.bs.hro _ rfl (k + 1) (by omega)
              simp only [Nat.zero_add] at r
              obtain ⟨v, hv⟩ := Option.isSome_iff_exists.1 r.1
              have r2 := r.2
              have hz := (hSt.bs.hpl _ rfl).2
              simp only at hz
              have k0 : (0 : Int) ≤ (k : Int) + 1 := by omega
              have k1 : (k : Int) + 1 < (N : Int) + 1 := by omega
              have HC : Hid (Fr + k < (1 + A) * (1 + B) ∧ T ≤ Fr + k ∧ Fr + k < T + sl.length) := (by have := HSZ.out; omega : Fr + k < (1 + A) * (1 + B) ∧ T ≤ Fr + k ∧ Fr + k < T + sl.length)
              clear hSt r c1 c2 c3
              go_wp2
              go_roundw
              case rel =>
                refine ⟨k + 1, by omega, by go_num, ?_⟩
                have hlt2 : Fr + k - T < sl.length := by have := HC.out; omega
                have hlt3 : Fr + k - T < s.size := by rw [← HSZ.out]; exact hlt2
                have eu : X.getD (Fr + k) 0 = s[Fr + k - T]'hlt3 := by
                  rw [← HXX.out, wrt_getD, if_pos HC.out, List.getD_eq_getElem?_getD, List.getElem?_eq_getElem hlt2]
                  have := HSL.out
                  subst this
                  rfl
                rw [rdp_step, eu]
                exact HSt.out.set (j := k + 1) (by simp [rdp_length]; omega) _ rfl
              case measure => simp [intOf]; omega
            · have d3 : decide ((Fr : Int) + k < (T : Int) + s.size) = false := decide_eq_false (by omega)
              have HC : Hid (¬ (Fr + k < (1 + A) * (1 + B) ∧ T ≤ Fr + k ∧ Fr + k < T + sl.length)) := (by have := HSZ.out; omega : ¬ (Fr + k < (1 + A) * (1 + B) ∧ T ≤ Fr + k ∧ Fr + k < T + sl.length))
              clear hSt c1 c2 c3
              go_wp2
              go_roundw
              case rel => exact ⟨k + 1, by omega, by go_num, by rw [rdp_same _ _ _ _ (by rw [← HXX.out, wrt_getD, if_neg HC.out])]; exact HSt.out⟩
              case measure => simp [intOf]; omega
          · have d2 : decide ((T : Int) ≤ (Fr : Int) + k) = false := decide_eq_false (by omega)
            have HC : Hid (¬ (Fr + k < (1 + A) * (1 + B) ∧ T ≤ Fr + k ∧ Fr + k < T + sl.length)) := (by have := HSZ.out; omega : ¬ (Fr + k < (1 + A) * (1 + B) ∧ T ≤ Fr + k ∧ Fr + k < T + sl.length))
            clear hSt c1 c2
            go_wp2
            go_roundw
            case rel => exact ⟨k + 1, by omega, by go_num, by rw [rdp_same _ _ _ _ (by rw [← HXX.out, wrt_getD, if_neg HC.out])]; exact HSt.out⟩
            case measure => simp [intOf]; omega
        · have d1 : decide ((Fr : Int) + k < (1 + (A : Int)) * (1 + (B : Int))) = false := decide_eq_false (by rw [HNN.out]; omega)
          have HC : Hid (¬ (Fr + k < (1 + A) * (1 + B) ∧ T ≤ Fr + k ∧ Fr + k < T + sl.length)) := (by have := HSZ.out; omega : ¬ (Fr + k < (1 + A) * (1 + B) ∧ T ≤ Fr + k ∧ Fr + k < T + sl.length))
          clear hSt c1
          go_wp2
          go_roundw
          case rel => exact ⟨k + 1, by omega, by go_num, by rw [rdp_same _ _ _ _ (by rw [← HXX.out, wrt_getD, if_neg HC.out])]; exact HSt.out⟩
          case measure => simp [intOf]; omega
      · have e : k = N := by omega
        subst e
        have k1 : ¬ (k : Int) < k := by omega
        have t0 : (0 : Int) ≤ (T : Int) % 256 ∧ (T : Int) % 256 ≤ 255 := by omega
        have t2 : (0 : Int) ≤ (T : Int) / 256 ∧ (T : Int) / 256 ≤ 255 := by have := T1.out; omega
        have u0 : (0 : Int) ≤ (Fr : Int) % 256 ∧ (Fr : Int) % 256 ≤ 255 := by omega
        have u2 : (0 : Int) ≤ (Fr : Int) / 256 ∧ (Fr : Int) / 256 ≤ 255 := by have := F1.out; omega
        have T0 : Hid ((0 : Int) ≤ (T : Int) % 256 ∧ (T : Int) % 256 ≤ 255) := t0
        have T2 : Hid ((0 : Int) ≤ (T : Int) / 256 ∧ (T : Int) / 256 ≤ 255) := t2
        have U0 : Hid ((0 : Int) ≤ (Fr : Int) % 256 ∧ (Fr : Int) % 256 ≤ 255) := u0
        have U2 : Hid ((0 : Int) ≤ (Fr : Int) / 256 ∧ (Fr : Int) / 256 ≤ 255) := u2
        have HXT : Hid (wrt ((rCreate gNew.rm 5 (1 + A) (1 + B)).bs 5) ((T : Int) % 256 + 256 * ((T : Int) / 256)).toNat sl = X) := by
          have e1 : ((T : Int) % 256 + 256 * ((T : Int) / 256)).toNat = T := by omega
          rw [e1, ← HXX.out]
          exact (rfl : wrt (zeros ((1 + A) * (1 + B))) T sl = wrt (zeros ((1 + A) * (1 + B))) T sl)
        have HFT : Hid (((Fr : Int) % 256 + 256 * ((Fr : Int) / 256)).toNat = Fr) := (by omega : ((Fr : Int) % 256 + 256 * ((Fr : Int) / 256)).toNat = Fr)
        have HXL : Hid (X.length = (1 + A) * (1 + B)) := by rw [← HXX.out, wrt_length]; exact (List.length_replicate : (zeros ((1 + A) * (1 + B))).length = (1 + A) * (1 + B))
        have HPOS : Hid (0 < (1 + A) * (1 + B)) := (Nat.mul_pos (by omega) (by omega) : 0 < (1 + A) * (1 + B))
        have hp2 : 0 < ((rCreate gNew.rm 5 (1 + A) (1 + B)).bs 5).length := by show 0 < (zeros ((1 + A) * (1 + B))).length; rw [show (zeros ((1 + A) * (1 + B))).length = (1 + A) * (1 + B) from List.length_replicate]; exact HPOS.out
        have HPOS2 : Hid (0 < ((rCreate gNew.rm 5 (1 + A) (1 + B)).bs 5).length) := hp2
        clear hp2
        have hx2 : X.length = ((rCreate gNew.rm 5 (1 + A) (1 + B)).bs 5).length := by rw [HXL.out]; exact (List.length_replicate : (zeros ((1 + A) * (1 + B))).length = (1 + A) * (1 + B)).symm
        have HXL2 : Hid (X.length = ((rCreate gNew.rm 5 (1 + A) (1 + B)).bs 5).length) := hx2
        have hp3 : 0 < ((rBytes (rCreate gNew.rm 5 (1 + A) (1 + B)) 5 X).bs 5).length := by show 0 < X.length; rw [HXL.out]; exact HPOS.out
        have HPOS3 : Hid (0 < ((rBytes (rCreate gNew.rm 5 (1 + A) (1 + B)) 5 X).bs 5).length) := hp3
        clear hx2 hp3
        have S1 : Hid (StB W wr g (one gNew) w0.heap.size (k + 1) (0 :: rdp X Fr k k)) := HSt.out
        have w4 : wrap64 ((T : Int) / 256) = (T : Int) / 256 := by unfold wrap64; omega
        have w5 : wrap64 ((Fr : Int) / 256) = (Fr : Int) / 256 := by unfold wrap64; omega
        clear hSt hlt t0 t2 u0 u2 HSt
        go_wp2_with (first | (go_at_call_has 32 (4 : Nat); refine (text4 _ _ _ _ _ _ _ rfl ⟨by omega, by omega⟩ ⟨by omega, by omega⟩ ⟨by omega, by omega⟩ ⟨by omega, by omega⟩).mono ?_; rintro e w7 ⟨rfl, hb7⟩; have S7 : Hid (StB W w7 g (one gNew) w0.heap.size (k + 1) (0 :: rdp X Fr k k)) := S1.out.below hb7; clear hb7 S1) | (go_at_call 31; refine (S7.out.call (fun G q => create_pos G g _ _ _ _ _ 5 (1 + A) (1 + B) _ _ _ q (by omega) rfl rfl (by omega) (by omega) (by omega) (by omega) ⟨by omega, by omega⟩ ⟨by omega, by omega⟩ rfl)).mono ?_; rintro e w8 ⟨rfl, hs8⟩; have S8 : Hid (StB W w8 g (one (gI (rCreate gNew.rm 5 (1 + A) (1 + B)))) w0.heap.size (k + 1) (0 :: rdp X Fr k k)) := hs8; clear hs8 S7) | (go_at_call_has 32 (5 : Nat); refine (text5e _ _ _ _ _ _ _ _ rfl ⟨by omega, by omega⟩ ⟨by omega, by omega⟩ T0.out T2.out ⟨by omega, by omega⟩).mono ?_; rintro e w9 ⟨tv, rfl, htv, hts, hb9⟩; have HTV : Hid (str (byts [3, 5, (T : Int) % 256, (T : Int) / 256, (s.size : Int)]) = tv) := htv; clear htv; have S9 : Hid (StB W w9 g (one (gI (rCreate gNew.rm 5 (1 + A) (1 + B)))) w0.heap.size (k + 1) (0 :: rdp X Fr k k)) := S8.out.below hb9; clear hb9 S8) | (go_at_call 31; refine (S9.out.call (fun G q => asked_write G g _ _ _ _ _ _ _ 5 sl _ _ _ q HOK.out (by omega) (by rw [← str_app, HSL.out, HTV.out]) (by omega) (by rw [HSZ.out]) (by omega) T0.out T2.out (by rw [HSZ.out]; omega) HPOS2.out rfl (by rw [HSZ.out]))).mono ?_; rintro e w10 ⟨rfl, hs10⟩; rw [HXT.out] at hs10; have S10 : Hid (StB W w10 g (one (gI (rBytes (rCreate gNew.rm 5 (1 + A) (1 + B)) 5 X))) w0.heap.size (k + 1) (0 :: rdp X Fr k k)) := hs10; clear hs10 S9))
        obtain ⟨WV, hWV⟩ : ∃ WV, str (0 :: rdp X Fr k k) = WV := ⟨_, rfl⟩
        have HWV : Hid (str (0 :: rdp X Fr k k) = WV) := hWV
        have hlw : (0 :: rdp X Fr k k).length = k + 1 := by rw [List.length_cons, rdp_length]
        have HCV : Hid (∀ W', BS W' (some ⟨w0.heap.size, 0, none⟩) (k + 1) (0 :: rdp X Fr k k) → (convert 61 9 (.slice (some ⟨w0.heap.size, 0, none⟩) (k + 1) (k + 1))).run Try.prog W' = .ok (.string WV) W') := fun W' hb => by
          have := run_string_bs (P := Try.prog) hb 61 9 5 Try.underlying61 Try.underlying5 Try.underlying9
          rw [hlw, hWV] at this
          exact this
        have cv0 := HCV.out _ S10.out.bs
        have cv1 := HCV.out _ S10.out.bs.drew
        have cv2 : ∀ o, (convert 61 9 (.slice (some ⟨w0.heap.size, 0, none⟩) (k + 1) (k + 1))).run Try.prog (w10.alloc o) = .ok (.string WV) (w10.alloc o) := fun o => HCV.out _ (S10.out.bs.alloc o)
        have cv4 : ∀ o, (convert 61 9 (.slice (some ⟨w0.heap.size, 0, none⟩) (k + 1) (k + 1))).run Try.prog (w10.alloc o).drew = .ok (.string WV) (w10.alloc o).drew := fun o => HCV.out _ (S10.out.bs.alloc o).drew
        have tm : (Fr : Int).tmod 256 = (Fr : Int) % 256 := Int.tmod_eq_emod_of_nonneg (by omega)
        have w7 : IntKind.i64.wrap (1 + (k : Int)) = 1 + (k : Int) := by rw [IntKind.wrap_i64]; omega
        have w6 : IntKind.i64.wrap ((Fr : Int) / 256) = (Fr : Int) / 256 := by have := U2.out; simp [IntKind.wrap, IntKind.signed, IntKind.bits]; omega
        clear hWV hlw
        go_region_with (first | (go_at_call 32; refine (text5d _ _ _ _ _ _ _ _ rfl ⟨by omega, by omega⟩ ⟨by omega, by omega⟩ U0.out U2.out ⟨by omega, by omega⟩).mono ?_; rintro e w12 ⟨tv2, rfl, htv2, hts2, hb12⟩; have HTV2 : Hid (str (byts [4, 5, (Fr : Int) % 256, (Fr : Int) / 256, (k : Int)]) = tv2) := htv2; have S12 : Hid (StB W w12 g (one (gI (rBytes (rCreate gNew.rm 5 (1 + A) (1 + B)) 5 X))) w0.heap.size (k + 1) (0 :: rdp X Fr k k)) := S10.out.below hb12; have cv3 := HCV.out _ S12.out.bs; clear hb12 htv2) | (go_at_call 31; refine (S12.out.call (fun G q => asked_read G g _ _ _ _ _ _ _ 5 k _ _ _ q (HOK.out.bytes HXL2.out) (by omega) HTV2.out (by omega) (by omega) (by omega) U0.out U2.out (by omega) HPOS3.out (by rw [HFT.out, ← HWV.out, rdp_all]; rfl) (by omega))).mono ?_; rintro e w13 ⟨rfl, hs13⟩; have S13 : Hid _ := hs13; clear hs13))
        all_goals
          go_wp2
          go_ret
          exact ⟨rfl, StB.done S13.out⟩

end Go.Proofs.Ytbedkfgdhaajaaa
