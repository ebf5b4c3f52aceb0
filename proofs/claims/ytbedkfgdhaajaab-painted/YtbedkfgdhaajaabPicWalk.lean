/- Walks: place, corner and picture (package tenantskeep). -/
import Derived.Test.YtbedkfgdhaajaabPaintPlain
import Derived.Test.YtbedkfgdhaajaabCovering
import Derived.Test.YtbedkfgdhaajaabShading
import Derived.Deep.RegionHeld3
namespace Go.Proofs.Ytbedkfgdhaajaab
open Go.RowKit

theorem bytw_step (xs : List Int) (k : Nat) (h : k < xs.length) : (bytw (xs.take k) ++ zeros (xs.length - k)).set k (UInt8.ofNat (xs[k] % 256).toNat) = bytw (xs.take (k + 1)) ++ zeros (xs.length - (k + 1)) := by
  have e : (bytw (xs.take k)).length = k := by simp [bytw]; omega
  rw [List.set_append_right _ _ (by omega), e, Nat.sub_self]
  have e2 : zeros (xs.length - k) = 0 :: zeros (xs.length - (k + 1)) := by
    unfold zeros
    rw [show xs.length - k = (xs.length - (k + 1)) + 1 by omega, List.replicate_succ]
  rw [e2, List.set_cons_zero, List.take_succ_eq_append_getElem h]
  simp only [bytw, List.map_append, List.map_cons, List.map_nil, List.append_assoc, List.singleton_append]

set_option maxHeartbeats 1000000 in
theorem text_wrap (b cap : Nat) (xs : List Int) (w : World) (hb : b < w.heap.size) (hl : xs.length ≤ 1000) (hc : ∀ j (h : j < xs.length), w.cell? ⟨b, j, none⟩ = some (.int .i64 xs[j])) :
    Calls Try.prog 8 #[.slice (some ⟨b, 0, none⟩) xs.length cap] w fun e w' => e = .returned (.string (str (bytw xs))) ∧ Below w.heap.size w w' := by
  have HC : Hid (∀ j (h : j < xs.length), w.cell? ⟨b, j, none⟩ = some (.int .i64 xs[j])) := hc
  have hmk : ∀ w : World, (Instr.makeSlice 51 (.int .i64 (xs.length : Int)) (.int .i64 (xs.length : Int))).run Try.prog w = .ok (.slice (some ⟨w.heap.size, 0, none⟩) xs.length xs.length) (w.alloc (.cells (madeCells #[.int .u8 0] xs.length) 5)) := fun w =>
    run_make_row' (P := Try.prog) 51 5 (.int .u8 0) 1 Try.underlying51 info_byte rfl .i64 .i64 xs.length (by omega) (by omega) w
  clear hc
  go_enter Try.func8, Try.ntmps8
  go_wp2
  go_loopw [4] (fun i wr => ∃ k : Nat, k ≤ xs.length ∧ i = .int .i64 k ∧ Below w.heap.size w wr ∧ BS wr (some ⟨w.heap.size, 0, none⟩) xs.length (bytw (xs.take k) ++ zeros (xs.length - k))) (fun i _ => xs.length - (intOf i).toNat)
  case atStart => exact ⟨0, by omega, rfl, (Below.refl _ _).alloc (Nat.le_refl _) _, by simpa [bytw] using bs_made w 5 xs.length (by unfold maxLen; omega)⟩
  case round =>
    obtain ⟨k, hk, rfl, hB, hS⟩ := hrel
    have BB : Hid (Below w.heap.size w wr) := hB
    have SS : Hid (BS wr (some ⟨w.heap.size, 0, none⟩) xs.length (bytw (xs.take k) ++ zeros (xs.length - k))) := hS
    by_cases hlt : k < xs.length
    · have c1 := (hB.cell (p := ⟨b, k, none⟩) hb).trans (HC.out k hlt)
      have r := hS.hro _ rfl k hlt
      simp only [Nat.zero_add] at r
      obtain ⟨v, hv⟩ := Option.isSome_iff_exists.1 r.1
      have r2 := r.2
      have hz := (hS.hpl _ rfl).2
      simp only at hz
      have k0 : (0 : Int) ≤ k := by omega
      have k1 : (k : Int) < xs.length := by omega
      obtain ⟨X, hX⟩ : ∃ X, xs[k] = X := ⟨_, rfl⟩
      have HXX : Hid (xs[k] = X) := hX
      rw [hX] at c1
      clear hB hS r hX
      go_wp2
      go_roundw
      case rel =>
        refine ⟨k + 1, by omega, by go_num, BB.out.setCell (Nat.le_refl _) _, ?_⟩
        rw [← bytw_step xs k hlt]
        have := SS.out.set (j := k) (by simp [bytw, zeros]; omega) (UInt8.ofNat (xs[k] % 256).toNat) (v := IntKind.u8.wrap X) (by rw [HXX.out, IntKind.wrap_u8]; simp; omega)
        rw [Nat.zero_add] at this
        exact this
      case measure => simp [intOf]; omega
    · have e : k = xs.length := by omega
      have k1 : ¬ (k : Int) < xs.length := by omega
      have hcv := run_string_bs (P := Try.prog) hS 51 9 5 Try.underlying51 Try.underlying5 Try.underlying9
      have e1 : bytw (xs.take k) ++ zeros (xs.length - k) = bytw xs := by rw [e, List.take_length, Nat.sub_self]; simp [zeros]
      rw [e1] at hcv
      have e2 : (bytw xs).length = xs.length := by simp [bytw]
      rw [e2] at hcv
      clear hB hS e1 e2 e
      go_wp2
      go_ret
      exact ⟨rfl, BB.out⟩

theorem text4w (x y u v : Int) (t : TypeId) (w : World) (b : Nat) (hbw : b = w.heap.size) :
    Calls Try.prog 8 #[.slice (some ⟨b, 0, none⟩) 4 4] (w.alloc (.cells #[.int .i64 x, .int .i64 y, .int .i64 u, .int .i64 v] t)) fun e w' => e = .returned (.string (str (bytw [x, y, u, v]))) ∧ Below w.heap.size w w' := by
  subst hbw
  refine (text_wrap w.heap.size 4 [x, y, u, v] (w.alloc (.cells #[.int .i64 x, .int .i64 y, .int .i64 u, .int .i64 v] t)) (by simp) (by simp) (fun j hj => ?_)).mono ?_
  · rcases (by simp at hj; omega : j = 0 ∨ j = 1 ∨ j = 2 ∨ j = 3) with rfl | rfl | rfl | rfl <;> (rw [World.cell?_alloc_at _ _ _ _ rfl]; rfl)
  · rintro e w' ⟨rfl, hb⟩
    exact ⟨rfl, ((Below.refl _ _).alloc (Nat.le_refl _) _).trans (hb.mono (by simp))⟩

set_option maxHeartbeats 400000 in
theorem kcorner_any (x y : Int) (s : ByteArray) (w : World) (h1 : -2048 ≤ x ∧ x ≤ 2047) (h2 : -2048 ≤ y ∧ y ≤ 2047) (hs : str (c4 x y) = s) :
    Calls Try.prog 19 #[.agg #[.int .i64 x, .int .i64 y]] w fun e w' => e = .returned (.string s) ∧ Below w.heap.size w w' := by
  subst hs
  obtain ⟨a1, a2⟩ := h1
  obtain ⟨b1, b2⟩ := h2
  go_enter Try.func19, Try.ntmps19
  go_wp2_with (go_at_call 8; refine (text4w _ _ _ _ _ _ _ (by simp)).mono ?_; rintro e w1 ⟨rfl, hb1⟩)
  go_ret
  exact ⟨rfl, ((Below.refl _ _).alloc (Nat.le_refl _) _).trans (hb1.mono (by simp))⟩

/-- a coordinate that may be, out of any number -/
def plk (v : Int) : Int := pck v 4096 - 2048

theorem plk_bd (v : Int) : -2048 ≤ plk v ∧ plk v ≤ 2047 := by
  have := pck_bd (c := v) (n := 4096) (by omega)
  unfold plk
  omega

theorem plk_wrap (v : Int) : IntKind.i64.wrap (IntKind.i64.wrap (pck v 4096 - 2047) - 1) = plk v := by
  have := pck_bd (c := v) (n := 4096) (by omega)
  rw [IntKind.wrap_i64, IntKind.wrap_i64]
  unfold plk
  omega

set_option maxHeartbeats 400000 in
theorem kplace_any (x y X Y : Int) (w : World) (h1 : -9223372036854775808 ≤ x ∧ x ≤ 9223372036854775807) (h2 : -9223372036854775808 ≤ y ∧ y ≤ 9223372036854775807) (hX : plk x = X) (hY : plk y = Y) :
    Calls Try.prog 18 #[.agg #[.int .i64 x, .int .i64 y]] w fun e w' => e = .returned (.agg #[.int .i64 X, .int .i64 Y]) ∧ Below w.heap.size w w' := by
  subst hX hY
  obtain ⟨f1, f2⟩ := h1
  obtain ⟨f3, f4⟩ := h2
  have p1 := (pck_bd (c := x) (n := 4096) (by omega)).1
  have p2 := (pck_bd (c := x) (n := 4096) (by omega)).2
  have p3 := (pck_bd (c := y) (n := 4096) (by omega)).1
  have p4 := (pck_bd (c := y) (n := 4096) (by omega)).2
  go_enter Try.func18, Try.ntmps18
  go_wp2
  go_region_with (go_at_call 11; refine (kpick_any _ _ _ (by assumption) (by assumption) (by omega) (by omega)).mono ?_; rintro e w1 ⟨rfl, rfl⟩)
  all_goals
    go_wp2
    exact bodyPost_ret (v := .agg #[.int .i64 (plk x), .int .i64 (plk y)]) (by simp [results, Try.results18, go_sem, plk_wrap]) rfl ⟨rfl, (((Below.refl _ _).alloc (Nat.le_refl _) _).alloc (by simp) _).drew⟩

theorem tcover_at (xa ya xb yb xc yc : Int) (x y : Nat) (b : Bool) (w : World) (ha : near xa ya = true) (hb : near xb yb = true) (hc : near xc yc = true) (h2 : x < 24) (h4 : y < 24) (hcv : cov xa ya xb yb xc yc x y = b) :
    Calls Try.prog 30 #[.agg #[.int .i64 xa, .int .i64 ya, .int .i64 xb, .int .i64 yb, .int .i64 xc, .int .i64 yc], .int .i64 x, .int .i64 y] w fun e w' => e = .returned (.tuple #[.bool b, .int .i64 0]) ∧ Below w.heap.size w w' := by
  have := cover_any xa ya xb yb xc yc x y w
  rw [cvr_yes ha hb hc (decide_eq_true (by omega)), hcv] at this
  exact this

theorem tshade_at (code : ByteArray) (x y : Nat) (old col v n : Int) (tx : ByteArray) (w : World) (hv : (ver code).1 = 0) (ht : tx.size ≤ 576) (hx : x ≤ 255) (hy : y ≤ 255) (ho : old = 0) (hc : 0 ≤ col ∧ col ≤ 255) (h1 : (sh code tx 64 (reg0 x y 0 col) 0).1 = v) (h2 : (sh code tx 64 (reg0 x y 0 col) 0).2 = n) :
    Calls Try.prog 31 #[.string code, .agg #[.int .i64 x, .int .i64 y, .int .i64 old, .int .i64 col], .string tx] w fun e w' => e = .returned (.tuple #[.int .i64 v, .int .i64 n, .int .i64 0]) ∧ Below w.heap.size w w' := by
  subst ho
  have hvz := (ver_good hv).1
  have := shade_any code x y 0 col tx w (by unfold maxLen; omega) (by unfold maxLen; omega)
  rw [shd_ok hv (by omega) (decide_eq_true (by omega)) (decide_eq_true (by omega)) (decide_eq_true (by omega)) (decide_eq_true (by omega))] at this
  simp only [h1, h2] at this
  exact this

/-- the triangle lies in block b -/
def TC (W : World) (b : Nat) (xa ya xb yb xc yc : Int) : Prop :=
  b < W.heap.size ∧ W.cell? ⟨b, 0, none⟩ = some (.int .i64 xa) ∧ W.cell? ⟨b, 1, none⟩ = some (.int .i64 ya) ∧ W.cell? ⟨b, 2, none⟩ = some (.int .i64 xb) ∧ W.cell? ⟨b, 3, none⟩ = some (.int .i64 yb) ∧ W.cell? ⟨b, 4, none⟩ = some (.int .i64 xc) ∧ W.cell? ⟨b, 5, none⟩ = some (.int .i64 yc)
theorem TC.only {W W' : World} {b : Nat} {xa ya xb yb xc yc : Int} {G : Nat → Prop} (h : TC W b xa ya xb yb xc yc) (ho : Only G W W') (hn : ¬ G b) : TC W' b xa ya xb yb xc yc := by
  obtain ⟨h, k0, k1, k2, k3, k4, k5⟩ := h
  exact ⟨Nat.lt_of_lt_of_le h ho.size, (ho.cell h hn _).trans k0, (ho.cell h hn _).trans k1, (ho.cell h hn _).trans k2, (ho.cell h hn _).trans k3, (ho.cell h hn _).trans k4, (ho.cell h hn _).trans k5⟩
theorem TC.below {W W' : World} {b : Nat} {xa ya xb yb xc yc : Int} (h : TC W b xa ya xb yb xc yc) (hb : Below W.heap.size W W') : TC W' b xa ya xb yb xc yc := h.only (G := fun _ => False) (Only.of_below hb) (fun q => q)
theorem TC.new (W : World) (t : TypeId) (xa ya xb yb xc yc : Int) : TC (W.alloc (.cells #[.int .i64 xa, .int .i64 ya, .int .i64 xb, .int .i64 yb, .int .i64 xc, .int .i64 yc] t)) W.heap.size xa ya xb yb xc yc := by
  refine ⟨by simp, ?_, ?_, ?_, ?_, ?_, ?_⟩ <;> simp [go_sem]

end Go.Proofs.Ytbedkfgdhaajaab
