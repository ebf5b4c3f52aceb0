/- Walks: the sides of a triangle (P3): the program's and the document's answer's. -/
import Derived.Test.YtbedkfgdhaajaabProg
import Derived.Test.YtbedkfgdhaajaabPlane
import Derived.WalkKit
import Derived.WalkSpells
import Derived.WalkLawsBesides
import Derived.BigRegion
namespace Go.Proofs.Ytbedkfgdhaajaab
open Go.RowKit

theorem ret_int {k : IntKind} {a b : Int} (h : a = b) : Ending.returned (.int k a) = .returned (.int k b) := by rw [h]
theorem ret_bool {a b : Bool} (h : a = b) : Ending.returned (.bool a) = .returned (.bool b) := by rw [h]
theorem wrap_in {n : Int} (h1 : -9223372036854775808 ≤ n) (h2 : n ≤ 9223372036854775807) : wrap64 n = n := by unfold wrap64; omega

theorem bcell {W w1 : World} (hb : Below W.heap.size W w1) : (∀ b o, b < W.heap.size → w1.cell? ⟨b, o, none⟩ = W.cell? ⟨b, o, none⟩) ∧ (∀ b o, b < W.heap.size → w1.frozen? ⟨b, o, none⟩ = W.frozen? ⟨b, o, none⟩) :=
  ⟨fun b o h => hb.cell (p := ⟨b, o, none⟩) h, fun b o h => hb.frozen (p := ⟨b, o, none⟩) h⟩

set_option maxHeartbeats 400000 in
theorem side_any (xa ya xb yb px py : Int) (w : World) (h1 : small xa) (h2 : small ya) (h3 : small xb) (h4 : small yb) (h5 : small px) (h6 : small py) :
    Calls Try.prog 81 #[.agg #[.int .i64 xa, .int .i64 ya], .agg #[.int .i64 xb, .int .i64 yb], .agg #[.int .i64 px, .int .i64 py]] w fun e w' => e = .returned (.int .i64 (sd xa ya xb yb px py)) ∧ Below w.heap.size w w' := by
  have H : Hid _ := sd_bd h1 h2 h3 h4 h5 h6
  unfold small at *
  obtain ⟨h11, h12⟩ := h1
  obtain ⟨h21, h22⟩ := h2
  obtain ⟨h31, h32⟩ := h3
  obtain ⟨h41, h42⟩ := h4
  obtain ⟨h51, h52⟩ := h5
  obtain ⟨h61, h62⟩ := h6
  go_enter Try.func81, Try.ntmps81
  go_wp2
  go_ret
  have h := H.out
  refine ⟨ret_int ?_, (((Below.refl _ _).alloc (Nat.le_refl _) _).alloc (by simp) _).alloc (by simp; omega) _⟩
  rw [wrap_in (n := (xb - xa) * (py - ya)) (by omega) (by omega), wrap_in (n := (yb - ya) * (px - xa)) (by omega) (by omega), wrap_in (by omega) (by omega)]
  rfl

set_option maxHeartbeats 400000 in
theorem owns_any (xa ya xb yb xc yc : Int) (w : World) (h1 : small xa) (h2 : small ya) (h3 : small xb) (h4 : small yb) (h5 : small xc) (h6 : small yc) :
    Calls Try.prog 96 #[.agg #[.int .i64 xa, .int .i64 ya, .int .i64 xb, .int .i64 yb, .int .i64 xc, .int .i64 yc]] w fun e w' => e = .returned (.bool (owns xa ya xb yb xc yc)) ∧ Below w.heap.size w w' := by
  by_cases hl : ya = yb
  · have e : owns xa ya xb yb xc yc = decide (ya < yc) := by unfold owns; rw [if_pos hl]
    rw [e]
    clear e
    subst hl
    go_enter Try.func96, Try.ntmps96
    go_wp2
    go_ret
    exact ⟨rfl, (Below.refl _ _).alloc (Nat.le_refl _) _⟩
  · have hl' : (ya == yb) = false := by simpa using hl
    by_cases hu : yb < ya
    · have e : owns xa ya xb yb xc yc = decide (0 < sd xa ya xb yb xc yc) := by unfold owns; rw [if_neg hl, if_pos hu]
      rw [e]
      clear e hl
      go_enter Try.func96, Try.ntmps96
      go_wp2_with (go_at_call 81; refine (side_any _ _ _ _ _ _ _ h1 h2 h3 h4 h5 h6).mono ?_; rintro e w1 ⟨rfl, hb1⟩; obtain ⟨hc1, hf1⟩ := bcell hb1)
      go_ret
      exact ⟨rfl, ((Below.refl _ _).alloc (Nat.le_refl _) _).trans (hb1.mono (by simp))⟩
    · have e : owns xa ya xb yb xc yc = decide (sd xa ya xb yb xc yc < 0) := by unfold owns; rw [if_neg hl, if_neg hu]
      rw [e]
      clear e hl
      go_enter Try.func96, Try.ntmps96
      go_wp2_with (go_at_call 81; refine (side_any _ _ _ _ _ _ _ h1 h2 h3 h4 h5 h6).mono ?_; rintro e w1 ⟨rfl, hb1⟩; obtain ⟨hc1, hf1⟩ := bcell hb1)
      go_ret
      exact ⟨rfl, ((Below.refl _ _).alloc (Nat.le_refl _) _).trans (hb1.mono (by simp))⟩

set_option maxHeartbeats 400000 in
theorem adm_any (xa ya xb yb xc yc px py : Int) (w : World) (h1 : small xa) (h2 : small ya) (h3 : small xb) (h4 : small yb) (h5 : small xc) (h6 : small yc) (h7 : small px) (h8 : small py) :
    Calls Try.prog 82 #[.agg #[.int .i64 xa, .int .i64 ya, .int .i64 xb, .int .i64 yb, .int .i64 xc, .int .i64 yc], .agg #[.int .i64 px, .int .i64 py]] w fun e w' => e = .returned (.bool (adm xa ya xb yb xc yc px py)) ∧ Below w.heap.size w w' := by
  by_cases hz : sd xa ya xb yb px py = 0
  · have e : adm xa ya xb yb xc yc px py = owns xa ya xb yb xc yc := by unfold adm; rw [if_pos hz]
    rw [e]
    have hz' : (sd xa ya xb yb px py == 0) = true := by simpa using hz
    clear e hz
    go_enter Try.func82, Try.ntmps82
    go_wp2_with (first | (go_at_call 81; refine (side_any _ _ _ _ _ _ _ h1 h2 h3 h4 h7 h8).mono ?_; rintro e w1 ⟨rfl, hb1⟩; obtain ⟨hc1, hf1⟩ := bcell hb1) | (go_at_call 96; refine (owns_any _ _ _ _ _ _ _ h1 h2 h3 h4 h5 h6).mono ?_; rintro e w2 ⟨rfl, hb2⟩))
    go_ret
    have hs := hb1.size
    simp at hs
    exact ⟨rfl, ((((Below.refl _ _).alloc (Nat.le_refl _) _).alloc (by simp) _).trans (hb1.mono (by simp; omega))).trans (hb2.mono (by omega))⟩
  · have e : adm xa ya xb yb xc yc px py = (decide (0 < sd xa ya xb yb px py) == decide (0 < sd xa ya xb yb xc yc)) := by unfold adm; rw [if_neg hz]
    rw [e]
    have hz' : (sd xa ya xb yb px py == 0) = false := by simpa using hz
    clear e hz
    go_enter Try.func82, Try.ntmps82
    go_wp2_with (go_at_call 81; refine (side_any _ _ _ _ _ _ _ (by assumption) (by assumption) (by assumption) (by assumption) (by assumption) (by assumption)).mono ?_; rintro e w1 ⟨rfl, hb1⟩; obtain ⟨hc1, hf1⟩ := bcell hb1)
    rename_i wa hba hca hfa
    go_ret
    have hs := hba.size
    simp at hs
    exact ⟨rfl, ((((Below.refl _ _).alloc (Nat.le_refl _) _).alloc (by simp) _).trans (hba.mono (by simp; omega))).trans (hb1.mono (by omega))⟩

/-- what the round of 'holds' finds: the corners lie in block c -/
def HolW (w wr : World) (c : Nat) (xa ya xb yb xc yc px py : Int) : Prop :=
  Below w.heap.size w wr ∧ w.heap.size + 2 ≤ wr.heap.size ∧ c < wr.heap.size ∧ wr.cell? ⟨c, 0, none⟩ = some (.int .i64 xa) ∧ wr.cell? ⟨c, 1, none⟩ = some (.int .i64 ya) ∧ wr.cell? ⟨c, 2, none⟩ = some (.int .i64 xb) ∧ wr.cell? ⟨c, 3, none⟩ = some (.int .i64 yb) ∧
  wr.cell? ⟨c, 4, none⟩ = some (.int .i64 xc) ∧ wr.cell? ⟨c, 5, none⟩ = some (.int .i64 yc) ∧ wr.cell? ⟨w.heap.size + 1, 0, none⟩ = some (.int .i64 px) ∧ wr.cell? ⟨w.heap.size + 1, 1, none⟩ = some (.int .i64 py)

theorem holW_start {w w1 : World} {t u v : TypeId} {xa ya xb yb xc yc px py : Int} {ta : Array Value}
    (hb : Below (((w.alloc (.cells ta t)).alloc (.cells #[.int .i64 px, .int .i64 py] u)).heap.size) ((w.alloc (.cells ta t)).alloc (.cells #[.int .i64 px, .int .i64 py] u)) w1) : HolW w (w1.alloc (.cells #[.int .i64 xa, .int .i64 ya, .int .i64 xb, .int .i64 yb, .int .i64 xc, .int .i64 yc] v)) w1.heap.size xa ya xb yb xc yc px py := by
  have hs := hb.size
  simp at hs
  refine ⟨((((Below.refl _ _).alloc (Nat.le_refl _) _).alloc (by simp) _).trans (hb.mono (by simp; omega))).alloc (by omega) _, by simp; omega, by simp, ?_, ?_, ?_, ?_, ?_, ?_, ?_, ?_⟩
  · simp [go_sem]
  · simp [go_sem]
  · simp [go_sem]
  · simp [go_sem]
  · simp [go_sem]
  · simp [go_sem]
  · rw [World.cell?_alloc_past _ _ _ (by omega), hb.cell (by first | (simp; done) | (simp; omega))]
    simp [go_sem]
  · rw [World.cell?_alloc_past _ _ _ (by omega), hb.cell (by first | (simp; done) | (simp; omega))]
    simp [go_sem]

theorem holW_next {w wr w2 : World} {c : Nat} {o : Obj} {xa ya xb yb xc yc px py : Int} (h : HolW w wr c xa ya xb yb xc yc px py)
    (hb : Below (wr.alloc o).drew.heap.size (wr.alloc o).drew w2) : HolW w w2 c xa ya xb yb xc yc px py := by
  obtain ⟨hbw, hsz, hc, c0, c1, c2, c3, c4, c5, p0, p1⟩ := h
  have hs := hb.size
  simp at hs
  refine ⟨(hbw.alloc (by omega) _).drew.trans (hb.mono (by simp; omega)), by omega, by omega, ?_, ?_, ?_, ?_, ?_, ?_, ?_, ?_⟩
  all_goals
    rw [hb.cell (by simp; omega)]
    simp only [World.cell?_drew]
    rw [World.cell?_alloc_past _ _ _ (by omega)]
    assumption

set_option maxHeartbeats 400000 in
theorem holds_any (xa ya xb yb xc yc px py : Int) (w : World) (h1 : small xa) (h2 : small ya) (h3 : small xb) (h4 : small yb) (h5 : small xc) (h6 : small yc) (h7 : small px) (h8 : small py) :
    Calls Try.prog 58 #[.agg #[.int .i64 xa, .int .i64 ya, .int .i64 xb, .int .i64 yb, .int .i64 xc, .int .i64 yc], .agg #[.int .i64 px, .int .i64 py]] w fun e w' => e = .returned (.bool (hol xa ya xb yb xc yc px py)) ∧ Below w.heap.size w w' := by
  by_cases hz : sd xa ya xb yb xc yc = 0
  · have e : hol xa ya xb yb xc yc px py = false := by unfold hol; rw [if_pos hz]
    rw [e]
    have hz' : (sd xa ya xb yb xc yc == 0) = true := by simpa using hz
    clear e hz
    go_enter Try.func58, Try.ntmps58
    go_wp2_with (go_at_call 81; refine (side_any _ _ _ _ _ _ _ (by assumption) (by assumption) (by assumption) (by assumption) (by assumption) (by assumption)).mono ?_; rintro e w1 ⟨rfl, hb1⟩; obtain ⟨hc1, hf1⟩ := bcell hb1)
    go_ret
    exact ⟨rfl, ((((Below.refl _ _).alloc (Nat.le_refl _) _).alloc (by simp) _).trans (hb1.mono (by simp; omega)))⟩
  · have e : hol xa ya xb yb xc yc px py = (adm xa ya xb yb xc yc px py && adm xb yb xc yc xa ya px py && adm xc yc xa ya xb yb px py) := by unfold hol; rw [if_neg hz]
    rw [e]
    have hz' : (sd xa ya xb yb xc yc == 0) = false := by simpa using hz
    clear e hz
    go_enter Try.func58, Try.ntmps58
    go_wp2_with (go_at_call 81; refine (side_any _ _ _ _ _ _ _ (by assumption) (by assumption) (by assumption) (by assumption) (by assumption) (by assumption)).mono ?_; rintro e w1 ⟨rfl, hb1⟩; obtain ⟨hc1, hf1⟩ := bcell hb1)
    go_loopw [6, 7] (fun i _ wr => (i = .int .i64 0 ∨ (i = .int .i64 1 ∧ adm xa ya xb yb xc yc px py = true) ∨ (i = .int .i64 2 ∧ adm xa ya xb yb xc yc px py = true ∧ adm xb yb xc yc xa ya px py = true) ∨ (i = .int .i64 3 ∧ adm xa ya xb yb xc yc px py = true ∧ adm xb yb xc yc xa ya px py = true ∧ adm xc yc xa ya xb yb px py = true)) ∧ HolW w wr w1.heap.size xa ya xb yb xc yc px py) (fun i _ _ => 3 - (intOf i).toNat)
    case atStart =>
      refine ⟨.inl rfl, ?_⟩
      exact holW_start hb1
    case round =>
      obtain ⟨hk, hW⟩ := hrel
      have HW : Hid (HolW w wr w1.heap.size xa ya xb yb xc yc px py) := hW
      obtain ⟨hbw, hsz, hcc, c0, c1, c2, c3, c4, c5, p0, p1⟩ := hW
      have HB : Hid (Below w.heap.size w wr) := hbw
      clear hbw hb1 hc1 hf1
      have hsz0 : w.heap.size < wr.heap.size := by omega
      have hsz1 : w.heap.size + 1 < wr.heap.size := by omega
      rcases hk with rfl | ⟨rfl, k0⟩ | ⟨rfl, k0, k1⟩ | ⟨rfl, k0, k1, k2⟩
      · cases ha : adm xa ya xb yb xc yc px py
        · go_wp2
          go_region
          go_wp2_with (go_at_call 82; refine (adm_any _ _ _ _ _ _ _ _ _ (by assumption) (by assumption) (by assumption) (by assumption) (by assumption) (by assumption) (by assumption) (by assumption)).mono ?_; rintro e w2 ⟨rfl, hb2⟩)
          go_ret
          refine ⟨ret_bool ?_, ?_⟩
          · rw [ha]; simp
          · exact (HB.out.alloc (by omega) _).drew.trans (hb2.mono (by simp; omega))
        · go_wp2
          go_region
          go_wp2_with (go_at_call 82; refine (adm_any _ _ _ _ _ _ _ _ _ (by assumption) (by assumption) (by assumption) (by assumption) (by assumption) (by assumption) (by assumption) (by assumption)).mono ?_; rintro e w2 ⟨rfl, hb2⟩)
          go_roundw
          case rel => exact ⟨.inr (.inl ⟨by go_num, trivial⟩), holW_next HW.out hb2⟩
          case measure => simp [intOf]
      · have K0 : Hid (adm xa ya xb yb xc yc px py = true) := k0
        clear k0
        cases ha : adm xb yb xc yc xa ya px py
        · go_wp2
          go_region
          go_wp2_with (go_at_call 82; refine (adm_any _ _ _ _ _ _ _ _ _ (by assumption) (by assumption) (by assumption) (by assumption) (by assumption) (by assumption) (by assumption) (by assumption)).mono ?_; rintro e w2 ⟨rfl, hb2⟩)
          go_ret
          refine ⟨ret_bool ?_, ?_⟩
          · rw [K0.out, ha]; simp
          · exact (HB.out.alloc (by omega) _).drew.trans (hb2.mono (by simp; omega))
        · go_wp2
          go_region
          go_wp2_with (go_at_call 82; refine (adm_any _ _ _ _ _ _ _ _ _ (by assumption) (by assumption) (by assumption) (by assumption) (by assumption) (by assumption) (by assumption) (by assumption)).mono ?_; rintro e w2 ⟨rfl, hb2⟩)
          go_roundw
          case rel => exact ⟨.inr (.inr (.inl ⟨by go_num, K0.out, trivial⟩)), holW_next HW.out hb2⟩
          case measure => simp [intOf]
      · have K0 : Hid (adm xa ya xb yb xc yc px py = true) := k0
        clear k0
        have K1 : Hid (adm xb yb xc yc xa ya px py = true) := k1
        clear k1
        cases ha : adm xc yc xa ya xb yb px py
        · go_wp2
          go_region
          go_wp2_with (go_at_call 82; refine (adm_any _ _ _ _ _ _ _ _ _ (by assumption) (by assumption) (by assumption) (by assumption) (by assumption) (by assumption) (by assumption) (by assumption)).mono ?_; rintro e w2 ⟨rfl, hb2⟩)
          go_ret
          refine ⟨ret_bool ?_, ?_⟩
          · rw [K0.out, K1.out, ha]; simp
          · exact (HB.out.alloc (by omega) _).drew.trans (hb2.mono (by simp; omega))
        · go_wp2
          go_region
          go_wp2_with (go_at_call 82; refine (adm_any _ _ _ _ _ _ _ _ _ (by assumption) (by assumption) (by assumption) (by assumption) (by assumption) (by assumption) (by assumption) (by assumption)).mono ?_; rintro e w2 ⟨rfl, hb2⟩)
          go_roundw
          case rel => exact ⟨.inr (.inr (.inr ⟨by go_num, K0.out, K1.out, trivial⟩)), holW_next HW.out hb2⟩
          case measure => simp [intOf]
      · go_wp2
        go_ret
        exact ⟨ret_bool (by rw [k0, k1, k2]; rfl), HB.out⟩

end Go.Proofs.Ytbedkfgdhaajaab
