/- Rows.SharedSaid (P3). -/
import Derived.Test.YtbedkfgdhaajaaaRows
import Derived.Test.YtbedkfgdhaajaaaCounting
import Derived.Test.YtbedkfgdhaajaaaArgs
import Derived.ProofKit
import Derived.OpenShut
namespace Go.Proofs.Ytbedkfgdhaajaaa.shared
open Go.ChangeShapes Go.WideShapes Go.ChangeAt Go.RowKit

theorem own : ownKnob Try.prog.godebug = none := by kernel_rfl
theorem laidOut : laidOutB Try.prog = true := by kernel_rfl

theorem cn_bd (xa ya xb yb xc yc x y : Int) : -1 ≤ cn xa ya xb yb xc yc x y ∧ cn xa ya xb yb xc yc x y ≤ 1 := by
  have := sg_cases (sd xa ya xb yb xc yc)
  unfold cn
  split <;> omega

def fits (v : Int) : Prop := -9223372036854775808 ≤ v ∧ v ≤ 9223372036854775807

theorem fits_of {v : Int} (h : (Lit.int .i64 v).wf = true) : fits v := by
  have := bounds_i64 h
  exact ⟨by omega, by omega⟩

/-- a point lies in a block -/
def Pt (W : World) (b : Nat) (x y : Int) : Prop := W.cell? ⟨b, 0, none⟩ = some (.int .i64 x) ∧ W.cell? ⟨b, 1, none⟩ = some (.int .i64 y) ∧ b < W.heap.size

theorem Pt.below {W W' : World} {b : Nat} {x y : Int} (h : Pt W b x y) (hb : Below W.heap.size W W') : Pt W' b x y :=
  ⟨(hb.cell (p := ⟨b, 0, none⟩) h.2.2).trans h.1, (hb.cell (p := ⟨b, 1, none⟩) h.2.2).trans h.2.1, Nat.lt_of_lt_of_le h.2.2 hb.size⟩

theorem Pt.alloc {W : World} {b : Nat} {x y : Int} (h : Pt W b x y) (o : Obj) : Pt (W.alloc o) b x y :=
  ⟨(World.cell?_alloc_past _ _ _ h.2.2).trans h.1, (World.cell?_alloc_past _ _ _ h.2.2).trans h.2.1, by simp; have := h.2.2; omega⟩

theorem Pt.new (W : World) (t : TypeId) (x y : Int) : Pt (W.alloc (.cells #[.int .i64 x, .int .i64 y] t)) W.heap.size x y :=
  ⟨by simp [go_sem], by simp [go_sem], by simp⟩

set_option maxHeartbeats 2000000 in
theorem walk (px py qx qy rx ry sx sy u v : Int) (w : World) (f1 : fits px) (f2 : fits py) (f3 : fits qx) (f4 : fits qy) (f5 : fits rx) (f6 : fits ry) (f7 : fits sx) (f8 : fits sy) (f9 : fits u) (f10 : fits v) :
    Calls Try.prog 4 #[.agg #[.int .i64 px, .int .i64 py], .agg #[.int .i64 qx, .int .i64 qy], .agg #[.int .i64 rx, .int .i64 ry], .agg #[.int .i64 sx, .int .i64 sy], .int .i64 u, .int .i64 v] w fun e w' => e = .returned (.bool true) ∧ Below w.heap.size w w' := by
  have a1 := plc_small px
  have a2 := plc_small py
  have a3 := plc_small qx
  have a4 := plc_small qy
  have a5 := plc_small rx
  have a6 := plc_small ry
  have a7 := plc_small sx
  have a8 := plc_small sy
  have hx0 := (pk_bd (c := u) (n := 24) (by omega)).1
  have hx1 := (pk_bd (c := u) (n := 24) (by omega)).2
  have hy0 := (pk_bd (c := v) (n := 24) (by omega)).1
  have hy1 := (pk_bd (c := v) (n := 24) (by omega)).2
  have HS : Hid _ := cn_sum (x := pk u 24) (y := pk v 24) a1 a2 a3 a4 a5 a6 a7 a8
  go_enter Try.func4, Try.ntmps4
  go_wp2_with fail
  refine (place_any px py _ f1.1 f1.2 f2.1 f2.2).mono ?_
  rintro e wa ⟨rfl, hba⟩
  have Ba : Hid (Below w.heap.size w wa) := ((((((Below.refl _ _).alloc (Nat.le_refl _) _).alloc (by simp) _).alloc (by simp; omega) _).alloc (by simp; omega) _).trans (hba.mono (by simp; omega)))
  have Pq : Hid (Pt wa (w.heap.size + 1) qx qy) := by have := ((((Pt.new (w.alloc _) 23 qx qy).alloc _).alloc _).below hba); simp only [World.size_alloc] at this; exact this
  have Pr : Hid (Pt wa (w.heap.size + 1 + 1) rx ry) := by have := (((Pt.new ((w.alloc _).alloc _) 23 rx ry).alloc _).below hba); simp only [World.size_alloc] at this; exact this
  have Ps : Hid (Pt wa (w.heap.size + 1 + 1 + 1) sx sy) := by have := ((Pt.new (((w.alloc _).alloc _).alloc _) 23 sx sy).below hba); simp only [World.size_alloc] at this; exact this
  clear hba
  obtain ⟨k1, k2, k3⟩ := Pq.out
  go_wp2_with fail
  refine (place_any qx qy _ f3.1 f3.2 f4.1 f4.2).mono ?_
  rintro e wb ⟨rfl, hbb⟩
  have za : w.heap.size ≤ wa.heap.size := Ba.out.size
  have Bb : Hid (Below w.heap.size w wb) := (Ba.out.alloc za _).trans (hbb.mono (by simp; omega))
  have Pa : Hid (Pt wb wa.heap.size (plc px) (plc py)) := ((Pt.new wa 23 _ _).below hbb)
  have Pr' : Hid (Pt wb (w.heap.size + 1 + 1) rx ry) := ((Pr.out.alloc _).below hbb)
  have Ps' : Hid (Pt wb (w.heap.size + 1 + 1 + 1) sx sy) := ((Ps.out.alloc _).below hbb)
  clear hbb k1 k2 k3 Pq Pr Ps Ba
  obtain ⟨k1, k2, k3⟩ := Pr'.out
  go_wp2_with fail
  refine (place_any rx ry _ f5.1 f5.2 f6.1 f6.2).mono ?_
  rintro e wc ⟨rfl, hbc⟩
  have zb : w.heap.size ≤ wb.heap.size := Bb.out.size
  have Bc : Hid (Below w.heap.size w wc) := (Bb.out.alloc zb _).trans (hbc.mono (by simp; omega))
  have Pa' : Hid (Pt wc wa.heap.size (plc px) (plc py)) := ((Pa.out.alloc _).below hbc)
  have Pb : Hid (Pt wc wb.heap.size (plc qx) (plc qy)) := ((Pt.new wb 23 _ _).below hbc)
  have Ps : Hid (Pt wc (w.heap.size + 1 + 1 + 1) sx sy) := ((Ps'.out.alloc _).below hbc)
  clear hbc k1 k2 k3 Pa Pr' Ps' Bb
  obtain ⟨k1, k2, k3⟩ := Ps.out
  go_wp2_with fail
  refine (place_any sx sy _ f7.1 f7.2 f8.1 f8.2).mono ?_
  rintro e wd ⟨rfl, hbd⟩
  have zc : w.heap.size ≤ wc.heap.size := Bc.out.size
  have Bd : Hid (Below w.heap.size w wd) := (Bc.out.alloc zc _).trans (hbd.mono (by simp; omega))
  have Pa : Hid (Pt wd wa.heap.size (plc px) (plc py)) := ((Pa'.out.alloc _).below hbd)
  have Pb' : Hid (Pt wd wb.heap.size (plc qx) (plc qy)) := ((Pb.out.alloc _).below hbd)
  have Pc : Hid (Pt wd wc.heap.size (plc rx) (plc ry)) := ((Pt.new wc 23 _ _).below hbd)
  clear hbd k1 k2 k3 Pa' Pb Ps Bc
  obtain ⟨k1, k2, k3⟩ := Pa.out
  obtain ⟨k4, k5, k6⟩ := Pb'.out
  obtain ⟨k7, k8, k9⟩ := Pc.out
  go_wp2_with (go_at_call 18; refine (pick_any _ _ _ (by first | exact f9.1 | exact f10.1) (by first | exact f9.2 | exact f10.2) (by omega) (by omega)).mono ?_; rintro e w1 ⟨rfl, rfl⟩)
  refine (counted_any _ _ _ _ _ _ _ _ _ a1 a2 a3 a4 a5 a6 hx0 hx1 hy0 hy1).mono ?_
  rintro e wx ⟨rfl, hbx⟩
  have zd : w.heap.size ≤ wd.heap.size := Bd.out.size
  have Bx : Hid (Below w.heap.size w wx) := (Bd.out.alloc zd _).trans (hbx.mono (by simp; omega))
  have Pa' : Hid (Pt wx wa.heap.size (plc px) (plc py)) := ((Pa.out.alloc _).below hbx)
  have Pb : Hid (Pt wx wb.heap.size (plc qx) (plc qy)) := ((Pb'.out.alloc _).below hbx)
  have Pc' : Hid (Pt wx wc.heap.size (plc rx) (plc ry)) := ((Pc.out.alloc _).below hbx)
  have Pm : Hid (Pt wx wd.heap.size (plc sx) (plc sy)) := ((Pt.new wd 23 _ _).below hbx)
  clear hbx k1 k2 k3 k4 k5 k6 k7 k8 k9 Pa Pb' Pc Bd
  obtain ⟨k1, k2, k3⟩ := Pa'.out
  obtain ⟨k4, k5, k6⟩ := Pb.out
  obtain ⟨k7, k8, k9⟩ := Pm.out
  go_wp2_with fail
  refine (counted_any _ _ _ _ _ _ _ _ _ a1 a2 a3 a4 a7 a8 hx0 hx1 hy0 hy1).mono ?_
  rintro e wy ⟨rfl, hby⟩
  have zx : w.heap.size ≤ wx.heap.size := Bx.out.size
  have By : Hid (Below w.heap.size w wy) := Bx.out.trans (hby.mono (by omega))
  have Pa : Hid (Pt wy wa.heap.size (plc px) (plc py)) := (Pa'.out.below hby)
  have Pb' : Hid (Pt wy wb.heap.size (plc qx) (plc qy)) := (Pb.out.below hby)
  have Pc : Hid (Pt wy wc.heap.size (plc rx) (plc ry)) := (Pc'.out.below hby)
  have Pm' : Hid (Pt wy wd.heap.size (plc sx) (plc sy)) := (Pm.out.below hby)
  clear hby k1 k2 k3 k4 k5 k6 k7 k8 k9 Pa' Pb Pc' Pm Bx
  obtain ⟨k1, k2, k3⟩ := Pb'.out
  obtain ⟨k4, k5, k6⟩ := Pc.out
  obtain ⟨k7, k8, k9⟩ := Pm'.out
  go_wp2_with fail
  refine (counted_any _ _ _ _ _ _ _ _ _ a3 a4 a5 a6 a7 a8 hx0 hx1 hy0 hy1).mono ?_
  rintro e wz ⟨rfl, hbz⟩
  have zy : w.heap.size ≤ wy.heap.size := By.out.size
  have Bz : Hid (Below w.heap.size w wz) := By.out.trans (hbz.mono (by omega))
  have Pa' : Hid (Pt wz wa.heap.size (plc px) (plc py)) := (Pa.out.below hbz)
  have Pc' : Hid (Pt wz wc.heap.size (plc rx) (plc ry)) := (Pc.out.below hbz)
  have Pm : Hid (Pt wz wd.heap.size (plc sx) (plc sy)) := (Pm'.out.below hbz)
  clear hbz k1 k2 k3 k4 k5 k6 k7 k8 k9 Pa Pb' Pc Pm' By
  obtain ⟨k1, k2, k3⟩ := Pc'.out
  obtain ⟨k4, k5, k6⟩ := Pa'.out
  obtain ⟨k7, k8, k9⟩ := Pm.out
  go_wp2_with fail
  refine (counted_any _ _ _ _ _ _ _ _ _ a5 a6 a1 a2 a7 a8 hx0 hx1 hy0 hy1).mono ?_
  rintro e wq ⟨rfl, hbq⟩
  have zz : w.heap.size ≤ wz.heap.size := Bz.out.size
  have Bq : Hid (Below w.heap.size w wq) := Bz.out.trans (hbq.mono (by omega))
  clear hbq k1 k2 k3 k4 k5 k6 k7 k8 k9 Pa' Pc' Pm Bz
  have m1 := cn_bd (plc px) (plc py) (plc qx) (plc qy) (plc sx) (plc sy) (pk u 24) (pk v 24)
  have m2 := cn_bd (plc qx) (plc qy) (plc rx) (plc ry) (plc sx) (plc sy) (pk u 24) (pk v 24)
  have m3 := cn_bd (plc rx) (plc ry) (plc px) (plc py) (plc sx) (plc sy) (pk u 24) (pk v 24)
  obtain ⟨m11, m12⟩ := m1
  obtain ⟨m21, m22⟩ := m2
  obtain ⟨m31, m32⟩ := m3
  go_wp2
  go_ret
  refine ⟨ret_bool ?_, Bq.out⟩
  rw [HS.out]
  simp

set_option maxRecDepth 100000 in
theorem lifted (os : Os) (started : os.Started) (H : Type) (enc : TypeId × Value → H) :
    ReturnsInHanded {} Try.checked os 4 .any (Rows.sharedSpec.pre6 enc Try.prog Try.f4 Rows.sharedRow.domain false) (Rows.sharedSpec.post enc Try.prog Try.f4 false true false false) := by
  refine returnsInHanded_of_change (C := Try.checked) own started (by kernel_rfl) Try.func4
    (ChangeSpec.witness6 (enc := enc) (C := Try.checked) false ⟨#[], #[.agg #[.int .i64 0, .int .i64 0], .agg #[.int .i64 0, .int .i64 0], .agg #[.int .i64 0, .int .i64 0], .agg #[.int .i64 0, .int .i64 0], .int .i64 0, .int .i64 0], []⟩ 8 (by kernel_rfl) (by kernel_rfl) (by kernel_rfl) (by kernel_rfl)) ?_
  intro W base args ds gs before hval0 hW hcnd _
  have hval : ∀ (j : Nat) t v, Try.f4.params[j]? = some t → args[j]? = some v → Value.okWide Try.prog W .any base t v := hval0
  have hW' := hW
  obtain ⟨p, q, hA0, hV, rfl, hfz, hnd⟩ := hW
  have hA : DataW.TrodAll enc Try.prog W 0 (fun _ => true) true Try.f4.params.toList args.toList ds p := hA0
  rw [Try.params4] at hA hval
  obtain ⟨v0, vs0, d0, ds0, p0, q0, hargs, rfl, rfl, h0, r0⟩ := trodAll_cons hA
  obtain ⟨v1, vs1, d1, ds1, p1, q1, rfl, rfl, rfl, h1, r1⟩ := trodAll_cons r0
  obtain ⟨v2, vs2, d2, ds2, p2, q2, rfl, rfl, rfl, h2, r2⟩ := trodAll_cons r1
  obtain ⟨v3, vs3, d3, ds3, p3, q3, rfl, rfl, rfl, h3, r3⟩ := trodAll_cons r2
  obtain ⟨v4, vs4, d4, ds4, p4, q4, rfl, rfl, rfl, h4, r4⟩ := trodAll_cons r3
  obtain ⟨v5, vs5, d5, ds5, p5, q5, rfl, rfl, rfl, h5, r5⟩ := trodAll_cons r4
  obtain ⟨rfl, rfl, rfl⟩ := trodAll_nil r5
  obtain rfl : args = #[v0, v1, v2, v3, v4, v5] := by cases args; simp_all
  obtain ⟨rfl, rfl⟩ := trodVars_none hV
  obtain ⟨px, py, rfl, e1, e2, rfl⟩ := point_shape (hval 0 23 v0 rfl rfl) h0
  obtain ⟨qx, qy, rfl, e3, e4, rfl⟩ := point_shape (hval 1 23 v1 rfl rfl) h1
  obtain ⟨rx, ry, rfl, e5, e6, rfl⟩ := point_shape (hval 2 23 v2 rfl rfl) h2
  obtain ⟨sx, sy, rfl, e7, e8, rfl⟩ := point_shape (hval 3 23 v3 rfl rfl) h3
  obtain ⟨u, rfl, rfl, rfl, e9⟩ := open_int Try.underlying3 (hval 4 3 v4 rfl rfl) h4
  obtain ⟨v, rfl, rfl, rfl, e10⟩ := open_int Try.underlying3 (hval 5 3 v5 rfl rfl) h5
  clear hA0 hval0
  simp only [List.append_nil] at hW'
  refine (walk px py qx qy rx ry sx sy u v W (fits_of e1) (fits_of e2) (fits_of e3) (fits_of e4) (fits_of e5) (fits_of e6) (fits_of e7) (fits_of e8) (fits_of e9) (fits_of e10)).mono fun e W' ⟨he, bel⟩ => ?_
  subst he
  have nn : ∀ x ∈ ([] : List MemPlace), x.block < W.heap.size := fun _ h => absurd h List.not_mem_nil
  exact ⟨_, rfl, _, _, _, [], [], [], hW', trodAll_mk1 (shut_bool Try.underlying4 _), (trodAll_cons_mk (Below.trod laidOut (by kernel_rfl) (of_decide_eq_true (by kernel_rfl)) h0 bel nn) (trodAll_cons_mk (Below.trod laidOut (by kernel_rfl) (of_decide_eq_true (by kernel_rfl)) h1 bel nn) (trodAll_cons_mk (Below.trod laidOut (by kernel_rfl) (of_decide_eq_true (by kernel_rfl)) h2 bel nn) (trodAll_cons_mk (Below.trod laidOut (by kernel_rfl) (of_decide_eq_true (by kernel_rfl)) h3 bel nn) (trodAll_cons_mk (shut_int Try.underlying3 e9) (trodAll_cons_mk (shut_int Try.underlying3 e10) trodAll_mk0)))))), rfl, bel.frame _, fun h => by cases h⟩

theorem over : Rows.sharedRow.holds Try.pinned (OpenSpec.ofChange Rows.sharedSpec) :=
  OpenClaim.holds_of_wide 4 Try.f4 rfl rfl rfl rfl rfl rfl rfl ⟨rfl, rfl, rfl, rfl, rfl⟩ rfl rfl rfl rfl rfl (by kernel_rfl) Try.func4 (by kernel_rfl)
    (of_decide_eq_true (by kernel_rfl)) (by unfold Func.isWrapper; first | (rw [if_pos (by decide +kernel)]; kernel_rfl) | (rw [if_neg (by decide +kernel)]; exact ⟨rfl, rfl⟩))
    (fun os started H enc _ => lifted os started H enc)

end Go.Proofs.Ytbedkfgdhaajaaa.shared
namespace Go.Proofs.Ytbedkfgdhaajaaa
theorem shared_holds : Rows.SharedSaid := shared.over
#print axioms shared_holds
end Go.Proofs.Ytbedkfgdhaajaaa
