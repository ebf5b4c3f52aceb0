/- Walks: a context runs (P8). -/
import Derived.Test.YtbedkfgdhaajaabFinish
import Derived.Deep.LoopGhost
namespace Go.Proofs.Ytbedkfgdhaajaab
open Go.RowKit

/-- what the first command still costs, as the program keeps it; 0: it was not begun -/
def Due (g : Gst) (d : Int) : Prop := (d = 0 ∧ g.paid = 0) ∨ (whl g ∧ 0 < d ∧ d = pc1 g - g.paid)

/-- a context that came about by calls lies at p -/
def PG (W : World) (F : Nat → Prop) (p : Nat) (g : Gst) : Prop := ∃ ht d, Cx W F (fun _ => False) p (mk g ht d) ∧ okH g.rm ht ∧ okP g ∧ Due g d
/-- a call has turned it into g', and nothing else that was there -/
def PGoes (F : Nat → Prop) (w w' : World) (p : Nat) (g' : Gst) : Prop := Only F w w' ∧ ∃ F', PG w' F' p g' ∧ ∀ b, F' b → F b ∨ w.heap.size ≤ b

theorem PG.ok {W : World} {F : Nat → Prop} {p : Nat} {g : Gst} (h : PG W F p g) : okP g := by obtain ⟨_, _, _, _, h, _⟩ := h; exact h
theorem PG.only {G F : Nat → Prop} {W W' : World} {p : Nat} {g : Gst} (h : PG W F p g) (ho : Only G W W') (hn : ∀ b, F b → ¬ G b) : PG W' F p g := by obtain ⟨ht, d, h1, h2⟩ := h; exact ⟨ht, d, h1.only ho hn, h2⟩
theorem PG.below {F : Nat → Prop} {W W' : World} {p : Nat} {g : Gst} (h : PG W F p g) (hb : Below W.heap.size W W') : PG W' F p g := by obtain ⟨ht, d, h1, h2⟩ := h; exact ⟨ht, d, h1.below hb, h2⟩
theorem PG.lt {W : World} {F : Nat → Prop} {p : Nat} {g : Gst} (h : PG W F p g) : p < W.heap.size := by obtain ⟨_, _, h, _⟩ := h; exact h.lt
theorem PG.inn {W : World} {F : Nat → Prop} {p : Nat} {g : Gst} (h : PG W F p g) {b : Nat} (hb : F b) : b < W.heap.size := by obtain ⟨_, _, h, _⟩ := h; exact h.inn hb
theorem only_nof {F : Nat → Prop} {w w' : World} (h : Only (fun b => F b ∧ ¬ False) w w') : Only F w w' := h.mono (fun _ _ q => q.1)

set_option maxHeartbeats 400000 in
theorem crun_bad (p : Nat) (f : Int) (w : World) (h : f < 0 ∨ 1048576 < f) :
    Calls Try.prog 26 #[.pointer (some ⟨p, 0, none⟩), .int .i64 f] w fun e w' => e = .returned (.tuple #[.int .i64 0, .int .i64 13]) ∧ w' = w := by
  rcases h with h | h
  · go_enter Try.func26, Try.ntmps26
    go_wp2
    go_ret2
    exact ⟨rfl, rfl⟩
  · have h' : ¬ f < 0 := by omega
    go_enter Try.func26, Try.ntmps26
    go_wp2
    go_ret2
    exact ⟨rfl, rfl⟩

/-- what a round of Run starts from -/
def Rel (F : Nat → Prop) (w : World) (p N : Nat) (g0 : Gst) (f0 : Int) (n : Nat) (t c : Value) (wr : World) : Prop :=
  ∃ (g : Gst) (f : Int) (ht : Nat → Int) (d : Int) (ao : Option Addr) (cap : Nat) (F' : Nat → Prop), t = .int .i64 f ∧ c = .slice ao (pcm g).length cap ∧ Cx wr F' (blk ao) p (mk g ht d) ∧ BS wr ao cap (pcm g) ∧ okH g.rm ht ∧ okP g ∧ Due g d ∧ 0 ≤ f ∧ f ≤ 1048576 ∧ g.wait.length < n ∧ pwork n g f = pwork N g0 f0 ∧ Only F w wr ∧ ∀ b, F' b → F b ∨ w.heap.size ≤ b

theorem tup2' {a b c d : Int} (h : a = c) (k : b = d) : Ending.returned (.tuple #[.int .i64 a, .int .i64 b]) = .returned (.tuple #[.int .i64 c, .int .i64 d]) := by rw [h, k]

theorem owes_bd {g : Gst} (h : okP g) (hn : ¬ pnx g = 0) : 1 ≤ pcost g - g.paid ∧ pcost g - g.paid ≤ 100000 := by
  have := h.cost hn; have := h.p0; omega

/-- the last step of a Run that has not enough -/
theorem run_stop {F F' : Nat → Prop} {w wr W : World} {p : Nat} {g : Gst} {ht : Nat → Int} {x f : Int} {M : Nat → Prop} (hO : Only F w wr) (hF : ∀ b, F' b → F b ∨ w.heap.size ≤ b) (hW : Only F' wr W) (hX : Cx W F' M p (mk g ht x)) (hH : okH g.rm ht) (hP : okP g) (hn : ¬ pnx g = 0) (hf0 : 0 ≤ f) (hf : f < pcost g - g.paid) :
    PGoes F w (W.setCell ⟨p, 25, none⟩ (.int .i64 (pcost g - g.paid - f))) p { g with paid := g.paid + f } := by
  obtain ⟨h1, h2, h3, h4⟩ := pnx_some hn
  refine ⟨(hO.trans hW hF).setCell (hF p hX.fp) _, F', ⟨ht, pcost g - g.paid - f, (hX.setDue _).loose (fun _ q => q.elim), hH, hP.stop hn hf0 hf, .inr ⟨⟨h3, h4⟩, by omega, ?_⟩⟩, hF⟩
  show pcost g - g.paid - f = pc1 g - (g.paid + f)
  rw [← pcost_eq hn]; omega

/-- a round of a Run that has enough -/
theorem run_next {F F' F4 : Nat → Prop} {w wr W w4 : World} {p n' N : Nat} {g g0 : Gst} {f f0 : Int} {ht4 : Nat → Int} {ao5 : Option Addr} {cap5 : Nat} (hO : Only F w wr) (hF : ∀ b, F' b → F b ∨ w.heap.size ≤ b) (hW : Only F' wr W) (hP : okP g) (hn : ¬ pnx g = 0) (hf1 : f ≤ 1048576) (hf : ¬ f < pcost g - g.paid)
    (ho4 : Only F' W w4) (hf4 : ∀ b, F4 b → F' b ∨ W.heap.size ≤ b) (hx : Cx w4 F4 (blk ao5) p (mk (pfin g) ht4 0)) (hb : BS w4 ao5 cap5 (pcm (pfin g))) (hh : okH (pfin g).rm ht4) (hg : g.wait.length < n' + 1) (hr : pwork (n' + 1) g f = pwork N g0 f0) :
    Rel F w p N g0 f0 n' (.int .i64 (f - (pcost g - g.paid))) (.slice ao5 (pcm (pfin g)).length cap5) w4 := by
  obtain ⟨h1, h2, h3, h4⟩ := pnx_some hn
  have hob := owes_bd hP hn
  refine ⟨pfin g, _, ht4, 0, ao5, cap5, F4, rfl, rfl, hx, hb, hh, hP.fin hn, .inl ⟨rfl, rfl⟩, by omega, by omega, ?_, ?_, (hO.trans hW hF).trans ho4 (fun b q => ?_), fun b q => ?_⟩
  · show (g.wait.drop (pnx g)).length < n'
    rw [List.length_drop]; omega
  · rw [← hr, pwork_go hn hf]
  · exact hF b q
  · rcases hf4 b q with k | k
    · exact hF b k
    · have := hO.size; have := hW.size; exact .inr (by omega)

set_option maxHeartbeats 2000000 in
theorem crun_ok (F : Nat → Prop) (p : Nat) (g0 : Gst) (f0 : Int) (w : World) (hC : PG w F p g0) (h0 : 0 ≤ f0) (h1 : f0 ≤ 1048576) (N : Nat) (hN : g0.wait.length < N) :
    Calls Try.prog 26 #[.pointer (some ⟨p, 0, none⟩), .int .i64 f0] w fun e w' => e = .returned (.tuple #[.int .i64 (f0 - (pwork N g0 f0).2), .int .i64 0]) ∧ PGoes F w w' p (pwork N g0 f0).1 := by
  obtain ⟨ht0, du0, hC0, hH0, hP0, hD0⟩ := hC
  have HC : Hid (Cx w F (fun _ => False) p (mk g0 ht0 du0)) := hC0
  have HH0 : Hid (okH g0.rm ht0) := hH0
  have HP0 : Hid (okP g0) := hP0
  have HD0 : Hid (Due g0 du0) := hD0
  clear hC0 hH0 hP0 hD0
  go_enter Try.func26, Try.ntmps26
  go_wp2_with (go_at_call 36; refine (next_any F (fun _ => False) p g0 ht0 du0 _ HC.out).mono ?_; rintro e w2 ⟨⟨ao, cap, rfl, hb, hk⟩, w2e⟩; subst w2; have HB : Hid (BS w ao cap (pcm g0)) := hb; have HK : Hid (Cx w F (blk ao) p (mk g0 ht0 du0)) := hk; clear hb hk)
  go_loopg [6, 7] N (fun n t c wr => Rel F w p N g0 f0 n t c wr)
  case atStart => exact ⟨g0, f0, ht0, du0, ao, cap, F, rfl, rfl, HK.out, HB.out, HH0.out, HP0.out, HD0.out, h0, h1, hN, rfl, Only.refl _ _, fun _ q => .inl q⟩
  case round =>
    obtain ⟨g, f, ht, d, ao1, cap1, F', rfl, rfl, hC, hB, hH, hP, hD, hf0, hf1, hn, hr, hO, hF⟩ := hrel
    have KC : Hid (Cx wr F' (blk ao1) p (mk g ht d)) := hC
    have KB : Hid (BS wr ao1 cap1 (pcm g)) := hB
    have KH : Hid (okH g.rm ht) := hH
    have KP : Hid (okP g) := hP
    have KR : Hid (pwork gk g f = pwork N g0 f0) := hr
    have KO : Hid (Only F w wr) := hO
    have KF : Hid (∀ b, F' b → F b ∨ w.heap.size ≤ b) := hF
    have KN : Hid (g.wait.length < gk) := hn
    have qd : wr.cell? ⟨p, 25, none⟩ = some (.int .i64 d) := hC.du
    have qf := hC.fz 25
    have ql := hC.lt
    obtain ⟨n', rfl⟩ : ∃ n', gk = n' + 1 := ⟨gk - 1, by omega⟩
    clear hC hB hH hr hO hF HC HB HK HH0 HP0 HD0 hn
    by_cases hm : pnx g = 0
    · have em : pcm g = [] := by unfold pcm; rw [hm]; rfl
      rw [em]
      go_wp2
      go_ret2
      have er := pwork_none (n := n' + 1) (f := f) hm
      rw [KR.out] at er
      refine ⟨tup2' (by rw [er]) rfl, ?_⟩
      rw [er]
      exact ⟨KO.out, F', ⟨ht, d, KC.out.loose (fun _ q => q.elim), KH.out, KP.out, hD⟩, KF.out⟩
    · obtain ⟨z1, z2⟩ := pcm_len hm
      obtain ⟨y1, y2, y3, y4⟩ := pnx_some hm
      have hwt := hP.wt
      obtain ⟨o1, o2⟩ := owes_bd hP hm
      have HM : Hid (¬ pnx g = 0) := hm
      have HZ : Hid ((pcm g).length = pz (pcm g)) := z2
      have H2 : Hid ((pcm g).length ≤ 2000) := (by omega : (pcm g).length ≤ 2000)
      have hm' : (0 : Int) < (pcm g).length := by omega
      obtain ⟨E, hE⟩ : ∃ E, pcost g - g.paid = E := ⟨_, rfl⟩
      have HE : Hid (pcost g - g.paid = E) := hE
      rw [hE] at o1 o2
      have hpe := pcost_eq hm
      rcases hD with ⟨rfl, hpd⟩ | ⟨hw, hd0, hd⟩
      · have HX : Hid ((pd g.rm (pcm g)).2.1 = E) := by
          have e : pcost g = E := by omega
          exact (e : (pd g.rm (pcm g)).2.1 = E)
        clear hm z1 z2 y1 y2 y3 y4 hwt hP hE hpe hpd
        by_cases hs : f < E
        · go_wp2_with (go_at_call 37; refine (cost_any F' (blk ao1) p g ht 0 _ _ _ _ KC.out KP.out.rm KB.out HZ.out H2.out).mono ?_; rw [HX.out]; rintro e w3 ⟨rfl, hb3⟩; have c3 := KC.out.below hb3; have r1 := c3.du; have r2 := c3.fz 25; have r3 := c3.lt; have L3 : Hid (Cx w3 F' (blk ao1) p (mk g ht 0)) := c3; have B3 : Hid (Below wr.heap.size wr w3) := hb3; clear c3 hb3)
          go_ret2
          have er := pwork_stop (n := n') HM.out (by rw [HE.out]; exact hs)
          rw [KR.out] at er
          refine ⟨tup2' (by rw [er]; simp) rfl, ?_⟩
          rw [er]
          have := run_stop (x := E) KO.out KF.out ((Only.of_below (F := F') B3.out).setCell (p := ⟨p, 25, none⟩) (.inl KC.out.fp) (.int .i64 E)) (L3.out.setDue E) KH.out KP.out HM.out hf0 (by rw [HE.out]; exact hs)
          rw [HE.out] at this
          exact this
        · go_wp2_with (first | (go_at_call 37; refine (cost_any F' (blk ao1) p g ht 0 _ _ _ _ KC.out KP.out.rm KB.out HZ.out H2.out).mono ?_; rw [HX.out]; rintro e w3 ⟨rfl, hb3⟩; have c3 := KC.out.below hb3; have r1 := c3.du; have r2 := c3.fz 25; have r3 := c3.lt; have L3 : Hid (Cx w3 F' (blk ao1) p (mk g ht 0)) := c3; have B3 : Hid (Below wr.heap.size wr w3) := hb3; clear c3 hb3) | (go_at_call 38; refine (finish_any F' p g ht E _ _ _ (L3.out.setDue E) KH.out KP.out HM.out ((KB.out.below B3.out).setCell (L3.out.own) _)).mono ?_; rintro e w4 ⟨rfl, ht4, hg4, hh4⟩; obtain ⟨ho4, F4, hx4, hf4⟩ := hg4; have L4 : Hid (Cx w4 F4 (fun _ => False) p (mk (pfin g) ht4 0)) := hx4; have O4 : Hid _ := ho4; have M4 : Hid _ := hf4; have KH4 : Hid (okH (pfin g).rm ht4) := hh4; clear ho4 hx4 hf4 hh4) | (go_at_call 36; refine (next_any F4 (fun _ => False) p (pfin g) ht4 0 _ L4.out).mono ?_; rintro e w5 ⟨⟨ao5, cap5, rfl, hb5, hk5⟩, w5e⟩; subst w5; have HB5 : Hid (BS w4 ao5 cap5 (pcm (pfin g))) := hb5; have HK5 : Hid (Cx w4 F4 (blk ao5) p (mk (pfin g) ht4 0)) := hk5; clear hb5 hk5))
          go_roundg n'
          case measure => omega
          case rel =>
            have := run_next (n' := n') KO.out KF.out ((Only.of_below (F := F') B3.out).setCell (p := ⟨p, 25, none⟩) (.inl KC.out.fp) (.int .i64 E)) KP.out HM.out hf1 (by rw [HE.out]; omega) (only_nof O4.out) M4.out HK5.out HB5.out KH4.out KN.out KR.out
            rw [HE.out] at this
            exact this
      · have hdE : d = E := by omega
        subst hdE
        have dd : (d == 0) = false := beq_false_of_ne (by omega)
        clear hm z1 z2 y1 y2 y3 y4 hwt hP hE hpe hw hd
        by_cases hs : f < d
        · go_wp2
          go_ret2
          have er := pwork_stop (n := n') HM.out (by rw [HE.out]; exact hs)
          rw [KR.out] at er
          refine ⟨tup2' (by rw [er]; simp) rfl, ?_⟩
          rw [er]
          have := run_stop (x := d) KO.out KF.out (Only.refl F' wr) KC.out KH.out KP.out HM.out hf0 (by rw [HE.out]; exact hs)
          rw [HE.out] at this
          exact this
        · go_wp2_with (first | (go_at_call 38; refine (finish_any F' p g ht d _ _ _ KC.out KH.out KP.out HM.out KB.out).mono ?_; rintro e w4 ⟨rfl, ht4, hg4, hh4⟩; obtain ⟨ho4, F4, hx4, hf4⟩ := hg4; have L4 : Hid (Cx w4 F4 (fun _ => False) p (mk (pfin g) ht4 0)) := hx4; have O4 : Hid _ := ho4; have M4 : Hid _ := hf4; have KH4 : Hid (okH (pfin g).rm ht4) := hh4; clear ho4 hx4 hf4 hh4) | (go_at_call 36; refine (next_any F4 (fun _ => False) p (pfin g) ht4 0 _ L4.out).mono ?_; rintro e w5 ⟨⟨ao5, cap5, rfl, hb5, hk5⟩, w5e⟩; subst w5; have HB5 : Hid (BS w4 ao5 cap5 (pcm (pfin g))) := hb5; have HK5 : Hid (Cx w4 F4 (blk ao5) p (mk (pfin g) ht4 0)) := hk5; clear hb5 hk5))
          go_roundg n'
          case measure => omega
          case rel =>
            have := run_next (n' := n') KO.out KF.out (Only.refl F' wr) KP.out HM.out hf1 (by rw [HE.out]; omega) (only_nof O4.out) M4.out HK5.out HB5.out KH4.out KN.out KR.out
            rw [HE.out] at this
            exact this

end Go.Proofs.Ytbedkfgdhaajaab
