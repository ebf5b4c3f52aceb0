/- Rows.PiecesSaid (P7, P8, P9): the walk of the statement. -/
import Derived.Test.YtbedkfgdhaajaabStKit
import Derived.Test.YtbedkfgdhaajaabTotal
namespace Go.Proofs.Ytbedkfgdhaajaab
open Go.RowKit

/-- two servers, all of them made since W -/
def S2 (W w : World) (gx : Nat) (Sx : Nat → Option Gst) (gy : Nat) (Sy : Nat → Option Gst) : Prop :=
  ∃ G H, Sv w G gx Sx ∧ Sv w H gy Sy ∧ (∀ b, G b → ¬ H b) ∧ Below W.heap.size W w ∧ (∀ b, G b → W.heap.size ≤ b) ∧ (∀ b, H b → W.heap.size ≤ b)

theorem Sv.inn {W : World} {G : Nat → Prop} {g : Nat} {S : Nat → Option Gst} (h : Sv W G g S) {b : Nat} (hb : G b) : b < W.heap.size := by obtain ⟨_, _, h⟩ := h; exact h.inn b hb

section
variable {W w w' : World} {gx gy : Nat} {Sx Sy S' : Nat → Option Gst}
theorem S2.below (h : S2 W w gx Sx gy Sy) (hb : Below w.heap.size w w') : S2 W w' gx Sx gy Sy := by
  obtain ⟨G, H, h1, h2, h3, h4, h5, h6⟩ := h
  exact ⟨G, H, h1.below hb, h2.below hb, h3, h4.trans (hb.mono h4.size), h5, h6⟩
theorem S2.swap (h : S2 W w gx Sx gy Sy) : S2 W w gy Sy gx Sx := by
  obtain ⟨G, H, h1, h2, h3, h4, h5, h6⟩ := h
  exact ⟨H, G, h2, h1, fun b q1 q2 => h3 b q2 q1, h4, h6, h5⟩
theorem S2.callx {f : Nat} {args : Array Value} {Q : Ending → Prop} (h : S2 W w gx Sx gy Sy) (k : ∀ G, Sv w G gx Sx → Calls Try.prog f args w fun e w' => Q e ∧ SGoes G w w' gx S') :
    Calls Try.prog f args w fun e w' => Q e ∧ S2 W w' gx S' gy Sy := by
  obtain ⟨G, H, h1, h2, h3, h4, h5, h6⟩ := h
  refine (k G h1).mono fun e w' ⟨a, b⟩ => ⟨a, ?_⟩
  obtain ⟨k1, G', k2, k3⟩ := b
  have hz := h4.size
  refine ⟨G', H, k2, h2.only k1 (fun b q1 q2 => h3 b q2 q1), fun b q1 q2 => ?_, h4.trans (k1.below hz h5), fun b q => ?_, h6⟩
  · rcases k3 b q1 with r | r
    · exact h3 b r q2
    · have := h2.inn q2; omega
  · rcases k3 b q with r | r
    · exact h5 b r
    · omega
theorem S2.cally {f : Nat} {args : Array Value} {Q : Ending → Prop} (h : S2 W w gx Sx gy Sy) (k : ∀ G, Sv w G gy Sy → Calls Try.prog f args w fun e w' => Q e ∧ SGoes G w w' gy S') :
    Calls Try.prog f args w fun e w' => Q e ∧ S2 W w' gx Sx gy S' := (h.swap.callx k).mono fun _ _ ⟨a, b⟩ => ⟨a, b.swap⟩
theorem S2.done (h : S2 W w gx Sx gy Sy) : Below W.heap.size W w := by obtain ⟨_, _, _, _, _, h, _⟩ := h; exact h
theorem S2.oky (h : S2 W w gx Sx gy Sy) {n : Nat} {C : Gst} (hn : n < 8) (hC : Sy n = some C) : okP C := by
  obtain ⟨_, _, _, ⟨pt, F, hA⟩, _⟩ := h; exact (hA.cx n C hn hC).ok
end

theorem begun_2 {W w1 : World} {gx : Nat} {S : Nat → Option Gst} (h : St W w1 gx S) : Calls Try.prog 7 #[] w1 fun e w' => ∃ g, e = .returned (.tuple #[.pointer (some ⟨g, 0, none⟩), .bool true]) ∧ S2 W w' gx S g (one gNew) := by
  obtain ⟨G, h1, h2, h3⟩ := h
  refine (begun_any w1).mono ?_
  rintro e w' ⟨g, H, k1, k2, k3, k4⟩
  have hz := h2.size
  exact ⟨g, k1, G, H, h1.below k2, k3, fun b q1 q2 => by have := h1.inn q1; have := k4 b q2; omega, h2.trans (k2.mono hz), h3, fun b q => by have := k4 b q; omega⟩

theorem pwork_wait {n : Nat} {g : Gst} {f : Int} : (pwork n g f).1.wait.length ≤ g.wait.length := by
  induction n generalizing g f with
  | zero => exact Nat.le_refl _
  | succ n ih =>
    by_cases hn : pnx g = 0
    · rw [pwork_none hn]; exact Nat.le_refl _
    · by_cases hs : f < pcost g - g.paid
      · rw [pwork_stop hn hs]; exact Nat.le_refl _
      · rw [pwork_go hn hs]
        refine Nat.le_trans (ih (g := pfin g)) ?_
        show (g.wait.drop (pnx g)).length ≤ _
        rw [List.length_drop]; omega

/-- what a round of the pieces starts from -/
structure PL (l : List UInt8) (g0 C : Gst) (O : List UInt8) (c : Int) (k : Nat) : Prop where
  out : C.out = []
  wt : C.wait.length ≤ k
  rep : O ++ Rep C (l.drop k) = Rep g0 l
  cst : c + Cst C (l.drop k) = Cst g0 l
  ol : O.length ≤ k * 1279
  c0 : 0 ≤ c
  c1 : c ≤ k * 49

theorem PL.next {l : List UInt8} {g0 C : Gst} {O : List UInt8} {c : Int} {k : Nat} (h : PL l g0 C O c k) (hP : okP C) (hk : k < l.length) (hl : l.length ≤ 1024) {f : Int} (hf : 0 ≤ f) (hf2 : f ≤ 49) :
    PL l g0 (gtake (pwork 1025 (gsend C [l[k]]) f).1) (O ++ (pwork 1025 (gsend C [l[k]]) f).1.out) (c + (f - (pwork 1025 (gsend C [l[k]]) f).2)) (k + 1) ∧ (pwork 1025 (gsend C [l[k]]) f).1.out.length ≤ 1279 ∧ 0 ≤ (pwork 1025 (gsend C [l[k]]) f).2 ∧ (pwork 1025 (gsend C [l[k]]) f).2 ≤ f := by
  have hw := h.wt
  have hS : okP (gsend C [l[k]]) := hP.send (by simp; omega)
  obtain ⟨w1, w2, w3⟩ := hS.work (n := 1025) (f := f) hf
  obtain ⟨r1, r2⟩ := work_rep (n := 1025) (g := gsend C [l[k]]) (f := f) (l.drop (k + 1))
  obtain ⟨t1, t2⟩ := take_rep (pwork 1025 (gsend C [l[k]]) f).1 (l.drop (k + 1))
  obtain ⟨s1, s2⟩ := send_rep C [l[k]] (l.drop (k + 1))
  have ed : [l[k]] ++ l.drop (k + 1) = l.drop k := (List.drop_eq_getElem_cons hk).symm
  rw [ed] at s1 s2
  have ho := w1.ot
  refine ⟨⟨rfl, ?_, ?_, ?_, ?_, ?_, ?_⟩, ho, w2, w3⟩
  · refine Nat.le_trans (pwork_wait (n := 1025) (g := gsend C [l[k]]) (f := f)) ?_
    show (C.wait ++ [l[k]]).length ≤ k + 1
    rw [List.length_append]; simp; omega
  · rw [List.append_assoc, t1, r1, s1, h.rep]
  · rw [t2, ← h.cst, ← s2, ← r2]; omega
  · rw [List.length_append]; have := h.ol; omega
  · have := h.c0; omega
  · have := h.c1; omega

/-- the argument: numbers in a row -/
def ArgF (W : World) (ao : Option Addr) (n : Nat) : Prop :=
  ∃ b off, (0 < n → ao = some ⟨b, off, none⟩ ∧ b < W.heap.size) ∧ ∀ i, i < n → ∃ x, W.cell? ⟨b, off + i, none⟩ = some (.int .i64 x) ∧ -9223372036854775808 ≤ x ∧ x ≤ 9223372036854775807

theorem emptied_1 (G : Nat → Prop) (g : Nat) (x : Int) (C : Gst) (sv : ByteArray) (n : Int) (w : World) (hS : Sv w G g (one C)) (hx : x = 0) (ho : C.out = []) (hs : str (Rep C []) = sv) (hn : Cst C [] = n) :
    Calls Try.prog 14 #[.pointer (some ⟨g, 0, none⟩), .int .i64 x] w fun e w' => e = .returned (.tuple #[.string sv, .int .i64 n, .bool true]) ∧ SGoes G w w' g (one (emp 70 C).1) := by
  have hP : okP C := by obtain ⟨pt, F, hA⟩ := hS; exact (hA.cx 0 C (by omega) rfl).ok
  obtain ⟨e1, e2⟩ := emp_total hP ho
  have := emptied_any G g (one C) 0 x C w hS (by omega) (by omega) rfl
  rw [e1, e2, hs, hn, one_one] at this
  exact this

theorem send_1 (G : Nat → Prop) (g : Nat) (x : Int) (C : Gst) (s : ByteArray) (l : List UInt8) (w : World) (hS : Sv w G g (one C)) (hx : x = 0) (hl : str l = s) (h : C.wait.length + l.length ≤ 1024) :
    Calls Try.prog 10 #[.pointer (some ⟨g, 0, none⟩), .int .i64 x, .string s] w fun e w' => e = .returned (.int .i64 0) ∧ SGoes G w w' g (one (gsend C l)) := by
  subst hx hl
  have := send_ok G g (one C) 0 C (str l) w hS (by omega) rfl (by rw [str_size]; exact h)
  rw [one_one, str_data] at this
  exact this
theorem send_1l (G : Nat → Prop) (g : Nat) (x : Int) (C : Gst) (s : ByteArray) (w : World) (hS : Sv w G g (one C)) (hx : x = 0) (h : 1024 < s.size) :
    Calls Try.prog 10 #[.pointer (some ⟨g, 0, none⟩), .int .i64 x, .string s] w fun e w' => e = .returned (.int .i64 12) ∧ SGoes G w w' g (one C) := by
  subst hx
  exact (send_long G g (one C) 0 C s w hS (by omega) rfl (by omega)).mono fun e w' ⟨a, b⟩ => ⟨a, by subst b; exact SGoes.stay hS (Below.refl _ _)⟩
theorem run_1 (G : Nat → Prop) (g : Nat) (x f n : Int) (C : Gst) (w : World) (hS : Sv w G g (one C)) (hx : x = 0) (h0 : 0 ≤ f) (h1 : f ≤ 1048576) (hn : f - (pwork 1025 C f).2 = n) :
    Calls Try.prog 12 #[.pointer (some ⟨g, 0, none⟩), .int .i64 x, .int .i64 f] w fun e w' => e = .returned (.tuple #[.int .i64 n, .int .i64 0]) ∧ SGoes G w w' g (one (pwork 1025 C f).1) := by
  subst hx hn
  have hP : okP C := by obtain ⟨pt, F, hA⟩ := hS; exact (hA.cx 0 C (by omega) rfl).ok
  have := run_ok G g (one C) 0 C f w hS (by omega) rfl h0 h1 1025 (by have := hP.wt; omega)
  rw [one_one] at this
  exact this
theorem take_1 (G : Nat → Prop) (g : Nat) (x : Int) (C : Gst) (sv : ByteArray) (w : World) (hS : Sv w G g (one C)) (hx : x = 0) (hs : str C.out = sv) :
    Calls Try.prog 13 #[.pointer (some ⟨g, 0, none⟩), .int .i64 x] w fun e w' => e = .returned (.tuple #[.string sv, .int .i64 0]) ∧ SGoes G w w' g (one (gtake C)) := by
  subst hx hs
  have := replies_ok G g (one C) 0 C w hS (by omega) rfl
  rw [one_one] at this
  exact this

def g00 : Gst := gI (rCreate gNew.rm 0 2 3)

theorem str_one (s : ByteArray) (l : List UInt8) (hs : str l = s) (k : Nat) (hk : k < l.length) : str [l[k]] = s.extract k (k + 1) := by
  subst hs
  unfold str
  apply ByteArray.ext
  simp only [ByteArray.data_extract]
  apply Array.ext'
  rw [Array.toList_extract]
  simp [List.extract_eq_take_drop]
  rw [List.drop_eq_getElem_cons hk, List.take_succ_cons, List.take_zero]

theorem app_str (a b : List UInt8) (x y : ByteArray) (hx : str a = x) (hy : str b = y) : x ++ y = str (a ++ b) := by subst hx hy; exact str_app a b

def PR (W : World) (gx gy : Nat) (l : List UInt8) (o c i : Value) (wr : World) : Prop :=
  ∃ (k : Nat) (C : Gst) (O : List UInt8) (z : Int), k ≤ l.length ∧ i = .int .i64 k ∧ o = .string (str O) ∧ c = .int .i64 z ∧ S2 W wr gx (one (gsend g00 l)) gy (one C) ∧ PL l g00 C O z k

theorem g00_ok : okP g00 := ⟨rfl, okR_new.create (can_first (by omega) (by omega) 0 (by omega)), by simp [g00, gI], by simp [g00, gI], by simp [g00, gI], .inl rfl⟩

set_option maxRecDepth 8000 in
set_option maxHeartbeats 8000000 in
theorem pieces_walk (s : ByteArray) (ao : Option Addr) (N cap : Nat) (W : World) (hs : s.size ≤ maxLen) (hN : N ≤ maxLen) (hA : ArgF W ao N) :
    Calls Try.prog 3 #[.string s, .slice ao N cap] W fun e w' => e = .returned (.bool true) ∧ Below W.heap.size W w' := by
  obtain ⟨ab, aoff, ha, hcells⟩ := hA
  have HA : Hid (0 < N → ao = some ⟨ab, aoff, none⟩ ∧ ab < W.heap.size) := ha
  have HCE : Hid (∀ i, i < N → ∃ x, W.cell? ⟨ab, aoff + i, none⟩ = some (.int .i64 x) ∧ -9223372036854775808 ≤ x ∧ x ≤ 9223372036854775807) := hcells
  obtain ⟨l, hl⟩ : ∃ l, str l = s := ⟨s.data.toList, rfl⟩
  have HL : Hid (str l = s) := hl
  have hlen : l.length = s.size := by rw [← hl, str_size]
  have HLN : Hid (l.length = s.size) := hlen
  unfold maxLen at hs hN
  have HC7 : Hid ((7 : Int) = 1 + 2 * 3) := (by omega : (7 : Int) = 1 + 2 * 3)
  clear ha hcells hl hlen
  by_cases hsz : s.size ≤ 1024
  · have hsz' : ¬ (1024 : Int) < s.size := by omega
    go_enter Try.func3, Try.ntmps3
    go_wp2_with (first | (go_at_call 7; refine (begun_2 S0.out).mono ?_; rintro e w1 ⟨gy, rfl, hs1⟩; have S1 : Hid (S2 W w1 gx (one gNew) gy (one gNew)) := hs1; clear hs1 S0) | (go_at_call 7; refine (begun_st W).mono ?_; rintro e w0 ⟨gx, rfl, hs0⟩; have S0 : Hid (St W w0 gx (one gNew)) := hs0; clear hs0) | (go_at_call 8; refine (text4 _ _ _ _ _ _ _ rfl ⟨by omega, by omega⟩ ⟨by omega, by omega⟩ ⟨by omega, by omega⟩ ⟨by omega, by omega⟩).mono ?_; rintro e w2 ⟨rfl, hb2⟩; have T2 : Hid (S2 W w2 gx (one gNew) gy (one gNew)) := S1.out.below hb2; clear hb2 S1) | (go_at_call 9; refine (T2.out.callx (fun G q => create_pos G gx _ _ _ _ _ 0 2 3 _ _ _ q (by omega) rfl rfl (by omega) (by omega) (by omega) (by omega) ⟨by omega, by omega⟩ ⟨by omega, by omega⟩ HC7.out)).mono ?_; rintro e w3 ⟨rfl, hs3⟩; have T3 : Hid (S2 W w3 gx (one g00) gy (one gNew)) := hs3; clear hs3 T2) | (go_at_call 9; refine (T3.out.cally (fun G q => create_pos G gy _ _ _ _ _ 0 2 3 _ _ _ q (by omega) rfl rfl (by omega) (by omega) (by omega) (by omega) ⟨by omega, by omega⟩ ⟨by omega, by omega⟩ HC7.out)).mono ?_; rintro e w4 ⟨rfl, hs4⟩; have T4 : Hid (S2 W w4 gx (one g00) gy (one g00)) := hs4; clear hs4 T3) | (go_at_call 10; refine (T4.out.callx (fun G q => send_1 G gx _ g00 s l _ q (by omega) HL.out (by rw [HLN.out]; show ([] : List UInt8).length + s.size ≤ 1024; simp; omega))).mono ?_; rintro e w5 ⟨rfl, hs5⟩; have T5 : Hid (S2 W w5 gx (one (gsend g00 l)) gy (one g00)) := hs5; clear hs5 T4))
    go_loopw [11, 12, 13, 14, 15, 16, 17, 18, 19] (fun o c i _ _ _ _ _ _ wr => PR W gx gy l o c i wr) (fun _ _ i _ _ _ _ _ _ _ => s.size - (intOf i).toNat)
    case atStart => exact ⟨0, g00, [], 0, by omega, rfl, rfl, rfl, T5.out, ⟨rfl, by simp [g00, gI], by rw [List.drop_zero]; rfl, by rw [List.drop_zero]; omega, by simp, by omega, by omega⟩⟩
    case round =>
      obtain ⟨k, C, O, z, hk, rfl, rfl, rfl, hR, hP⟩ := hrel
      have RS : Hid (S2 W wr gx (one (gsend g00 l)) gy (one C)) := hR
      have KP : Hid (PL l g00 C O z k) := hP
      have KO : Hid (okP C) := hR.oky (n := 0) (by omega) rfl
      obtain ⟨so, hso⟩ : ∃ so, str O = so := ⟨_, rfl⟩
      have HSO : Hid (str O = so) := hso
      have hln := HLN.out
      have z1 : so.size ≤ 1309696 := by rw [← hso, str_size]; have := hP.ol; omega
      have c0 := hP.c0
      have c1 : z ≤ 50176 := by have := hP.c1; omega
      rw [hso]
      by_cases hlt : k < s.size
      · have hkl : k < l.length := by omega
        have HKL : Hid (k < l.length) := hkl
        obtain ⟨u, hu⟩ : ∃ u, l[k]'hkl = u := ⟨_, rfl⟩
        have HST : Hid (str [u] = s.extract k (k + 1)) := by rw [← hu]; exact str_one s l HL.out k hkl
        have hw1 : C.wait.length + [u].length ≤ 1024 := by have := hP.wt; simp; omega
        have HW1 : Hid (C.wait.length + [u].length ≤ 1024) := hw1
        have k0 : (0 : Int) ≤ k := by omega
        have k1 : (k : Int) < s.size := by omega
        have k2 : (k : Int) + 1 ≤ s.size := by omega
        by_cases hN0 : N = 0
        · have n0 : ¬ (0 : Int) < N := by omega
          obtain ⟨f, hf⟩ : ∃ f : Int, f = 0 := ⟨_, rfl⟩
          have hf0 : 0 ≤ f := by omega
          have hf1 : f ≤ 49 := by omega
          obtain ⟨PN, b1, b2, b3⟩ := PL.next KP.out KO.out hkl (by omega) hf0 hf1
          rw [hu] at PN b1 b2 b3
          obtain ⟨L, hL⟩ : ∃ L, f - (pwork 1025 (gsend C [u]) f).2 = L := ⟨_, rfl⟩
          have HLF : Hid (f - (pwork 1025 (gsend C [u]) f).2 = L) := hL
          obtain ⟨sb, hsb⟩ : ∃ sb, str (pwork 1025 (gsend C [u]) f).1.out = sb := ⟨_, rfl⟩
          have HSB : Hid (str (pwork 1025 (gsend C [u]) f).1.out = sb) := hsb
          have z2 : sb.size ≤ 1279 := by rw [← hsb, str_size]; exact b1
          have l0 : ¬ L < 0 := by omega
          have l1 : ¬ f < L := by omega
          have l2 : L ≤ 49 := by omega
          have HPN : Hid (PL l g00 (gtake (pwork 1025 (gsend C [u]) f).1) (O ++ (pwork 1025 (gsend C [u]) f).1.out) (z + L) (k + 1)) := by rw [← hL]; exact PN
          subst hf
          clear hR hP hso hln hu hkl hw1 PN b1 b2 b3 hL hsb hN0
          go_wp2_with (first | (go_at_call 10; refine (RS.out.cally (fun G q => send_1 G gy _ C _ [u] _ q (by omega) HST.out HW1.out)).mono ?_; rintro e w6 ⟨rfl, hs6⟩; have R6 : Hid (S2 W w6 gx (one (gsend g00 l)) gy (one (gsend C [u]))) := hs6; clear hs6 RS) | (go_at_call 12; refine (R6.out.cally (fun G q => run_1 G gy _ _ _ _ _ q (by omega) (by omega) (by omega) HLF.out)).mono ?_; rintro e w7 ⟨rfl, hs7⟩; have R7 : Hid (S2 W w7 gx (one (gsend g00 l)) gy (one (pwork 1025 (gsend C [u]) 0).1)) := hs7; clear hs7 R6) | (go_at_call 13; refine (R7.out.cally (fun G q => take_1 G gy _ _ _ _ q (by omega) HSB.out)).mono ?_; rintro e w8 ⟨rfl, hs8⟩; have R8 : Hid (S2 W w8 gx (one (gsend g00 l)) gy (one (gtake (pwork 1025 (gsend C [u]) 0).1))) := hs8; clear hs8 R7))
          go_roundw
          case rel => exact ⟨k + 1, _, _, _, by have := HKL.out; omega, by go_num, by rw [app_str _ _ _ _ HSO.out HSB.out], rfl, R8.out, HPN.out⟩
          case measure => simp [intOf]; omega
        · have n0 : (0 : Int) < N := by omega
          obtain ⟨eao, hab⟩ := HA.out (by omega)
          obtain ⟨j, hj⟩ : ∃ j, k % N = j := ⟨_, rfl⟩
          have hjN : j < N := by rw [← hj]; exact Nat.mod_lt _ (by omega)
          have hj' : (k : Int) % (N : Int) = (j : Int) := by rw [← hj]; simp
          obtain ⟨x, hx, x0, x1⟩ := HCE.out j hjN
          have HXC : Hid (W.cell? ⟨ab, aoff + j, none⟩ = some (.int .i64 x)) := hx
          have HAB : Hid (ab < W.heap.size) := hab
          have HXB : Hid (-9223372036854775808 ≤ x ∧ x ≤ 9223372036854775807) := ⟨x0, x1⟩
          have pb := pck_bd (c := x) (n := 50) (by omega)
          obtain ⟨f, hf⟩ : ∃ f, pck x 50 = f := ⟨_, rfl⟩
          have HPF : Hid (pck x 50 = f) := hf
          have hf0 : 0 ≤ f := by omega
          have hf1 : f ≤ 49 := by omega
          have j0 : (0 : Int) ≤ j := by omega
          have j1 : (j : Int) < N := by omega
          obtain ⟨PN, b1, b2, b3⟩ := PL.next KP.out KO.out hkl (by omega) hf0 hf1
          rw [hu] at PN b1 b2 b3
          obtain ⟨L, hL⟩ : ∃ L, f - (pwork 1025 (gsend C [u]) f).2 = L := ⟨_, rfl⟩
          have HLF : Hid (f - (pwork 1025 (gsend C [u]) f).2 = L) := hL
          obtain ⟨sb, hsb⟩ : ∃ sb, str (pwork 1025 (gsend C [u]) f).1.out = sb := ⟨_, rfl⟩
          have HSB : Hid (str (pwork 1025 (gsend C [u]) f).1.out = sb) := hsb
          have z2 : sb.size ≤ 1279 := by rw [← hsb, str_size]; exact b1
          have l0 : ¬ L < 0 := by omega
          have l1 : ¬ f < L := by omega
          have l2 : L ≤ 49 := by omega
          have HPN : Hid (PL l g00 (gtake (pwork 1025 (gsend C [u]) f).1) (O ++ (pwork 1025 (gsend C [u]) f).1.out) (z + L) (k + 1)) := by rw [← hL]; exact PN
          subst eao
          clear hR hP hso hln hu hkl hw1 PN b1 b2 b3 hL hsb hj hx x0 x1 pb hf hN0
          go_wp2_with (first | (go_at_call 11; refine (kpick_as _ _ _ _ HXB.out (by omega) (by omega) HPF.out).mono ?_; rintro e w9 ⟨rfl, w9e⟩; subst w9) | (go_at_call 10; refine (RS.out.cally (fun G q => send_1 G gy _ C _ [u] _ q (by omega) HST.out HW1.out)).mono ?_; rintro e w6 ⟨rfl, hs6⟩; have R6 : Hid (S2 W w6 gx (one (gsend g00 l)) gy (one (gsend C [u]))) := hs6; have cx := (hs6.done.cell (p := ⟨ab, aoff + j, none⟩) HAB.out).trans HXC.out; have abl : ab < w6.heap.size := (by have := hs6.done.size; have := HAB.out; omega); clear hs6 RS) | (go_at_call 12; refine (R6.out.cally (fun G q => run_1 G gy _ _ _ _ _ q (by omega) (by omega) (by omega) HLF.out)).mono ?_; rintro e w7 ⟨rfl, hs7⟩; have R7 : Hid (S2 W w7 gx (one (gsend g00 l)) gy (one (pwork 1025 (gsend C [u]) f).1)) := hs7; clear hs7 R6) | (go_at_call 13; refine (R7.out.cally (fun G q => take_1 G gy _ _ _ _ q (by omega) HSB.out)).mono ?_; rintro e w8 ⟨rfl, hs8⟩; have R8 : Hid (S2 W w8 gx (one (gsend g00 l)) gy (one (gtake (pwork 1025 (gsend C [u]) f).1))) := hs8; clear hs8 R7))
          go_roundw
          case rel => exact ⟨k + 1, _, _, _, by have := HKL.out; omega, by go_num, by rw [app_str _ _ _ _ HSO.out HSB.out], rfl, R8.out, HPN.out⟩
          case measure => simp [intOf]; omega
      · have k1 : ¬ (k : Int) < s.size := by omega
        have ek : k = l.length := by omega
        obtain ⟨sy, hsy⟩ : ∃ sy, str (Rep C []) = sy := ⟨_, rfl⟩
        have HSY : Hid (str (Rep C []) = sy) := hsy
        obtain ⟨ny, hny⟩ : ∃ ny, Cst C [] = ny := ⟨_, rfl⟩
        have HNY : Hid (Cst C [] = ny) := hny
        have hrep := hP.rep
        have hcst := hP.cst
        rw [ek, List.drop_length] at hrep hcst
        obtain ⟨s1, s2⟩ := send_rep g00 l []
        rw [List.append_nil] at s1 s2
        have HSX : Hid (str (Rep (gsend g00 l) []) = so ++ sy) := by rw [s1, ← hrep, ← hso, ← hsy]; exact (str_app O (Rep C [])).symm
        have HNX : Hid (Cst (gsend g00 l) [] = z + ny) := by rw [s2, ← hcst, hny]; exact (rfl : z + ny = z + ny)
        have hfine := fr_fine (n := (C.wait ++ []).length + 1) KO.out.rm (C.wait ++ [])
        have hwt : (C.wait ++ []).length ≤ 1024 := by rw [List.append_nil]; exact KO.out.wt
        have z3 : sy.size ≤ 60000 := by
          rw [← hsy, str_size]
          unfold Rep FR
          rw [hP.out, List.nil_append]
          omega
        have HOX : Hid ((gsend g00 l).out = []) := (rfl : (gsend g00 l).out = [])
        have HOY : Hid (C.out = []) := hP.out
        have hny0 : -100000 ≤ ny := by
          rw [← hny]
          unfold Cst FR
          have hp : C.paid ≤ 100000 := by
            rcases KO.out.p2 with q | q
            · omega
            · have := whl_bd KO.out.rm q.1; omega
          omega
        have hny1 : ny ≤ 2300000 := by
          rw [← hny]
          unfold Cst FR
          have := KO.out.p0
          omega
        clear hR hP hso hln ek hsy hny hrep hcst s1 s2 hfine hwt
        go_wp2_with (first | (go_at_call 14; refine (RS.out.callx (fun G q => emptied_1 G gx _ _ _ _ _ q (by omega) HOX.out HSX.out HNX.out)).mono ?_; rintro e w6 ⟨rfl, hs6⟩; have R6 : Hid (S2 W w6 gx (one (emp 70 (gsend g00 l)).1) gy (one C)) := hs6; clear hs6 RS) | (go_at_call 14; refine (R6.out.cally (fun G q => emptied_1 G gy _ _ _ _ _ q (by omega) HOY.out HSY.out HNY.out)).mono ?_; rintro e w7 ⟨rfl, hs7⟩; have R7 : Hid (S2 W w7 gx (one (emp 70 (gsend g00 l)).1) gy (one (emp 70 C).1)) := hs7; clear hs7 R6))
        go_ret
        exact ⟨by simp, R7.out.done⟩
  · have hsz' : (1024 : Int) < s.size := by omega
    have HSZ : Hid (1024 < s.size) := (by omega : 1024 < s.size)
    clear hsz
    go_enter Try.func3, Try.ntmps3
    go_wp2_with (first | (go_at_call 7; refine (begun_2 S0.out).mono ?_; rintro e w1 ⟨gy, rfl, hs1⟩; have S1 : Hid (S2 W w1 gx (one gNew) gy (one gNew)) := hs1; clear hs1 S0) | (go_at_call 7; refine (begun_st W).mono ?_; rintro e w0 ⟨gx, rfl, hs0⟩; have S0 : Hid (St W w0 gx (one gNew)) := hs0; clear hs0) | (go_at_call 8; refine (text4 _ _ _ _ _ _ _ rfl ⟨by omega, by omega⟩ ⟨by omega, by omega⟩ ⟨by omega, by omega⟩ ⟨by omega, by omega⟩).mono ?_; rintro e w2 ⟨rfl, hb2⟩; have T2 : Hid (S2 W w2 gx (one gNew) gy (one gNew)) := S1.out.below hb2; clear hb2 S1) | (go_at_call 9; refine (T2.out.callx (fun G q => create_pos G gx _ _ _ _ _ 0 2 3 _ _ _ q (by omega) rfl rfl (by omega) (by omega) (by omega) (by omega) ⟨by omega, by omega⟩ ⟨by omega, by omega⟩ HC7.out)).mono ?_; rintro e w3 ⟨rfl, hs3⟩; have T3 : Hid (S2 W w3 gx (one g00) gy (one gNew)) := hs3; clear hs3 T2) | (go_at_call 9; refine (T3.out.cally (fun G q => create_pos G gy _ _ _ _ _ 0 2 3 _ _ _ q (by omega) rfl rfl (by omega) (by omega) (by omega) (by omega) ⟨by omega, by omega⟩ ⟨by omega, by omega⟩ HC7.out)).mono ?_; rintro e w4 ⟨rfl, hs4⟩; have T4 : Hid (S2 W w4 gx (one g00) gy (one g00)) := hs4; clear hs4 T3) | (go_at_call 10; refine (T4.out.callx (fun G q => send_1l G gx _ g00 s _ q (by omega) HSZ.out)).mono ?_; rintro e w5 ⟨rfl, hs5⟩; have T5 : Hid (S2 W w5 gx (one g00) gy (one g00)) := hs5; clear hs5 T4))
    go_ret
    exact ⟨rfl, T5.out.done⟩

end Go.Proofs.Ytbedkfgdhaajaab
