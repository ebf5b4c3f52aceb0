/- Walks: the document's answer: a context works (P8). -/
import Derived.Test.YtbedkfgdhaajaabRefGuest
import Derived.Test.YtbedkfgdhaajaabDocFacts
import Derived.Deep.LoopGhost
import Derived.Deep.RegionHeld3
import Derived.Deep.RegionLaw
namespace Go.Proofs.Ytbedkfgdhaajaab
open Go.RowKit

structure okG (g : Gst) : Prop where
  rm : okR g.rm
  wt : g.wait.length ≤ 1024
  ot : g.out.length ≤ 2000
  p0 : 0 ≤ g.paid
  p1 : g.paid ≤ 1000000000
  p2 : g.paid = 0 ∨ g.paid < (ddo g.rm (g.wait.take (dsz g.wait))).2.1

theorem gat_made (W : World) (t : TypeId) (g : Gst) : GAt (W.alloc (.cells (gcl g).toArray t)) W.heap.size 0 g := by
  refine ⟨fun j v hj => ?_, fun j => World.frozen?_alloc_at _ _ _ _ rfl, by simp⟩
  rw [Nat.zero_add, World.cell?_alloc_at _ _ _ _ rfl, List.getElem?_toArray]
  exact hj

def Rm0 : Rm := ⟨fun _ => 0, fun _ => [], fun _ => false, fun _ => []⟩
def Gst0 : Gst := ⟨false, Rm0, [], 0, []⟩

/-- what a round of works starts from -/
def WRel (w : World) (N : Nat) (g0 : Gst) (f0 : Int) (n : Nat) (t : Value) (wr : World) : Prop :=
  ∃ (g gz : Gst) (f : Int), t = .int .i64 f ∧ GAt wr w.heap.size 0 g ∧ GAt wr (w.heap.size + 1) 0 gz ∧ okG g ∧ 0 ≤ f ∧ f ≤ 1048576 ∧ g.wait.length < n ∧ dwork n g f = dwork N g0 f0 ∧ Below w.heap.size w wr

theorem dwork_none {n : Nat} {g : Gst} {f : Int} (h : dnx g = 0) : dwork n g f = (g, f) := by
  cases n with
  | zero => rfl
  | succ n => rw [dwork, if_pos h]
theorem dwork_stop {n : Nat} {g : Gst} {f : Int} (h : ¬ dnx g = 0) (hf : f < dcost g - g.paid) : dwork (n + 1) g f = ({ g with paid := g.paid + f }, 0) := by
  rw [dwork, if_neg h, if_pos hf]
theorem dwork_go {n : Nat} {g : Gst} {f : Int} (h : ¬ dnx g = 0) (hf : ¬ f < dcost g - g.paid) : dwork (n + 1) g f = dwork n (dfin g) (f - (dcost g - g.paid)) := by
  rw [dwork, if_neg h, if_neg hf]

theorem works_res {W : World} {b : Nat} {g : Gst} (h : GAt W b 0 g) : (loadVar 113 ⟨b, 0, none⟩).run Try.prog W = .ok (.agg (gcl g).toArray) W :=
  run_loadVar_mid W b 0 113 (gcl g) _ h.rng Try.underlying113 rfl (by rw [gcl_length]; kernel_rfl)

section
variable {P : Program} {ops : Array Oper} {rest : List Oper} {op : Oper} {a : Act} {w : World} {Q : Exit → Act → World → Prop} {ty : TypeId} {x y : Operand}
/-- the operation is looked at ahead of all else -/
def LG (P : Program) (ops : Array Oper) (Q : Exit → Act → World → Prop) (rest : List Oper) (op : Oper) (a : Act) (w : World) (ty : TypeId) (x : Operand) : Prop := op.guard = none → op.op = .load ty x → wpList P ops Q (op :: rest) a w
theorem lg_intro (ty : TypeId) (x : Operand) (hg : op.guard = none) (ho : op.op = .load ty x) (h : LG P ops Q rest op a w ty x) : wpList P ops Q (op :: rest) a w := h hg ho
theorem lg_mid (b o : Nat) (hx : a.eval x = .pointer (some ⟨b, o, none⟩)) (cs : List Value) (d : TypeDesc) (hc : w.rangeAt b o cs) (hu : P.underlying ty = some d) (hd : d.isRow = true) (hi : (P.info? ty).map (·.size) = some cs.length)
    (h : wpList P ops Q rest (a.put op.dst (.agg cs.toArray)) w) : LG P ops Q rest op a w ty x := fun hg ho => wpList_load_mid hg ty x ho b o hx cs d hc hu hd hi h
def SG (P : Program) (ops : Array Oper) (Q : Exit → Act → World → Prop) (rest : List Oper) (op : Oper) (a : Act) (w : World) (ty : TypeId) (x y : Operand) : Prop := op.guard = none → op.op = .store ty x y → wpList P ops Q (op :: rest) a w
theorem sg_intro (ty : TypeId) (x y : Operand) (hg : op.guard = none) (ho : op.op = .store ty x y) (h : SG P ops Q rest op a w ty x y) : wpList P ops Q (op :: rest) a w := h hg ho
theorem sg_mid (b o : Nat) (cells : Array Value) (hx : a.eval x = .pointer (some ⟨b, o, none⟩)) (hy : a.eval y = .agg cells) (ht : w.there b o cells.size) (hi : (P.info? ty).map (·.size) = some cells.size) (h1 : cells.all (·.oneCell') = true)
    (h : wpList P ops Q rest (a.put op.dst undef) (w.setCells b o cells.toList)) : SG P ops Q rest op a w ty x y := fun hg ho => wpList_store_mid hg ty x y ho b o cells hx hy ht hi h1 h
end

theorem works_results {tmps : Array Value} {W : World} {b : Nat} {g : Gst} {f : Int} (h4 : tmps.getD 4 undef = .pointer (some ⟨b, 0, none⟩)) (h5 : tmps.getD 5 undef = .int .i64 f) (hG : GAt W b 0 g) :
    (results Try.f63 tmps).run Try.prog W = .ok (.tuple #[.agg (gcl g).toArray, .int .i64 f]) W := by
  have hl := works_res hG
  unfold results
  rw [Try.results63]
  simp only [List.mapM_toArray, List.mapM_cons, List.mapM_nil, h4, h5, asAddr, pure_bind, bind_pure_comp]
  simp [hl]

theorem below_setCells {B : Nat} {a w : World} (h : Below B a w) {b : Nat} (hb : B ≤ b) (o : Nat) (vs : List Value) : Below B a (w.setCells b o vs) := by
  obtain ⟨z1, z2, z3, z4, z5⟩ := setCells_block b vs o w
  exact h.trans ⟨z3, z4, z5, by omega, fun k hk => z2 k (by omega)⟩

theorem there_made (W : World) (c : Array Value) (t : TypeId) : (W.alloc (.cells c t)).there W.heap.size 0 c.size := fun j hj => ⟨by
  rw [Nat.zero_add, World.cell?_alloc_at _ _ _ _ rfl, Array.getElem?_eq_getElem hj]; rfl, World.frozen?_alloc_at _ _ _ _ rfl⟩

theorem store_room {P : Program} {ops : Array Oper} {rest : List Oper} {op : Oper} {a : Act} {W : World} {Q : Exit → Act → World → Prop} (hgd : op.guard = none) (ty : TypeId) (x y : Operand) (ho : op.op = .store ty x y)
    (z : Array Value) (t : TypeId) (R : Rm) (hz : z.size = 24) (hx : a.eval x = .pointer (some ⟨W.heap.size, 0, none⟩)) (hy : a.eval y = .agg (rcl R).toArray) (hi : (P.info? ty).map (·.size) = some 24)
    (hK : ∀ W5, RoomAt W5 W.heap.size 0 R → Below W.heap.size W W5 → wpList P ops Q rest (a.put op.dst undef) W5) : wpList P ops Q (op :: rest) a (W.alloc (.cells z t)) := by
  have ht : (W.alloc (.cells z t)).there W.heap.size 0 (rcl R).toArray.size := by
    have := there_made W z t
    rw [hz] at this
    exact this
  refine wpList_store_mid hgd ty x y ho W.heap.size 0 (rcl R).toArray hx hy ht hi (all_oneCell_toArray (rcl_one R)) ?_
  refine hK _ (room_of (World.rangeAt_setCells_same _ _ _ _ ht) (fun j => by rw [World.frozen?_setCells]; exact World.frozen?_alloc_at _ _ _ _ rfl) (by rw [sz_setCells]; simp)) ?_
  exact below_setCells ((Below.refl _ _).alloc (Nat.le_refl _) _) (Nat.le_refl _) _ _

theorem rsize_of (sv : ByteArray) (s : List UInt8) (w : World) (hs : str s = sv) (hl : s.length ≤ 2000) :
    Calls Try.prog 86 #[.string sv] w fun x w' => x = .returned (.int .i64 (dsz s)) ∧ w' = w := by
  subst hs; exact rsize_any s w hl

theorem does_of (HD : DrawsRight) (b0 : Nat) (s : List UInt8) (sv : ByteArray) (R : Rm) (w : World) (hs : str s = sv) (hR : RoomAt w b0 0 R) (hk : okR R) (hw : whole s) :
    Calls Try.prog 87 #[.pointer (some ⟨b0, 0, none⟩), .string sv] w fun x w' => x = .returned (.tuple #[.string (str (ddo R s).1), .int .i64 (ddo R s).2.1]) ∧ RGoes b0 0 w w' (ddo R s).2.2 := by
  subst hs; exact does_any HD b0 s R w hR hk hw

/-- the cells of a guest that has done a command -/
def glist (R : Rm) (a b : ByteArray) : List Value := .bool true :: (rcl R ++ [.string a, .int .i64 0, .string b])
theorem glist_one (R : Rm) (a b : ByteArray) : ∀ v ∈ glist R a b, v.oneCell' = true := by
  intro v hv
  rcases List.mem_cons.1 hv with rfl | hv
  · rfl
  · rcases List.mem_append.1 hv with hv | hv
    · exact rcl_one R v hv
    · simp at hv
      rcases hv with rfl | rfl | rfl <;> rfl
theorem build_guest (R : Rm) (a b : ByteArray) (W : World) : (Instr.build 113 #[(0, .bool true), (1, .agg (rcl R).toArray), (2, .string a), (4, .string b)]).run Try.prog W = .ok (.agg (glist R a b).toArray) W := by kernel_rfl

theorem wp_build_guest {op : Oper} {a : Act} {w : World} {K : Act → World → Prop} {Q : Exit → Act → World → Prop} (R : Rm) (A B : ByteArray) {x1 x2 x4 : Operand} (ho : op.op = .build 113 #[(0, .const (.bool true)), (1, x1), (2, x2), (4, x4)])
    (h1 : a.eval x1 = .agg (rcl R).toArray) (h2 : a.eval x2 = .string A) (h4 : a.eval x4 = .string B) (h : K (a.put op.dst (.agg (glist R A B).toArray)) w) : op.wp Try.prog a w K Q := by
  have hb := build_guest R A B w
  unfold Oper.wp execOp
  simp only [ho, List.map_toArray, List.map_cons, List.map_nil, h1, h2, h4, show a.eval (.const (.bool true)) = .bool true from rfl, Sem.run_bind, hb]
  exact h

theorem yields_build {ops : Array Oper} {S : World → Prop} {o : Oper} {a : Act} (R : Rm) (A B : ByteArray) {x1 x2 x4 : Operand} (hw : Region.wanted o (yielded ops a.tmps) = true) (ho : o.op = .build 113 #[(0, .const (.bool true)), (1, x1), (2, x2), (4, x4)])
    (h1 : a.eval x1 = .agg (rcl R).toArray) (h2 : a.eval x2 = .string A) (h4 : a.eval x4 = .string B) : YieldsIf Try.prog ops S o (.agg (glist R A B).toArray) a :=
  .inl ⟨hw, fun W _ => by
    have hb := build_guest R A B W
    unfold execOp
    simp only [ho, List.map_toArray, List.map_cons, List.map_nil, h1, h2, h4, show a.eval (.const (.bool true)) = .bool true from rfl, Sem.run_bind, hb]
    rfl⟩

theorem str_app (a b : List UInt8) : str a ++ str b = str (a ++ b) := by
  unfold str
  apply ByteArray.ext
  simp [ByteArray.data_append]

theorem works_next {w wr w6 : World} {N n' m : Nat} {g0 g gz : Gst} {f0 f : Int} {R6 : Rm} {so sw o6 : ByteArray}
    (KG : GAt wr w.heap.size 0 g) (KO : okG g) (KB : Below w.heap.size w wr) (KR : dwork (n' + 1) g f = dwork N g0 f0) (GG6 : GAt w6 w.heap.size 0 g) (GZ6 : GAt w6 (w.heap.size + 1) 0 gz) (B6 : Below wr.heap.size wr w6)
    (hf0 : 0 ≤ f) (hf1 : f ≤ 1048576) (hn : g.wait.length < n' + 1) (HDX : dnx g = m) (hdc : dcost g = (ddo g.rm (g.wait.take m)).2.1) (hd0 : ¬ m = 0) (hdl : ¬ g.wait.length < m) (hs : ¬ f < (ddo g.rm (g.wait.take m)).2.1 - g.paid)
    (HR6 : (ddo g.rm (g.wait.take m)).2.2 = R6) (HO6 : str (ddo g.rm (g.wait.take m)).1 = o6) (HSO : str g.out = so) (HSW : str g.wait = sw) (HK5 : okR (ddo g.rm (g.wait.take m)).2.2) (k3 : 1 ≤ (ddo g.rm (g.wait.take m)).1.length) (k4 : (ddo g.rm (g.wait.take m)).1.length ≤ 256) (oo : g.out.length < 1024) (k1 : 1 ≤ (ddo g.rm (g.wait.take m)).2.1) (hp : g.paid = 0 ∨ g.paid < (ddo g.rm (g.wait.take m)).2.1) :
    WRel w N g0 f0 n' (.int .i64 (f - ((ddo g.rm (g.wait.take m)).2.1 - g.paid))) (w6.drew.setCells w.heap.size 0 (glist R6 (sw.extract m g.wait.length) (so ++ o6))) := by
  have hz := KB.size
  have hz6 := B6.size
  have ql := KG.lt
  have edf : dfin g = ⟨true, R6, g.wait.drop m, 0, g.out ++ (ddo g.rm (g.wait.take m)).1⟩ := by
    unfold dfin
    rw [HDX, HR6]
  have e1 : sw.extract m g.wait.length = str (g.wait.drop m) := by
    rw [← HSW, str_extract _ _ _ (Nat.le_refl _), List.take_length]
  have e2 : so ++ o6 = str (g.out ++ (ddo g.rm (g.wait.take m)).1) := by
    rw [← HSO, ← HO6, str_app]
  have e3 : glist R6 (sw.extract m g.wait.length) (so ++ o6) = gcl (dfin g) := by
    rw [e1, e2, edf]
    rfl
  rw [e3]
  have gd : GAt w6.drew w.heap.size 0 g := GG6.only (H := fun _ => False) ((Only.refl _ _).drew) id
  have zd : GAt w6.drew (w.heap.size + 1) 0 gz := GZ6.only (H := fun _ => False) ((Only.refl _ _).drew) id
  obtain ⟨s1, s2, s3, s4, s5⟩ := setCells_block w.heap.size (gcl (dfin g)) 0 w6.drew
  have ho : Only (fun x => x = w.heap.size) w6.drew (w6.drew.setCells w.heap.size 0 (gcl (dfin g))) := ⟨s3, s4, s5, by omega, fun k _ hk => s2 k hk⟩
  refine ⟨dfin g, gz, _, rfl, gd.put (dfin g), zd.only ho (by omega), ?_, ?_, ?_, ?_, ?_, ?_⟩
  · rw [edf]
    have h1 := KO.wt
    exact ⟨by rw [← HR6]; exact HK5, by simp only [List.length_drop]; omega, by simp only [List.length_append]; omega, by simp, by simp, .inl rfl⟩
  · omega
  · have := KO.p0
    omega
  · rw [edf]
    simp only [List.length_drop]
    omega
  · rw [← KR, dwork_go (by rw [HDX]; exact hd0) (by rw [hdc]; exact hs), hdc]
  · exact below_setCells (Below.drew (KB.trans (B6.mono hz))) (Nat.le_refl _) _ _

set_option maxRecDepth 8000 in
set_option maxHeartbeats 4000000 in
theorem works_any (HD : DrawsRight) (g0 : Gst) (f0 : Int) (w : World) (hG : okG g0) (h0 : 0 ≤ f0) (h1 : f0 ≤ 1048576) (N : Nat) (hN : g0.wait.length < N) :
    Calls Try.prog 63 #[.agg (gcl g0).toArray, .int .i64 f0] w fun x w' => x = .returned (.tuple #[.agg (gcl (dwork N g0 f0).1).toArray, .int .i64 (dwork N g0 f0).2]) ∧ Below w.heap.size w w' := by
  obtain ⟨cs, hcs⟩ : ∃ cs, gcl g0 = cs := ⟨_, rfl⟩
  have HCS : Hid (gcl g0 = cs) := hcs
  have HG : Hid (okG g0) := hG
  have HDR : Hid DrawsRight := HD
  rw [hcs]
  clear hcs hG HD
  go_enter Try.func63, Try.ntmps63
  go_wp2
  go_loopg [1] N (fun n t wr => WRel w N g0 f0 n t wr)
  case atStart =>
    have e := HCS.out
    subst e
    have a1 := (gat_made w 113 g0).below (W' := (w.alloc (.cells (gcl g0).toArray 113)).alloc (.cells (gcl Gst0).toArray 113)) ((Below.refl _ _).alloc (Nat.le_refl _) _)
    have a2 := gat_made (w.alloc (.cells (gcl g0).toArray 113)) 113 Gst0
    rw [World.size_alloc] at a2
    exact ⟨g0, Gst0, f0, rfl, a1, a2, HG.out, h0, h1, hN, rfl, ((Below.refl _ _).alloc (Nat.le_refl _) _).alloc (by simp) _⟩
  case round =>
    obtain ⟨g, gz, f, rfl, hg, hz, hok, hf0, hf1, hn, hr, hB⟩ := hrel
    have KG : Hid (GAt wr w.heap.size 0 g) := hg
    have KZ : Hid (GAt wr (w.heap.size + 1) 0 gz) := hz
    have KO : Hid (okG g) := hok
    have KR : Hid (dwork gk g f = dwork N g0 f0) := hr
    have KB : Hid (Below w.heap.size w wr) := hB
    have q27 := hg.out
    have q25 := hg.wait
    have q26 := hg.paid
    have qf := hg.fz
    have ql := hg.lt
    have ql2 := hz.lt
    simp only [Nat.zero_add] at q27 q25 q26
    obtain ⟨so, hso⟩ : ∃ so, str g.out = so := ⟨_, rfl⟩
    obtain ⟨sw, hsw⟩ : ∃ sw, str g.wait = sw := ⟨_, rfl⟩
    have hsoz : so.size = g.out.length := by rw [← hso, str_size]
    have hswz : sw.size = g.wait.length := by rw [← hsw, str_size]
    have HSO : Hid (str g.out = so) := hso
    have HSW : Hid (str g.wait = sw) := hsw
    have ow := hok.wt
    have oo := hok.ot
    obtain ⟨op0, op1⟩ : 0 ≤ g.paid ∧ g.paid ≤ 1000000000 := ⟨hok.p0, hok.p1⟩
    rw [hso] at q27
    rw [hsw] at q25
    clear hg hz hok hr hB hso hsw HCS HG
    obtain ⟨n', rfl⟩ : ∃ n', gk = n' + 1 := ⟨gk - 1, by omega⟩
    have hgl := gcl_length g
    by_cases ho : 1024 ≤ g.out.length
    · have ho' : decide ((g.out.length : Int) < 1024) = false := decide_eq_false (by omega)
      have hdn : dnx g = 0 := if_pos ho
      clear ho
      go_wp2_with (first | (refine wpList_load_mid rfl 113 (.tmp 2) rfl w.heap.size 0 rfl (gcl g) _ KG.out.rng Try.underlying113 rfl (by rw [gcl_length]; kernel_rfl) ?_) | (refine wpList_store_mid rfl 113 (.tmp 4) (.tmp 64) rfl (w.heap.size + 1) 0 (gcl g).toArray rfl rfl KZ.out.there (by show _ = some 28; kernel_rfl) (all_oneCell_toArray (gcl_one g)) ?_))
      refine bodyPost_ret (works_results rfl rfl (KZ.out.put g)) rfl ⟨?_, below_setCells KB.out (by omega) _ _⟩
      rw [← KR.out, dwork_none hdn]
    · have ho' : (g.out.length : Int) < 1024 := by omega
      by_cases hd0 : dsz g.wait = 0
      · have hdn : dnx g = 0 := by unfold dnx; rw [if_neg ho]; split; rfl; exact hd0
        have hd0' : ((dsz g.wait : Int) == 0) = true := by rw [beq_iff_eq]; omega
        clear ho hd0
        go_wp2_with (first | (go_at_call 86; refine (rsize_of sw g.wait _ HSW.out (by omega)).mono ?_; rintro e w1 ⟨rfl, hw1⟩; subst w1) | (refine wpList_load_mid rfl 113 (.tmp 2) rfl w.heap.size 0 rfl (gcl g) _ KG.out.rng Try.underlying113 rfl (by rw [gcl_length]; kernel_rfl) ?_) | (refine wpList_store_mid rfl 113 (.tmp 4) (.tmp 64) rfl (w.heap.size + 1) 0 (gcl g).toArray rfl rfl KZ.out.there (by show _ = some 28; kernel_rfl) (all_oneCell_toArray (gcl_one g)) ?_))
        refine bodyPost_ret (works_results rfl rfl (KZ.out.put g)) rfl ⟨?_, below_setCells KB.out (by omega) _ _⟩
        rw [← KR.out, dwork_none hdn]
      · have hd0' : ((dsz g.wait : Int) == 0) = false := beq_false_of_ne (by omega)
        by_cases hdl : g.wait.length < dsz g.wait
        · have hdn : dnx g = 0 := by unfold dnx; rw [if_neg ho, if_pos hdl]
          have hdl' : (g.wait.length : Int) < dsz g.wait := by omega
          clear ho hd0 hdl
          go_wp2_with (first | (go_at_call 86; refine (rsize_of sw g.wait _ HSW.out (by omega)).mono ?_; rintro e w1 ⟨rfl, hw1⟩; subst w1) | (refine wpList_load_mid rfl 113 (.tmp 2) rfl w.heap.size 0 rfl (gcl g) _ KG.out.rng Try.underlying113 rfl (by rw [gcl_length]; kernel_rfl) ?_) | (refine wpList_store_mid rfl 113 (.tmp 4) (.tmp 64) rfl (w.heap.size + 1) 0 (gcl g).toArray rfl rfl KZ.out.there (by show _ = some 28; kernel_rfl) (all_oneCell_toArray (gcl_one g)) ?_))
          refine bodyPost_ret (works_results rfl rfl (KZ.out.put g)) rfl ⟨?_, below_setCells KB.out (by omega) _ _⟩
          rw [← KR.out, dwork_none hdn]
        · have hdx : dnx g = dsz g.wait := by unfold dnx; rw [if_neg ho, if_neg hdl]
          have hdl' : ¬ (g.wait.length : Int) < dsz g.wait := by omega
          have HDX : Hid (dnx g = dsz g.wait) := hdx
          obtain ⟨m, hm⟩ : ∃ m, dsz g.wait = m := ⟨_, rfl⟩
          rw [hm] at hd0 hd0' hdl hdl' HDX
          have HM : Hid (dsz g.wait = m) := hm
          have htk : (g.wait.take m).length = m := List.length_take_of_le (by omega)
          have HP : Hid (g.paid = 0 ∨ g.paid < (ddo g.rm (g.wait.take m)).2.1) := by
            have := KO.out.p2
            rw [hm] at this
            exact this
          have HW : Hid (whole (g.wait.take m)) := ⟨by omega, by
            have := dsz_take (l := g.wait) (by omega) (by omega)
            rw [hm] at this
            rw [htk, this]⟩
          obtain ⟨k1, k2, k3, k4, k5⟩ := ddo_bd KO.out.rm (g.wait.take m) HW.out.2
          have HK5 : Hid (okR (ddo g.rm (g.wait.take m)).2.2) := k5
          have KRN : Hid (wr.rangeAt w.heap.size 1 (rcl g.rm)) := KG.out.room.range
          have m0 : (0 : Int) ≤ m := by omega
          have m1 : (m : Int) ≤ sw.size := by omega
          have hdc : Hid (dcost g = (ddo g.rm (g.wait.take m)).2.1) := by
            have : dcost g = (ddo g.rm (g.wait.take (dnx g))).2.1 := rfl
            rw [HDX.out] at this
            exact this
          clear hdx hm k5 htk ho
          go_wp2_with (first | (go_at_call 86; refine (rsize_of sw g.wait _ HSW.out (by omega)).mono ?_; rintro e w1 ⟨rfl, hw1⟩; subst w1; rw [HM.out]) | (refine wpList_load_mid rfl 111 (.tmp 26) rfl w.heap.size 1 rfl (rcl g.rm) _ KRN.out Try.underlying111 rfl (by show _ = some 24; kernel_rfl) ?_; clear KRN; have KFL : Hid True := trivial) | (have KF := KFL.out; refine store_room rfl 111 (.tmp 7) (.tmp 27) rfl _ _ g.rm rfl rfl rfl (by show _ = some 24; kernel_rfl) ?_; clear KF KFL; intro W5 hR5 hB5; have KR5 : Hid (RoomAt W5 wr.heap.size 0 g.rm) := hR5; have KB5 : Hid (Below wr.heap.size wr W5) := hB5; have q25' := (hB5.cell (p := ⟨w.heap.size, 25, none⟩) ql).trans q25; have q26' := (hB5.cell (p := ⟨w.heap.size, 26, none⟩) ql).trans q26; have q27' := (hB5.cell (p := ⟨w.heap.size, 27, none⟩) ql).trans q27; have z5 := hB5.size; have ql5 : w.heap.size < W5.heap.size := (by omega); clear hR5 hB5))
          by_cases hs : f < (ddo g.rm (g.wait.take m)).2.1 - g.paid
          · go_wp2_with (first | (go_at_call 86; refine (rsize_of sw g.wait _ HSW.out (by omega)).mono ?_; rintro e w1 ⟨rfl, hw1⟩; subst w1; rw [HM.out]) | (refine wpList_load_mid rfl 111 (.tmp 26) rfl w.heap.size 1 rfl (rcl g.rm) _ KRN.out Try.underlying111 rfl (by show _ = some 24; kernel_rfl) ?_; clear KRN; have KFL : Hid True := trivial) | (have KF := KFL.out; refine store_room rfl 111 (.tmp 7) (.tmp 27) rfl _ _ g.rm rfl rfl rfl (by show _ = some 24; kernel_rfl) ?_; clear KF KFL; intro W5 hR5 hB5; have KR5 : Hid (RoomAt W5 wr.heap.size 0 g.rm) := hR5; have KB5 : Hid (Below wr.heap.size wr W5) := hB5; have q25' := (hB5.cell (p := ⟨w.heap.size, 25, none⟩) ql).trans q25; have q26' := (hB5.cell (p := ⟨w.heap.size, 26, none⟩) ql).trans q26; have q27' := (hB5.cell (p := ⟨w.heap.size, 27, none⟩) ql).trans q27; have z5 := hB5.size; have ql5 : w.heap.size < W5.heap.size := (by omega); clear hR5 hB5) | (go_at_call 87; refine (does_of HDR.out wr.heap.size (g.wait.take m) _ g.rm _ (by rw [← HSW.out, str_extract _ _ _ (by omega)]; rfl) KR5.out KO.out.rm HW.out).mono ?_; rintro e w6 ⟨rfl, hg6⟩; have KR6 : Hid (RoomAt w6 wr.heap.size 0 (ddo g.rm (g.wait.take m)).2.2) := hg6.2; have b6 : Below wr.heap.size wr w6 := KB5.out.trans (hg6.1.below z5 (fun x hx => by rw [hx]; exact Nat.le_refl _)); have B6 : Hid (Below wr.heap.size wr w6) := b6; have GG6 : Hid (GAt w6 w.heap.size 0 g) := KG.out.below b6; have GZ6 : Hid (GAt w6 (w.heap.size + 1) 0 gz) := KZ.out.below b6; have r25 := (b6.cell (p := ⟨w.heap.size, 25, none⟩) ql).trans q25; have r26 := (b6.cell (p := ⟨w.heap.size, 26, none⟩) ql).trans q26; have r27 := (b6.cell (p := ⟨w.heap.size, 27, none⟩) ql).trans q27; have rf := GG6.out.fz; have z6 := b6.size; have rl : w.heap.size < w6.heap.size := (by omega); clear hg6 b6) | (refine wpList_load_mid rfl 113 (.tmp 2) rfl w.heap.size 0 rfl (gcl { g with paid := g.paid + f }) _ (GG6.out.setPaid (g.paid + f)).rng Try.underlying113 rfl (by rw [gcl_length]; kernel_rfl) ?_) | (refine wpList_store_mid rfl 113 (.tmp 4) (.tmp 47) rfl (w.heap.size + 1) 0 (gcl { g with paid := g.paid + f }).toArray rfl rfl (GAt.there (GZ6.out.only (H := fun x => x = w.heap.size) ((Only.refl (fun x => x = w.heap.size) w6).setCell (p := ⟨w.heap.size, 26, none⟩) (.inl rfl) _) (by omega))) (by show _ = some 28; kernel_rfl) (all_oneCell_toArray (gcl_one _)) ?_))
            refine bodyPost_ret (works_results rfl rfl (GAt.put (g := gz) (GZ6.out.only (H := fun x => x = w.heap.size) ((Only.refl (fun x => x = w.heap.size) w6).setCell (p := ⟨w.heap.size, 26, none⟩) (.inl rfl) _) (by omega)) { g with paid := g.paid + f })) rfl ⟨?_, ?_⟩
            · rw [← KR.out, dwork_stop (by rw [HDX.out]; exact hd0) (by rw [hdc.out]; exact hs)]
            · exact below_setCells (((KB.out.trans (B6.out.mono KB.out.size))).setCell (p := ⟨w.heap.size, 26, none⟩) (Nat.le_refl _) _) (by omega) _ _
          · go_wp2_with (first | (go_at_call 86; refine (rsize_of sw g.wait _ HSW.out (by omega)).mono ?_; rintro e w1 ⟨rfl, hw1⟩; subst w1; rw [HM.out]) | (refine wpList_load_mid rfl 111 (.tmp 26) rfl w.heap.size 1 rfl (rcl g.rm) _ KRN.out Try.underlying111 rfl (by show _ = some 24; kernel_rfl) ?_; clear KRN; have KFL : Hid True := trivial) | (have KF := KFL.out; refine store_room rfl 111 (.tmp 7) (.tmp 27) rfl _ _ g.rm rfl rfl rfl (by show _ = some 24; kernel_rfl) ?_; clear KF KFL; intro W5 hR5 hB5; have KR5 : Hid (RoomAt W5 wr.heap.size 0 g.rm) := hR5; have KB5 : Hid (Below wr.heap.size wr W5) := hB5; have q25' := (hB5.cell (p := ⟨w.heap.size, 25, none⟩) ql).trans q25; have q26' := (hB5.cell (p := ⟨w.heap.size, 26, none⟩) ql).trans q26; have q27' := (hB5.cell (p := ⟨w.heap.size, 27, none⟩) ql).trans q27; have z5 := hB5.size; have ql5 : w.heap.size < W5.heap.size := (by omega); clear hR5 hB5) | (go_at_call 87; refine (does_of HDR.out wr.heap.size (g.wait.take m) _ g.rm _ (by rw [← HSW.out, str_extract _ _ _ (by omega)]; rfl) KR5.out KO.out.rm HW.out).mono ?_; rintro e w6 ⟨rfl, hg6⟩; have KR6 : Hid (RoomAt w6 wr.heap.size 0 (ddo g.rm (g.wait.take m)).2.2) := hg6.2; have b6 : Below wr.heap.size wr w6 := KB5.out.trans (hg6.1.below z5 (fun x hx => by rw [hx]; exact Nat.le_refl _)); have B6 : Hid (Below wr.heap.size wr w6) := b6; have GG6 : Hid (GAt w6 w.heap.size 0 g) := KG.out.below b6; have GZ6 : Hid (GAt w6 (w.heap.size + 1) 0 gz) := KZ.out.below b6; have r25 := (b6.cell (p := ⟨w.heap.size, 25, none⟩) ql).trans q25; have r26 := (b6.cell (p := ⟨w.heap.size, 26, none⟩) ql).trans q26; have r27 := (b6.cell (p := ⟨w.heap.size, 27, none⟩) ql).trans q27; have rf := GG6.out.fz; have z6 := b6.size; have rl : w.heap.size < w6.heap.size := (by omega); clear hg6 b6))
            obtain ⟨R6, hR6⟩ : ∃ R6, (ddo g.rm (g.wait.take m)).2.2 = R6 := ⟨_, rfl⟩
            obtain ⟨o6, ho6⟩ : ∃ o6, str (ddo g.rm (g.wait.take m)).1 = o6 := ⟨_, rfl⟩
            have ho6z : o6.size = (ddo g.rm (g.wait.take m)).1.length := by rw [← ho6, str_size]
            have HR6 : Hid ((ddo g.rm (g.wait.take m)).2.2 = R6) := hR6
            have HO6 : Hid (str (ddo g.rm (g.wait.take m)).1 = o6) := ho6
            rw [hR6] at KR6
            have hsum : (so.size : Int) + o6.size ≤ 9223372036854775807 := by omega
            have KRN6 : Hid (w6.drew.rangeAt wr.heap.size 0 (rcl R6)) := (KR6.out.drewN 1).range
            have KTH6 : Hid (w6.drew.there w.heap.size 0 28) := (GG6.out.only (H := fun _ => False) ((Only.refl _ _).drew) id).there
            have oo' : g.out.length < 1024 := by omega
            rw [ho6]
            clear ho6 hR6
            refine wp_region_held_drew (S := fun W' => W'.rangeAt wr.heap.size 0 (rcl R6)) (by kernel_rfl) KRN6.out (fun hHeld => ?_)
            refine wpAnyH_take (i := 0) (v := .agg (rcl R6).toArray) rfl (by kernel_rfl) (by kernel_rfl) (by kernel_rfl) (fun _ _ _ h => h) (yieldsIf_load_mid (by rfl) _ _ rfl _ _ rfl _ _ (fun w hSw => hSw) Try.underlying111 rfl (by show _ = some 24; kernel_rfl)) hHeld ?_
            refine wpAnyH_take (i := 1) (v := .pointer (some ⟨w.heap.size, 25, none⟩)) rfl (by kernel_rfl) (by kernel_rfl) (by kernel_rfl) (fun _ _ _ h => h) (Or.inl ⟨by rfl, fun W hW => by go_simp⟩) hHeld ?_
            refine wpAnyH_take (i := 3) (v := .int .i64 m) rfl (by kernel_rfl) (by kernel_rfl) (by kernel_rfl) (fun _ _ _ h => h) (Or.inl ⟨by rfl, fun W hW => by go_simp⟩) hHeld ?_
            refine wpAnyH_take (i := 5) (v := .pointer (some ⟨w.heap.size, 27, none⟩)) rfl (by kernel_rfl) (by kernel_rfl) (by kernel_rfl) (fun _ _ _ h => h) (Or.inl ⟨by rfl, fun W hW => by go_simp⟩) hHeld ?_
            refine wpAnyH_take (i := 7) (v := .string o6) rfl (by kernel_rfl) (by kernel_rfl) (by kernel_rfl) (fun _ _ _ h => h) (Or.inl ⟨by rfl, fun W hW => by go_simp⟩) hHeld ?_
            refine wpAnyH_ready (rs := [2, 6]) (by kernel_rfl) (by simp) ?_
            refine AllReadyH.cons rfl (fun K hK => ?_) ?_
            · go_simp
              refine hK.out _ _ hHeld (fun hHeld2 => ?_)
              clear hK K
              refine wpAnyH_take (i := 4) (oi := { dst := some 58, op := Op.slice 9 (Operand.tmp 56) (some (Operand.tmp 57)) none none, type := 9, pos := "house.go:96", after := #[{ on := 2, ground := Ground.data }, { on := 3, ground := Ground.data }], guard := none }) (v := .string (sw.extract m g.wait.length)) rfl (by kernel_rfl) (by kernel_rfl) (by kernel_rfl) (fun _ _ _ h => h) (Or.inl ⟨by rfl, fun W hW => by go_simp⟩) hHeld2 ?_
              refine wpAnyH_ready (rs := [6]) (by kernel_rfl) (by simp) ?_
              refine AllReadyH.cons rfl (fun K hK => ?_) AllReadyH.nil
              go_simp
              refine hK.out _ _ hHeld2 (fun hHeld3 => ?_)
              clear hK K
              refine wpAnyH_take (i := 8) (oi := { dst := some 62, op := Op.binOp BinOp.add 9 (Operand.tmp 60) (Operand.tmp 61) 9, type := 9, pos := "house.go:96", after := #[{ on := 6, ground := Ground.data }, { on := 7, ground := Ground.data }], guard := none }) (v := .string (so ++ o6)) rfl (by kernel_rfl) (by kernel_rfl) (by kernel_rfl) (fun _ _ _ h => h) (Or.inl ⟨by rfl, fun W hW => by go_simp; omega⟩) hHeld3 ?_
              refine wpAnyH_take (i := 9) (oi := { dst := some 63, op := Op.build 113 #[(0, Operand.const (Value.bool true)), (1, Operand.tmp 54), (2, Operand.tmp 58), (4, Operand.tmp 62)], type := 113, pos := "house.go:96", after := #[{ on := 0, ground := Ground.data }, { on := 4, ground := Ground.data }, { on := 8, ground := Ground.data }], guard := none }) (v := .agg (glist R6 (sw.extract m g.wait.length) (so ++ o6)).toArray) rfl (by kernel_rfl) (by kernel_rfl) (by kernel_rfl) (fun _ _ _ h => h) (yields_build R6 (sw.extract m g.wait.length) (so ++ o6) (by rfl) rfl rfl rfl rfl) hHeld3 ?_
              refine wpAnyH_ready (rs := [10]) (by kernel_rfl) (by simp) ?_
              refine AllReadyH.cons rfl (fun K hK => ?_) AllReadyH.nil
              rw [if_pos (by rfl)]
              refine wp_store_mid 113 _ _ rfl w.heap.size 0 (glist R6 (sw.extract m g.wait.length) (so ++ o6)).toArray rfl rfl KTH6.out (by show _ = some 28; kernel_rfl) (all_oneCell_toArray (glist_one _ _ _)) ?_
              refine hK.out _ _ (World.rangeAt_setCells_apart KRN6.out _ _ _ (.inl (by omega))) (fun hHeld9 => ?_)
              clear hK K hHeld9
              refine wpAnyH_done (by kernel_rfl) ?_ _
              simp only [Act.put, List.setIfInBounds_toArray, List.set_cons_zero, List.set_cons_succ]
              go_wp2
              go_roundg n'
              case measure => omega
              case rel => exact works_next KG.out KO.out KB.out KR.out GG6.out GZ6.out B6.out hf0 hf1 hn HDX.out hdc.out hd0 hdl (by omega) HR6.out HO6.out HSO.out HSW.out HK5.out k3 k4 oo' k1 HP.out
            · refine AllReadyH.cons rfl (fun K hK => ?_) AllReadyH.nil
              go_simp
              refine hK.out _ _ hHeld (fun hHeld2 => ?_)
              clear hK K
              refine wpAnyH_take (i := 8) (oi := { dst := some 62, op := Op.binOp BinOp.add 9 (Operand.tmp 60) (Operand.tmp 61) 9, type := 9, pos := "house.go:96", after := #[{ on := 6, ground := Ground.data }, { on := 7, ground := Ground.data }], guard := none }) (v := .string (so ++ o6)) rfl (by kernel_rfl) (by kernel_rfl) (by kernel_rfl) (fun _ _ _ h => h) (Or.inl ⟨by rfl, fun W hW => by go_simp; omega⟩) hHeld2 ?_
              refine wpAnyH_ready (rs := [2]) (by kernel_rfl) (by simp) ?_
              refine AllReadyH.cons rfl (fun K hK => ?_) AllReadyH.nil
              go_simp
              refine hK.out _ _ hHeld2 (fun hHeld3 => ?_)
              clear hK K
              refine wpAnyH_take (i := 4) (oi := { dst := some 58, op := Op.slice 9 (Operand.tmp 56) (some (Operand.tmp 57)) none none, type := 9, pos := "house.go:96", after := #[{ on := 2, ground := Ground.data }, { on := 3, ground := Ground.data }], guard := none }) (v := .string (sw.extract m g.wait.length)) rfl (by kernel_rfl) (by kernel_rfl) (by kernel_rfl) (fun _ _ _ h => h) (Or.inl ⟨by rfl, fun W hW => by go_simp⟩) hHeld3 ?_
              refine wpAnyH_take (i := 9) (oi := { dst := some 63, op := Op.build 113 #[(0, Operand.const (Value.bool true)), (1, Operand.tmp 54), (2, Operand.tmp 58), (4, Operand.tmp 62)], type := 113, pos := "house.go:96", after := #[{ on := 0, ground := Ground.data }, { on := 4, ground := Ground.data }, { on := 8, ground := Ground.data }], guard := none }) (v := .agg (glist R6 (sw.extract m g.wait.length) (so ++ o6)).toArray) rfl (by kernel_rfl) (by kernel_rfl) (by kernel_rfl) (fun _ _ _ h => h) (yields_build R6 (sw.extract m g.wait.length) (so ++ o6) (by rfl) rfl rfl rfl rfl) hHeld3 ?_
              refine wpAnyH_ready (rs := [10]) (by kernel_rfl) (by simp) ?_
              refine AllReadyH.cons rfl (fun K hK => ?_) AllReadyH.nil
              rw [if_pos (by rfl)]
              refine wp_store_mid 113 _ _ rfl w.heap.size 0 (glist R6 (sw.extract m g.wait.length) (so ++ o6)).toArray rfl rfl KTH6.out (by show _ = some 28; kernel_rfl) (all_oneCell_toArray (glist_one _ _ _)) ?_
              refine hK.out _ _ (World.rangeAt_setCells_apart KRN6.out _ _ _ (.inl (by omega))) (fun hHeld9 => ?_)
              clear hK K hHeld9
              refine wpAnyH_done (by kernel_rfl) ?_ _
              simp only [Act.put, List.setIfInBounds_toArray, List.set_cons_zero, List.set_cons_succ]
              go_wp2
              go_roundg n'
              case measure => omega
              case rel => exact works_next KG.out KO.out KB.out KR.out GG6.out GZ6.out B6.out hf0 hf1 hn HDX.out hdc.out hd0 hdl (by omega) HR6.out HO6.out HSO.out HSW.out HK5.out k3 k4 oo' k1 HP.out

end Go.Proofs.Ytbedkfgdhaajaab
