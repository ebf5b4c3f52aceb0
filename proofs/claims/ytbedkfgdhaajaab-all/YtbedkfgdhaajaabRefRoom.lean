/- Walks: the document's answer: a room (P10, P11). -/
import Derived.Test.YtbedkfgdhaajaabProg
import Derived.Test.YtbedkfgdhaajaabDoc
import Derived.Deep.MidRow
import Derived.Deep.QuietTactic
import Derived.BigQuiet
import Derived.Laws.IdiomStrings
import Derived.Deep.RegionHeld3
namespace Go.Proofs.Ytbedkfgdhaajaab
open Go.RowKit

structure RoomAt (W : World) (b o : Nat) (R : Rm) : Prop where
  wd : ∀ k, k < 8 → W.cell? ⟨b, o + k * 2, none⟩ = some (.int .i64 (R.wd k))
  bs : ∀ k, k < 8 → W.cell? ⟨b, o + k * 2 + 1, none⟩ = some (.string (str (R.bs k)))
  has : ∀ k, k < 4 → W.cell? ⟨b, o + 16 + k, none⟩ = some (.bool (R.has k))
  cd : ∀ k, k < 4 → W.cell? ⟨b, o + 20 + k, none⟩ = some (.string (str (R.cd k)))
  fz : ∀ j, W.frozen? ⟨b, j, none⟩ = false
  lt : b < W.heap.size

section
variable {W W' : World} {b o : Nat} {R : Rm}
theorem RoomAt.only {H : Nat → Prop} (h : RoomAt W b o R) (ho : Only H W W') (hn : ¬ H b) : RoomAt W' b o R :=
  ⟨fun k hk => (ho.cell h.lt hn _).trans (h.wd k hk), fun k hk => (ho.cell h.lt hn _).trans (h.bs k hk), fun k hk => (ho.cell h.lt hn _).trans (h.has k hk), fun k hk => (ho.cell h.lt hn _).trans (h.cd k hk), fun j => (ho.frozen h.lt hn j).trans (h.fz j), Nat.lt_of_lt_of_le h.lt ho.size⟩
theorem RoomAt.below (h : RoomAt W b o R) (hb : Below W.heap.size W W') : RoomAt W' b o R := h.only (H := fun _ => False) (Only.of_below hb) id
theorem RoomAt.alloc (h : RoomAt W b o R) (x : Obj) : RoomAt (W.alloc x) b o R := h.below ((Below.refl _ _).alloc (Nat.le_refl _) x)

theorem RoomAt.setWd (h : RoomAt W b o R) {k : Nat} (hk : k < 8) (v : Int) : RoomAt (W.setCell ⟨b, o + k * 2, none⟩ (.int .i64 v)) b o { R with wd := updA R.wd k v } := by
  refine ⟨fun j hj => ?_, fun j hj => ?_, fun j hj => ?_, fun j hj => ?_, fun j => by rw [World.frozen?_setCell]; exact h.fz j, by rw [sz_setCell]; exact h.lt⟩
  · show _ = some (Value.int .i64 (updA R.wd k v j))
    by_cases e : j = k
    · subst e; rw [updA_same]; exact World.cell?_setCell_same _ _ _ (h.wd j hj)
    · rw [updA_other _ _ e, World.cell?_setCell_other _ _ _ _ (addr_ne (by omega))]; exact h.wd j hj
  · rw [World.cell?_setCell_other _ _ _ _ (addr_ne (by omega))]; exact h.bs j hj
  · rw [World.cell?_setCell_other _ _ _ _ (addr_ne (by omega))]; exact h.has j hj
  · rw [World.cell?_setCell_other _ _ _ _ (addr_ne (by omega))]; exact h.cd j hj
theorem RoomAt.setBs (h : RoomAt W b o R) {k : Nat} (hk : k < 8) (l : List UInt8) : RoomAt (W.setCell ⟨b, o + k * 2 + 1, none⟩ (.string (str l))) b o (rBytes R k l) := by
  refine ⟨fun j hj => ?_, fun j hj => ?_, fun j hj => ?_, fun j hj => ?_, fun j => by rw [World.frozen?_setCell]; exact h.fz j, by rw [sz_setCell]; exact h.lt⟩
  · rw [World.cell?_setCell_other _ _ _ _ (addr_ne (by omega))]; exact h.wd j hj
  · show _ = some (Value.string (str (updA R.bs k l j)))
    by_cases e : j = k
    · subst e; rw [updA_same]; exact World.cell?_setCell_same _ _ _ (h.bs j hj)
    · rw [updA_other _ _ e, World.cell?_setCell_other _ _ _ _ (addr_ne (by omega))]; exact h.bs j hj
  · rw [World.cell?_setCell_other _ _ _ _ (addr_ne (by omega))]; exact h.has j hj
  · rw [World.cell?_setCell_other _ _ _ _ (addr_ne (by omega))]; exact h.cd j hj
theorem RoomAt.setHas (h : RoomAt W b o R) {k : Nat} (hk : k < 4) (v : Bool) : RoomAt (W.setCell ⟨b, o + 16 + k, none⟩ (.bool v)) b o { R with has := updA R.has k v } := by
  refine ⟨fun j hj => ?_, fun j hj => ?_, fun j hj => ?_, fun j hj => ?_, fun j => by rw [World.frozen?_setCell]; exact h.fz j, by rw [sz_setCell]; exact h.lt⟩
  · rw [World.cell?_setCell_other _ _ _ _ (addr_ne (by omega))]; exact h.wd j hj
  · rw [World.cell?_setCell_other _ _ _ _ (addr_ne (by omega))]; exact h.bs j hj
  · show _ = some (Value.bool (updA R.has k v j))
    by_cases e : j = k
    · subst e; rw [updA_same]; exact World.cell?_setCell_same _ _ _ (h.has j hj)
    · rw [updA_other _ _ e, World.cell?_setCell_other _ _ _ _ (addr_ne (by omega))]; exact h.has j hj
  · rw [World.cell?_setCell_other _ _ _ _ (addr_ne (by omega))]; exact h.cd j hj
theorem RoomAt.setCd (h : RoomAt W b o R) {k : Nat} (hk : k < 4) (l : List UInt8) : RoomAt (W.setCell ⟨b, o + 20 + k, none⟩ (.string (str l))) b o { R with cd := updA R.cd k l } := by
  refine ⟨fun j hj => ?_, fun j hj => ?_, fun j hj => ?_, fun j hj => ?_, fun j => by rw [World.frozen?_setCell]; exact h.fz j, by rw [sz_setCell]; exact h.lt⟩
  · rw [World.cell?_setCell_other _ _ _ _ (addr_ne (by omega))]; exact h.wd j hj
  · rw [World.cell?_setCell_other _ _ _ _ (addr_ne (by omega))]; exact h.bs j hj
  · rw [World.cell?_setCell_other _ _ _ _ (addr_ne (by omega))]; exact h.has j hj
  · show _ = some (Value.string (str (updA R.cd k l j)))
    by_cases e : j = k
    · subst e; rw [updA_same]; exact World.cell?_setCell_same _ _ _ (h.cd j hj)
    · rw [updA_other _ _ e, World.cell?_setCell_other _ _ _ _ (addr_ne (by omega))]; exact h.cd j hj
end

theorem str_byte (l : List UInt8) (i : Nat) (h : i < (str l).size) : ((str l)[i]).toNat = bn l i := by
  rw [str_size] at h
  rw [bn_of h]
  rfl

/-- the room at b has become R', nothing else has turned -/
def RGoes (b o : Nat) (w w' : World) (R' : Rm) : Prop := Only (fun x => x = b) w w' ∧ RoomAt w' b o R'

theorem RGoes.of_below {b o : Nat} {w w1 w2 : World} {R' : Rm} (h : Below w.heap.size w w1) (k : RGoes b o w1 w2 R') : RGoes b o w w2 R' :=
  ⟨(Only.of_below h).trans k.1 (fun _ g => .inl g), k.2⟩
theorem RGoes.stay {b o : Nat} {w w' : World} {R : Rm} (h : RoomAt w b o R) (hb : Below w.heap.size w w') : RGoes b o w w' R := ⟨Only.of_below hb, h.below hb⟩

set_option maxHeartbeats 400000 in
theorem rpages_any (n : Int) (w : World) (h0 : 0 ≤ n) (h1 : n ≤ 9000000000000000000) : Calls Try.prog 85 #[.int .i64 n] w fun e w' => e = .returned (.int .i64 (pg n)) ∧ w' = w := by
  go_enter Try.func85, Try.ntmps85
  go_wp2
  go_ret
  exact ⟨retI (by unfold pg; omega), rfl⟩

set_option maxHeartbeats 1000000 in
theorem taken_any (b o : Nat) (R : Rm) (w : World) (hR : RoomAt w b o R) (hl : ∀ k, k < 8 → (R.bs k).length ≤ 576) :
    Calls Try.prog 62 #[.pointer (some ⟨b, o, none⟩)] w fun e w' => e = .returned (.int .i64 (tot R.bs 8)) ∧ w' = w := by
  have HR : Hid (RoomAt w b o R) := hR
  have HL : Hid (∀ k, k < 8 → (R.bs k).length ≤ 576) := hl
  have ql := hR.lt
  clear hR hl
  go_enter Try.func62, Try.ntmps62
  go_wp2
  go_loop [3, 4] (fun t i => ∃ k : Nat, k ≤ 8 ∧ i = .int .i64 k ∧ t = .int .i64 (tot R.bs k)) (fun _ i => 8 - (intOf i).toNat)
  case atStart => exact ⟨0, by omega, rfl, rfl⟩
  case round =>
    obtain ⟨k, hk, rfl, rfl⟩ := hrel
    by_cases h8 : k < 8
    · have q := HR.out.bs k h8
      have hs := HL.out k h8
      obtain ⟨t1, t2⟩ := tot_bd (f := R.bs) (n := k) (fun j hj => HL.out j (by omega))
      have hp : 0 ≤ pg ((R.bs k).length : Int) ∧ pg ((R.bs k).length : Int) ≤ 9 := by unfold pg; omega
      obtain ⟨p1, p2⟩ := hp
      have n0 : (0 : Int) ≤ k := by omega
      have n8 : (k : Int) < 8 := by omega
      have esz := str_size (R.bs k)
      go_wp2_with (go_at_call 85; refine (rpages_any _ _ (by omega) (by omega)).mono ?_; rintro e w2 ⟨rfl, rfl⟩)
      go_round
      case rel => exact ⟨k + 1, by omega, by go_num, rfl⟩
      case measure => simp [intOf]; omega
    · have e : k = 8 := by omega
      subst e
      go_wp2
      go_ret
      exact ⟨rfl, rfl⟩

set_option maxHeartbeats 400000 in
theorem rthere_any (b o h : Nat) (R : Rm) (w : World) (hR : RoomAt w b o R) (hk : okR R) :
    Calls Try.prog 102 #[.pointer (some ⟨b, o, none⟩), .int .i64 h] w fun e w' => e = .returned (.bool (thr R h)) ∧ w' = w := by
  by_cases h8 : h < 8
  · have q := hR.wd h h8
    have ql := hR.lt
    have hz := hk.zer h h8
    have n0 : (0 : Int) ≤ h := by omega
    have n8 : (h : Int) < 8 := by omega
    by_cases ht : 0 < (R.bs h).length
    · have e : thr R h = true := decide_eq_true ⟨h8, ht⟩
      rw [e]
      have hw : 0 < R.wd h := hz.2 ht
      clear e hz hR hk
      go_enter Try.func102, Try.ntmps102
      go_wp2
      go_ret
      exact ⟨rfl, rfl⟩
    · have e : thr R h = false := decide_eq_false (fun p => ht p.2)
      rw [e]
      have hw : ¬ 0 < R.wd h := fun p => ht (hz.1 p)
      clear e hz hR hk
      go_enter Try.func102, Try.ntmps102
      go_wp2
      go_ret
      exact ⟨rfl, rfl⟩
  · have e : thr R h = false := decide_eq_false (fun p => h8 p.1)
    rw [e]
    have n8 : ¬ (h : Int) < 8 := by omega
    clear e hR hk
    go_enter Try.func102, Try.ntmps102
    go_wp2
    go_ret
    exact ⟨rfl, rfl⟩

theorem rinfo_byte : (Try.prog.info? 5).map (fun i => (i.zero, i.size, i.bytes)) = some (some (.int .u8 0), 1, 1) := by kernel_rfl

theorem rep_step (n k : Nat) (v : UInt8) (h : k < n) : (List.replicate k v ++ zeros (n - k)).set k v = List.replicate (k + 1) v ++ zeros (n - (k + 1)) := by
  rw [List.set_append_right _ _ (by simp), List.length_replicate, Nat.sub_self]
  have e2 : zeros (n - k) = 0 :: zeros (n - (k + 1)) := by
    unfold zeros
    rw [show n - k = (n - (k + 1)) + 1 by omega, List.replicate_succ]
  rw [e2, List.set_cons_zero, List.replicate_succ', List.append_assoc]
  rfl

set_option maxHeartbeats 1000000 in
theorem many_any (n : Nat) (v : UInt8) (x : Int) (w : World) (hn : n ≤ 1000) (hv : x = v.toNat) :
    Calls Try.prog 109 #[.int .i64 n, .int .u8 x] w fun e w' => e = .returned (.string (str (List.replicate n v))) ∧ Below w.heap.size w w' := by
  have hmk : ∀ w : World, (Instr.makeSlice 51 (.int .i64 (n : Int)) (.int .i64 (n : Int))).run Try.prog w = .ok (.slice (some ⟨w.heap.size, 0, none⟩) n n) (w.alloc (.cells (madeCells #[.int .u8 0] n) 5)) := fun w =>
    run_make_row' (P := Try.prog) 51 5 (.int .u8 0) 1 Try.underlying51 rinfo_byte rfl .i64 .i64 n (by omega) (by omega) w
  have HV : Hid (x = v.toNat) := hv
  clear hv
  go_enter Try.func109, Try.ntmps109
  go_wp2
  go_loopw [6] (fun i wr => ∃ k : Nat, k ≤ n ∧ i = .int .i64 k ∧ Below w.heap.size w wr ∧ BS wr (some ⟨w.heap.size, 0, none⟩) n (List.replicate k v ++ zeros (n - k))) (fun i _ => n - (intOf i).toNat)
  case atStart => exact ⟨0, by omega, rfl, (Below.refl _ _).alloc (Nat.le_refl _) _, by simpa using bs_made w 5 n (by unfold maxLen; omega)⟩
  case round =>
    obtain ⟨k, hk, rfl, hB, hS⟩ := hrel
    have BB : Hid (Below w.heap.size w wr) := hB
    have SS : Hid (BS wr (some ⟨w.heap.size, 0, none⟩) n (List.replicate k v ++ zeros (n - k))) := hS
    by_cases hlt : k < n
    · have r := hS.hro _ rfl k hlt
      simp only [Nat.zero_add] at r
      obtain ⟨u, hu⟩ := Option.isSome_iff_exists.1 r.1
      have r2 := r.2
      have hz := (hS.hpl _ rfl).2
      simp only at hz
      have k0 : (0 : Int) ≤ k := by omega
      have k1 : (k : Int) < n := by omega
      clear hB hS r
      go_wp2
      go_roundw
      case rel =>
        refine ⟨k + 1, by omega, by go_num, BB.out.setCell (Nat.le_refl _) _, ?_⟩
        rw [← rep_step n k v hlt]
        have := SS.out.set (j := k) (by simp [zeros]; omega) v (v := x) HV.out
        rw [Nat.zero_add] at this
        exact this
      case measure => simp [intOf]; omega
    · have e : k = n := by omega
      have k1 : ¬ (k : Int) < n := by omega
      have hcv := run_string_bs (P := Try.prog) hS 51 9 5 Try.underlying51 Try.underlying5 Try.underlying9
      have e1 : List.replicate k v ++ zeros (n - k) = List.replicate n v := by rw [e, Nat.sub_self]; simp [zeros]
      rw [e1, List.length_replicate] at hcv
      clear hB hS e1 e
      go_wp2
      go_ret
      exact ⟨rfl, BB.out⟩

set_option maxHeartbeats 400000 in
theorem word_any (s : List UInt8) (i : Nat) (w : World) (h : i + 1 < s.length) (hl : s.length ≤ 2000) :
    Calls Try.prog 116 #[.string (str s), .int .i64 i] w fun e w' => e = .returned (.int .i64 (wrd s i)) ∧ ∃ n, w' = w.drewN n := by
  obtain ⟨sv, hsv⟩ : ∃ sv, str s = sv := ⟨_, rfl⟩
  have hz : sv.size = s.length := by rw [← hsv, str_size]
  have b0 : (sv[i]'(by omega)).toNat = bn s i := by subst hsv; exact str_byte s i _
  have b1 : (sv[i + 1]'(by omega)).toNat = bn s (i + 1) := by subst hsv; exact str_byte s (i + 1) _
  have c0 : (bn s i : Int) ≤ 255 := by have := bn_le s i; omega
  have c1 : (bn s (i + 1) : Int) ≤ 255 := by have := bn_le s (i + 1); omega
  rw [hsv]
  have i0 : (0 : Int) ≤ i := by omega
  have i1 : (i : Int) < sv.size := by omega
  have i2 : (i : Int) + 1 < sv.size := by omega
  have i3 : i < sv.size := by omega
  have i4 : i + 1 < sv.size := by omega
  clear hsv
  go_enter Try.func116, Try.ntmps116
  go_wp2
  go_quiet (fail)
  go_wp2
  go_ret
  exact ⟨retI (by unfold wrd; omega), nq, rfl⟩

/-- []byte(s) -/
theorem run_bytes_bs (w : World) (l : List UInt8) (hl : l.length ≤ 100000) :
    ∃ cap w', (convert 9 51 (.string (str l))).run Try.prog w = .ok (.slice (some ⟨w.heap.size, 0, none⟩) l.length cap) w' ∧ BS w' (some ⟨w.heap.size, 0, none⟩) cap l ∧ Below w.heap.size w w' := by
  have hr := run_bytes_of_string (P := Try.prog) w 9 51 5 (str l) Try.underlying9 Try.underlying51 Try.underlying5
  have hge := grownCap_ge w (str l).size 0 5
  have hcm : grownCap w (str l).size 0 5 ≤ maxLen := grownCap_le_maxLen w (str l).size 0 5 (by rw [str_size]; unfold maxLen; omega)
  rw [str_size] at hr hge hcm
  generalize grownCap w l.length 0 5 = gc at *
  have hsz : (bytesRow (str l) gc).size = gc := by
    unfold bytesRow
    rw [Array.size_append, Array.size_map, Array.size_replicate, str_size]
    show l.toArray.size + _ = _
    rw [List.size_toArray]; omega
  rw [hsz] at hr
  refine ⟨gc, _, hr, ⟨hge, hcm, fun g => (by cases g), fun a g => (by cases g; exact ⟨rfl, by simp⟩), fun a g j hj => ?_, fun a g j hj => ?_⟩, ((Below.refl _ _).drew).alloc (Nat.le_refl _) _⟩
  · cases g
    unfold World.cell?
    have : (w.drew.alloc (.cells (bytesRow (str l) gc) 5 (gc, gc + 1))).heap[w.heap.size]? = some (.cells (bytesRow (str l) gc) 5 (gc, gc + 1)) := heap_alloc_new w.drew _
    rw [this]
    simp only [Option.isSome_none, Bool.false_eq_true, if_false, Nat.zero_add]
    unfold bytesRow
    rw [Array.getElem?_append_left (by rw [Array.size_map]; show j < l.toArray.size; rw [List.size_toArray]; exact hj)]
    simp [str, hj]
  · cases g
    have : (w.drew.alloc (.cells (bytesRow (str l) gc) 5 (gc, gc + 1))).heap[w.heap.size]? = some (.cells (bytesRow (str l) gc) 5 (gc, gc + 1)) := heap_alloc_new w.drew _
    unfold World.cell? World.frozen?
    rw [this]
    simp only [Option.isSome_none, Bool.false_eq_true, if_false, Nat.zero_add]
    refine ⟨by rw [Array.getElem?_eq_getElem (by rw [hsz]; exact hj)]; rfl, by simp; omega⟩

set_option maxHeartbeats 1000000 in
theorem rwrite_any (b h a : Nat) (s : List UInt8) (R : Rm) (w : World) (hR : RoomAt w b 0 R) (h8 : h < 8) (hb : (R.bs h).length ≤ 576) (ha : a ≤ 70000) (hs : s.length ≤ 2000) :
    Calls Try.prog 115 #[.pointer (some ⟨b, 0, none⟩), .int .i64 h, .int .i64 a, .string (str s)] w fun e w' => e = .returned (.tuple #[]) ∧ RGoes b 0 w w' (rBytes R h (wrt (R.bs h) a s)) := by
  obtain ⟨cap, w1, hcv, hbs, hbel⟩ := run_bytes_bs w (R.bs h) (by omega)
  have HR : Hid (RoomAt w b 0 R) := hR
  have ql := hR.lt
  have q := hR.bs h h8
  rw [Nat.zero_add] at q
  obtain ⟨sv, hsv⟩ : ∃ sv, str s = sv := ⟨_, rfl⟩
  have hz : sv.size = s.length := by rw [← hsv, str_size]
  have HSV : Hid (str s = sv) := hsv
  have HBS : Hid (BS w1 (some ⟨w.heap.size, 0, none⟩) cap (R.bs h)) := hbs
  have HBL : Hid (Below w.heap.size w w1) := hbel
  have h0 : (0 : Int) ≤ h := by omega
  have h1 : (h : Int) < 8 := by omega
  rw [hsv]
  clear hR hbs hbel hsv
  go_enter Try.func115, Try.ntmps115
  go_wp2
  clear hcv
  go_loopw [9] (fun i wr => ∃ k : Nat, k ≤ s.length ∧ i = .int .i64 k ∧ Below w.heap.size w wr ∧ BS wr (some ⟨w.heap.size, 0, none⟩) cap (wrt (R.bs h) a (s.take k))) (fun i _ => s.length - (intOf i).toNat)
  case atStart => exact ⟨0, by omega, rfl, HBL.out, by rw [List.take_zero, wrt_nil]; exact HBS.out⟩
  case round =>
    obtain ⟨k, hk, rfl, hB, hS⟩ := hrel
    have BB : Hid (Below w.heap.size w wr) := hB
    have SS : Hid (BS wr (some ⟨w.heap.size, 0, none⟩) cap (wrt (R.bs h) a (s.take k))) := hS
    have hz2 := (hS.hpl _ rfl).2
    simp only at hz2
    by_cases hlt : k < s.length
    · have k0 : (0 : Int) ≤ k := by omega
      have k1 : (k : Int) < sv.size := by omega
      have k2 : k < sv.size := by omega
      have bk : (sv[k]'k2).toNat = bn s k := by have e := HSV.out; subst e; exact str_byte s k _
      have c0 : (bn s k : Int) ≤ 255 := by have := bn_le s k; omega
      by_cases hin : a + k < (R.bs h).length
      · have hin' : (a : Int) + k < (R.bs h).length := by omega
        have a0 : (0 : Int) ≤ (a : Int) + k := by omega
        have hcap := hS.hle
        rw [wrt_length] at hcap
        have r := hS.hro _ rfl (a + k) (by omega)
        simp only [Nat.zero_add] at r
        obtain ⟨u, hu⟩ := Option.isSome_iff_exists.1 r.1
        have r2 := r.2
        have es : Hid (wrt (R.bs h) a (s.take (k + 1)) = (wrt (R.bs h) a (s.take k)).set (a + k) s[k]) := wrt_in _ _ _ _ hlt
        clear hB hS r
        go_wp2
        go_roundw
        case rel =>
          refine ⟨k + 1, by omega, by go_num, BB.out.setCell (Nat.le_refl _) _, ?_⟩
          rw [es.out]
          have := SS.out.set (j := a + k) (by rw [wrt_length]; exact hin) s[k] (v := (bn s k : Int)) (by rw [bn_of hlt])
          rw [Nat.zero_add] at this
          exact this
        case measure => simp [intOf]; omega
      · have hin' : ¬ (a : Int) + k < (R.bs h).length := by omega
        have es : Hid (wrt (R.bs h) a (s.take (k + 1)) = wrt (R.bs h) a (s.take k)) := wrt_out _ _ _ _ hlt (by omega)
        clear hB hS
        go_wp2
        go_roundw
        case rel => exact ⟨k + 1, by omega, by go_num, BB.out, by rw [es.out]; exact SS.out⟩
        case measure => simp [intOf]; omega
    · have e : k = s.length := by omega
      have k1 : ¬ (k : Int) < s.length := by omega
      rw [e, List.take_length] at hS
      have hcv1 := run_string_bs (P := Try.prog) hS 51 9 5 Try.underlying51 Try.underlying5 Try.underlying9
      have hcv2 := run_string_bs (P := Try.prog) hS.drew 51 9 5 Try.underlying51 Try.underlying5 Try.underlying9
      rw [wrt_length] at hcv1 hcv2
      have hA := HR.out.below hB
      have HA : Hid (RoomAt wr b 0 R) := hA
      have q1 := hA.bs h h8
      rw [Nat.zero_add] at q1
      have q2 := hA.fz (h * 2 + 1)
      have q3 := hA.lt
      clear hB hS hA e q
      go_wp2
      go_region
      all_goals
        go_wp2
        go_end0
        refine ⟨rfl, ?_⟩
        have g := HA.out.setBs h8 (wrt (R.bs h) a s)
        rw [Nat.zero_add] at g
        exact ⟨((Only.of_below (F := fun x => x = b) BB.out).setCell (p := ⟨b, h * 2 + 1, none⟩) (.inl rfl) _).drew, g.only (H := fun _ => False) ((Only.refl _ _).drew) id⟩

set_option maxHeartbeats 1000000 in
theorem rread_any (b h a n : Nat) (R : Rm) (w : World) (hR : RoomAt w b 0 R) (h8 : h < 8) (hb : (R.bs h).length ≤ 576) (ha : a ≤ 70000) (hn : n ≤ 255) :
    Calls Try.prog 117 #[.pointer (some ⟨b, 0, none⟩), .int .i64 h, .int .i64 a, .int .i64 n] w fun e w' => e = .returned (.string (str (rdb (R.bs h) a n))) ∧ Below w.heap.size w w' := by
  have hmk : ∀ w : World, (Instr.makeSlice 51 (.int .i64 (n : Int)) (.int .i64 (n : Int))).run Try.prog w = .ok (.slice (some ⟨w.heap.size, 0, none⟩) n n) (w.alloc (.cells (madeCells #[.int .u8 0] n) 5)) := fun w =>
    run_make_row' (P := Try.prog) 51 5 (.int .u8 0) 1 Try.underlying51 rinfo_byte rfl .i64 .i64 n (by omega) (by omega) w
  have ql := hR.lt
  have q := hR.bs h h8
  rw [Nat.zero_add] at q
  obtain ⟨sv, hsv⟩ : ∃ sv, str (R.bs h) = sv := ⟨_, rfl⟩
  have hz : sv.size = (R.bs h).length := by rw [← hsv, str_size]
  have HSV : Hid (str (R.bs h) = sv) := hsv
  rw [hsv] at q
  have h0 : (0 : Int) ≤ h := by omega
  have h1 : (h : Int) < 8 := by omega
  clear hR hsv
  go_enter Try.func117, Try.ntmps117
  go_wp2
  go_loopw [11] (fun i wr => ∃ k : Nat, k ≤ n ∧ i = .int .i64 k ∧ Below w.heap.size w wr ∧ BS wr (some ⟨w.heap.size, 0, none⟩) n (rdp (R.bs h) a n k)) (fun i _ => n - (intOf i).toNat)
  case atStart => exact ⟨0, by omega, rfl, (Below.refl _ _).alloc (Nat.le_refl _) _, by rw [rdp_zero]; exact bs_made w 5 n (by unfold maxLen; omega)⟩
  case round =>
    obtain ⟨k, hk, rfl, hB, hS⟩ := hrel
    have BB : Hid (Below w.heap.size w wr) := hB
    have SS : Hid (BS wr (some ⟨w.heap.size, 0, none⟩) n (rdp (R.bs h) a n k)) := hS
    have hz2 := (hS.hpl _ rfl).2
    simp only at hz2
    by_cases hlt : k < n
    · have k0 : (0 : Int) ≤ k := by omega
      have k1 : (k : Int) < n := by omega
      by_cases hin : a + k < (R.bs h).length
      · have hin' : (a : Int) + k < sv.size := by omega
        have hin2 : a + k < sv.size := by omega
        have a0 : (0 : Int) ≤ (a : Int) + k := by omega
        have bk : (sv[a + k]'hin2).toNat = bn (R.bs h) (a + k) := by have e := HSV.out; subst e; exact str_byte _ (a + k) _
        have c0 : (bn (R.bs h) (a + k) : Int) ≤ 255 := by have := bn_le (R.bs h) (a + k); omega
        have r := hS.hro _ rfl k hlt
        simp only [Nat.zero_add] at r
        obtain ⟨u, hu⟩ := Option.isSome_iff_exists.1 r.1
        have r2 := r.2
        have es : Hid (rdp (R.bs h) a n (k + 1) = (rdp (R.bs h) a n k).set k (R.bs h)[a + k]) := rdp_in _ _ _ _ hin
        clear hB hS r
        go_wp2
        go_roundw
        case rel =>
          refine ⟨k + 1, by omega, by go_num, BB.out.setCell (Nat.le_refl _) _, ?_⟩
          rw [es.out]
          have := SS.out.set (j := k) (by rw [rdp_length]; exact hlt) (R.bs h)[a + k] (v := (bn (R.bs h) (a + k) : Int)) (by rw [bn_of hin])
          rw [Nat.zero_add] at this
          exact this
        case measure => simp [intOf]; omega
      · have hin' : ¬ (a : Int) + k < (R.bs h).length := by omega
        have es : Hid (rdp (R.bs h) a n (k + 1) = rdp (R.bs h) a n k) := rdp_out _ _ _ _ (by omega)
        clear hB hS
        go_wp2
        go_roundw
        case rel => exact ⟨k + 1, by omega, by go_num, BB.out, by rw [es.out]; exact SS.out⟩
        case measure => simp [intOf]; omega
    · have e : k = n := by omega
      have k1 : ¬ (k : Int) < n := by omega
      rw [e, rdp_all] at hS
      have hcv1 := run_string_bs (P := Try.prog) hS 51 9 5 Try.underlying51 Try.underlying5 Try.underlying9
      rw [rdb_length] at hcv1
      clear hB hS e
      go_wp2
      go_ret
      exact ⟨rfl, BB.out⟩

end Go.Proofs.Ytbedkfgdhaajaab
