/- Walks: undrawn and pick (package tenantslaw). -/
import Derived.Test.YtbedkfgdhaajaabLawPlay
import Derived.Test.YtbedkfgdhaajaabBytes
namespace Go.Proofs.Ytbedkfgdhaajaab
open Go.RowKit

/-- an 8 in the place of each 7 -/
def und1 (b : UInt8) : UInt8 := if b = 7 then 8 else b
def undk (l : List UInt8) (k : Nat) : List UInt8 := (l.take k).map und1 ++ l.drop k

theorem undk_length (l : List UInt8) (k : Nat) (h : k ≤ l.length) : (undk l k).length = l.length := by unfold undk; rw [List.length_append, List.length_map, List.length_take, List.length_drop]; omega
theorem undk_get (l : List UInt8) (k : Nat) (h : k < l.length) : (undk l k)[k]'(by rw [undk_length l k (by omega)]; exact h) = l[k] := by
  have e : ((l.take k).map und1).length = k := by rw [List.length_map, List.length_take]; omega
  have q : (undk l k)[k]? = l[k]? := by unfold undk; rw [List.getElem?_append_right (by omega), e, Nat.sub_self, List.getElem?_drop, Nat.add_zero]
  rw [List.getElem?_eq_getElem h, List.getElem?_eq_getElem (by rw [undk_length l k (by omega)]; exact h)] at q
  exact Option.some.inj q
theorem undk_step (l : List UInt8) (k : Nat) (h : k < l.length) : undk l (k + 1) = (undk l k).set k (und1 l[k]) := by
  have e : ((l.take k).map und1).length = k := by rw [List.length_map, List.length_take]; omega
  unfold undk
  rw [List.set_append_right _ _ (by omega), e, Nat.sub_self, List.drop_eq_getElem_cons h, List.set_cons_zero, List.take_succ_eq_append_getElem h, List.map_append, List.append_assoc]
  rfl
theorem undk_same (l : List UInt8) (k : Nat) (h : k < l.length) (h7 : ¬ l[k] = 7) : undk l (k + 1) = undk l k := by
  rw [undk_step l k h]
  have e : und1 l[k] = (undk l k)[k]'(by rw [undk_length l k (by omega)]; exact h) := by rw [undk_get l k h]; unfold und1; rw [if_neg h7]
  rw [e, List.set_getElem_self]
theorem undk_no7 (l : List UInt8) : no7 (undk l l.length) := by
  trivial

set_option maxHeartbeats 2000000 in
theorem undrawn_any (s : ByteArray) (w : World) (hs : s.size ≤ 140737488355328) :
    Calls Try.prog 32 #[.string s] w fun e w' => (∃ s', e = .returned (.string s') ∧ s'.size = s.size ∧ no7 s'.data.toList) ∧ Below w.heap.size w w' := by
  obtain ⟨l, hl⟩ : ∃ l, str l = s := ⟨s.data.toList, rfl⟩
  have hlen : l.length = s.size := by rw [← hl, str_size]
  obtain ⟨cap, w1, hr, hb, hbel⟩ := run_bytes_big w l (by omega)
  rw [hl] at hr
  have HB : Hid (BS w1 (some ⟨w.heap.size, 0, none⟩) cap l) := hb
  have HW : Hid (Below w.heap.size w w1) := hbel
  obtain ⟨n, hn⟩ : ∃ n, l.length = n := ⟨_, rfl⟩
  rw [hn] at hr hlen
  have HN : Hid (l.length = n) := hn
  have HSZ : Hid (n = s.size) := hlen
  have nb : (n : Int) ≤ 140737488355328 := by omega
  have hcap := hb.hle
  rw [hn] at hcap
  clear hb hbel hn hl hlen
  go_enter Try.func32, Try.ntmps32
  go_wp2
  go_loopw [4] (fun i wr => ∃ k : Nat, k ≤ n ∧ i = .int .i64 k ∧ Below w.heap.size w wr ∧ BS wr (some ⟨w.heap.size, 0, none⟩) cap (undk l k)) (fun i _ => n - (intOf i).toNat)
  case atStart => exact ⟨0, by omega, rfl, HW.out, HB.out⟩
  case round =>
    obtain ⟨k, hk, rfl, hB, hS⟩ := hrel
    have BB : Hid (Below w.heap.size w wr) := hB
    have SS : Hid (BS wr (some ⟨w.heap.size, 0, none⟩) cap (undk l k)) := hS
    by_cases hlt : k < n
    · have hkl : k < l.length := by rw [HN.out]; exact hlt
      have hl2 : (undk l k).length = n := by rw [undk_length l k (by omega), HN.out]
      have c1 := hS.hce _ rfl k (by omega)
      have f1 := (hS.hro _ rfl k (by have := hS.hle; omega)).2
      simp only [Nat.zero_add] at c1 f1
      rw [undk_get l k hkl] at c1
      have hz := (hS.hpl _ rfl).2
      simp only at hz
      have k0 : (0 : Int) ≤ k := by omega
      have k1 : (k : Int) < n := by omega
      have HL2 : Hid ((undk l k).length = n) := hl2
      obtain ⟨u, hu⟩ : ∃ u, l[k]'hkl = u := ⟨_, rfl⟩
      have HST : Hid (undk l (k + 1) = (undk l k).set k (und1 u)) := by rw [← hu]; exact undk_step l k hkl
      have HSM : Hid (¬ u = 7 → undk l (k + 1) = undk l k) := by rw [← hu]; exact undk_same l k hkl
      rw [hu] at c1
      obtain ⟨B, hB2⟩ : ∃ B, u.toNat = B := ⟨_, rfl⟩
      rw [hB2] at c1
      clear hu hkl
      by_cases h7 : u = 7
      · have hB7 : B = 7 := by rw [← hB2]; exact congrArg UInt8.toNat h7
        have d7 : ((B : Int) == 7) = true := by rw [beq_iff_eq]; omega
        have H7 : Hid (und1 u = 8) := by unfold und1; rw [if_pos h7]; exact (rfl : (8 : UInt8) = 8)
        clear hB hS hl2 hB2 h7 hB7
        go_wp2
        go_roundw
        case rel =>
          refine ⟨k + 1, by omega, by go_num, BB.out.setCell (Nat.le_refl _) _, ?_⟩
          rw [HST.out, H7.out]
          have := SS.out.set (j := k) (by rw [HL2.out]; exact hlt) 8 (v := 8) rfl
          rw [Nat.zero_add] at this
          exact this
        case measure => simp [intOf]; omega
      · have d7 : ((B : Int) == 7) = false := beq_false_of_ne (fun q => h7 (UInt8.toNat_inj.1 (by rw [hB2]; show B = 7; omega)))
        have H7 : Hid (undk l (k + 1) = undk l k) := HSM.out h7
        clear hB hS hl2 hB2 h7
        go_wp2
        go_roundw
        case rel => exact ⟨k + 1, by omega, by go_num, BB.out, by rw [H7.out]; exact SS.out⟩
        case measure => simp [intOf]; omega
    · have e : k = n := by omega
      subst e
      have hl2 : (undk l k).length = k := by rw [undk_length l k (by rw [HN.out]; omega), HN.out]
      have hcv := run_string_bs (P := Try.prog) hS 51 9 5 Try.underlying51 Try.underlying5 Try.underlying9
      rw [hl2] at hcv
      have HR : Hid ((str (undk l k)).size = s.size ∧ no7 (str (undk l k)).data.toList) := by
        refine (⟨?_, ?_⟩ : _ ∧ _)
        · rw [str_size, hl2, HSZ.out]
        · have := undk_no7 l
          rw [HN.out] at this
          exact this
      clear hB hS hl2
      go_wp2
      go_ret
      exact ⟨⟨_, rfl, HR.out.1, HR.out.2⟩, BB.out⟩

/-- which of n things the raw number c speaks of -/
def lpk (c n : Int) : Int := if c < 0 then (-(c + 1)) % n else c % n
theorem lpk_bd {c n : Int} (h : 0 < n) : 0 ≤ lpk c n ∧ lpk c n < n := by
  unfold lpk
  split
  · exact ⟨Int.emod_nonneg _ (by omega), Int.emod_lt_of_pos _ h⟩
  · exact ⟨Int.emod_nonneg _ (by omega), Int.emod_lt_of_pos _ h⟩
set_option maxHeartbeats 400000 in
theorem lpick_any (c n : Int) (w : World) (h1 : -9223372036854775808 ≤ c) (h2 : c ≤ 9223372036854775807) (h3 : 0 < n) (h4 : n ≤ 140737488355328) :
    Calls Try.prog 34 #[.int .i64 c, .int .i64 n] w fun e w' => e = .returned (.int .i64 (lpk c n)) ∧ w' = w := by
  by_cases h : c < 0
  · have e : lpk c n = (-(c + 1)) % n := by unfold lpk; rw [if_pos h]
    rw [e]
    clear e
    go_enter Try.func34, Try.ntmps34
    go_wp2
    go_ret
    exact ⟨retI (by rw [← Int.neg_tmod, Int.tmod_eq_emod_of_nonneg (by omega)]), rfl⟩
  · have e : lpk c n = c % n := by unfold lpk; rw [if_neg h]
    rw [e]
    clear e
    go_enter Try.func34, Try.ntmps34
    go_wp2
    go_ret
    exact ⟨rfl, rfl⟩

end Go.Proofs.Ytbedkfgdhaajaab
