/- Walks: a context is sent bytes, hands its replies out, counts its pages (P6, P7, P9). -/
import Derived.Test.YtibliodajabhbaaRuns
namespace Go.Proofs.Ytibliodajabhbaa
open Go.RowKit

theorem src_str (s : ByteArray) (w : World) : Src Try.prog 1 9 (.string s) s.data.toList.length (bcs s.data.toList) w := Src.ofString w Try.underlying9 s

set_option maxHeartbeats 400000 in
theorem csend_long (F : Nat → Prop) (p : Nat) (C : Ctx) (s : ByteArray) (w : World) (hC : Cx w F p C) (hG : good C) (h : 1024 < (C.by_ 8).length + s.size) :
    Calls Try.prog 62 #[.pointer (some ⟨p, 0, none⟩), .string s] w fun e w' => e = .returned (.int .i64 12) ∧ w' = w := by
  obtain ⟨ad, cp, hA⟩ := hC
  have q8 := hA.sl 8 (by omega)
  have ql := hA.lt
  simp only [show slot 8 = 24 from rfl] at q8
  have h8 := hG.2.1
  have h' : (1024 : Int) - (C.by_ 8).length < s.size := by omega
  clear hA hG
  go_enter Try.func62, Try.ntmps62
  go_wp2
  go_ret
  exact ⟨rfl, rfl⟩

set_option maxHeartbeats 400000 in
theorem csend_ok (F : Nat → Prop) (p : Nat) (C : Ctx) (s : ByteArray) (w : World) (hC : Cx w F p C) (h : (C.by_ 8).length + s.size ≤ 1024) :
    Calls Try.prog 62 #[.pointer (some ⟨p, 0, none⟩), .string s] w fun e w' => e = .returned (.int .i64 0) ∧ Goes F w w' p { C with by_ := updA C.by_ 8 (C.by_ 8 ++ s.data.toList) } := by
  obtain ⟨ad, cp, hA⟩ := hC
  have q8 := hA.sl 8 (by omega)
  have ql := hA.lt
  have qf := hA.fz 24
  simp only [show slot 8 = 24 from rfl] at q8
  have HA : Hid (CtxAt w F p ad cp C) := hA
  have h' : ¬ (1024 : Int) - (C.by_ 8).length < s.size := by omega
  have hl : s.data.toList.length = s.size := rfl
  clear hA
  go_enter Try.func62, Try.ntmps62
  go_wp2_with (at_builtin; refine wpList_append_b rfl (.tmp 18) (.tmp 19) 72 9 rfl 5 Try.underlying72 info_byte (HA.out.bs 8 (by omega)) rfl rfl _ s.data.toList rfl (src_str s _) (by rw [hl]; omega) ?_; intro ao2 cap2 w2 hb2 ho2 hk2; have q8' := (ho2.cell HA.out.lt (HA.out.own 8 (by omega)) 24).trans q8; have qf' := (ho2.frozen HA.out.lt (HA.out.own 8 (by omega)) 24).trans qf; have ql' := Nat.lt_of_lt_of_le ql ho2.size; have KB : Hid (BS w2 ao2 cap2 (C.by_ 8 ++ s.data.toList)) := hb2; have KO : Hid (Only (blk (ad 8)) w w2) := ho2; have KK : Hid _ := hk2; clear hb2 ho2 hk2)
  go_ret
  exact ⟨rfl, Goes.put HA.out (k := 8) (by omega) KO.out KB.out (by simp) KK.out⟩

set_option maxHeartbeats 400000 in
theorem creplies_any (F : Nat → Prop) (p : Nat) (C : Ctx) (w : World) (hC : Cx w F p C) :
    Calls Try.prog 64 #[.pointer (some ⟨p, 0, none⟩)] w fun e w' => e = .returned (.string (str (C.by_ 9))) ∧ Goes F w w' p { C with by_ := updA C.by_ 9 [] } := by
  obtain ⟨ad, cp, hA⟩ := hC
  have q9 := hA.sl 9 (by omega)
  have ql := hA.lt
  have qf := hA.fz 26
  simp only [show slot 9 = 26 from rfl] at q9
  have HA : Hid (CtxAt w F p ad cp C) := hA
  have hcv := run_string_bs (P := Try.prog) (hA.bs 9 (by omega)) 72 9 5 Try.underlying72 Try.underlying5 Try.underlying9
  clear hA
  go_enter Try.func64, Try.ntmps64
  go_wp2
  go_ret
  exact ⟨rfl, Goes.put HA.out (k := 9) (by omega) (Only.refl _ _) (BS.bare _) rfl (fun b g => (blk_none g).elim)⟩

set_option maxHeartbeats 400000 in
theorem cpages_any (F : Nat → Prop) (p : Nat) (C : Ctx) (w : World) (hC : Cx w F p C) (hG : good C) :
    Calls Try.prog 45 #[.pointer (some ⟨p, 0, none⟩)] w fun e w' => e = .returned (.int .i64 (tot C.by_ 8)) ∧ Below w.heap.size w w' := by
  have HC : Hid (Cx w F p C) := hC
  have HG : Hid (good C) := hG
  have ql := hC.lt
  clear hC hG
  go_enter Try.func45, Try.ntmps45
  go_wp2_with (go_at_call 65; refine (pages_any F p C _ HC.out HG.out.1).mono ?_; rintro e w2 ⟨rfl, hb2⟩)
  go_ret
  exact ⟨rfl, hb2⟩

end Go.Proofs.Ytibliodajabhbaa
