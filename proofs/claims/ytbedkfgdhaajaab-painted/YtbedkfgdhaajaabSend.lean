/- Walks: a context is sent bytes, hands its replies out, counts its pages (P6, P7, P9). -/
import Derived.Test.YtbedkfgdhaajaabRuns
namespace Go.Proofs.Ytbedkfgdhaajaab
open Go.RowKit

theorem src_str (s : ByteArray) (w : World) : Src Try.prog 1 9 (.string s) s.data.toList.length (bcs s.data.toList) w := Src.ofString w Try.underlying9 s

/-- a context just opened -/
def gNew : Gst := ⟨true, ⟨fun _ => 0, fun _ => [], fun _ => false, fun _ => []⟩, [], 0, []⟩

theorem Due.send {g : Gst} {d : Int} {s : List UInt8} (h : Due g d) : Due (gsend g s) d := by
  rcases h with h | ⟨h1, h2, h3⟩
  · exact .inl h
  · have := whl_send (s := s) h1
    exact .inr ⟨this.1, h2, by rw [this.2]; exact h3⟩

set_option maxHeartbeats 400000 in
theorem csend_long (F : Nat → Prop) (p : Nat) (g : Gst) (s : ByteArray) (w : World) (hC : PG w F p g) (h : 1024 < g.wait.length + s.size) :
    Calls Try.prog 25 #[.pointer (some ⟨p, 0, none⟩), .string s] w fun e w' => e = .returned (.int .i64 12) ∧ w' = w := by
  have h8 := hC.ok.wt
  obtain ⟨ht, d, ⟨ad, cp, hA, _⟩, _⟩ := hC
  have q8 := hA.sl 8 (by omega)
  have ql := hA.lt
  simp only [show slot 8 = 24 from rfl, show (mk g ht d).by_ 8 = g.wait from rfl] at q8
  have h' : (1024 : Int) - g.wait.length < s.size := by omega
  clear hA
  go_enter Try.func25, Try.ntmps25
  go_wp2
  go_ret
  exact ⟨rfl, rfl⟩

theorem send_close {F : Nat → Prop} {p : Nat} {g : Gst} {ht : Nat → Int} {d : Int} {ad : Nat → Option Addr} {cp : Nat → Nat} {s : List UInt8} {w w2 : World} {ao2 : Option Addr} {cap2 n : Nat} (hA : CtxAt w F p ad cp (mk g ht d)) (hH : okH g.rm ht) (hP : okP g) (hD : Due g d) (h : g.wait.length + s.length ≤ 1024)
    (hO : Only (blk (ad 8)) w w2) (hB : BS w2 ao2 cap2 (g.wait ++ s)) (hK : ∀ b, blk ao2 b → blk (ad 8) b ∨ w.heap.size ≤ b) (hn : n = (g.wait ++ s).length) :
    PGoes F w (w2.setCell ⟨p, 24, none⟩ (.slice ao2 n cap2)) p (gsend g s) := by
  obtain ⟨h1, F1, h2, h3⟩ := Goes.put8 hA hO hB hn hK
  have e : updA (mk g ht d).by_ 8 (g.wait ++ s) = bys g.rm.bs (g.wait ++ s) g.out := bys_upd_8 _ _ _ _
  rw [e] at h2
  exact ⟨only_nof h1, F1, ⟨ht, d, h2, hH, hP.send h, hD.send⟩, h3⟩

set_option maxHeartbeats 400000 in
theorem csend_ok (F : Nat → Prop) (p : Nat) (g : Gst) (s : ByteArray) (w : World) (hC : PG w F p g) (h : g.wait.length + s.size ≤ 1024) :
    Calls Try.prog 25 #[.pointer (some ⟨p, 0, none⟩), .string s] w fun e w' => e = .returned (.int .i64 0) ∧ PGoes F w w' p (gsend g s.data.toList) := by
  obtain ⟨ht, d, ⟨ad, cp, hA, _⟩, hH, hP, hD⟩ := hC
  have q8 := hA.sl 8 (by omega)
  have ql := hA.lt
  have qf := hA.fz 24
  simp only [show slot 8 = 24 from rfl, show (mk g ht d).by_ 8 = g.wait from rfl] at q8
  have HS : Hid (BS w (ad 8) (cp 8) g.wait) := hA.bs 8 (by omega)
  have HK : Hid (∀ w2 ao2 cap2 n, Only (blk (ad 8)) w w2 → BS w2 ao2 cap2 (g.wait ++ s.data.toList) → (∀ b, blk ao2 b → blk (ad 8) b ∨ w.heap.size ≤ b) → n = (g.wait ++ s.data.toList).length → PGoes F w (w2.setCell ⟨p, 24, none⟩ (.slice ao2 n cap2)) p (gsend g s.data.toList)) := fun w2 ao2 cap2 n a b c e => send_close hA hH hP hD h a b c e
  have HO : Hid (¬ blk (ad 8) p) := hA.own 8 (by omega)
  have h' : ¬ (1024 : Int) - g.wait.length < s.size := by omega
  have hl : s.data.toList.length = s.size := rfl
  clear hA hH hP hD
  go_enter Try.func25, Try.ntmps25
  go_wp2_with (at_builtin; refine wpList_append_b rfl (.tmp 18) (.tmp 19) 51 9 rfl 5 Try.underlying51 info_byte HS.out rfl rfl _ s.data.toList rfl (src_str s _) (by rw [hl]; omega) ?_; intro ao2 cap2 w2 hb2 ho2 hk2; have q8' := (ho2.cell ql HO.out 24).trans q8; have qf' := (ho2.frozen ql HO.out 24).trans qf; have ql' := Nat.lt_of_lt_of_le ql ho2.size; have KB : Hid (BS w2 ao2 cap2 (g.wait ++ s.data.toList)) := hb2; have KO : Hid (Only (blk (ad 8)) w w2) := ho2; have KK : Hid (∀ b, blk ao2 b → blk (ad 8) b ∨ w.heap.size ≤ b) := hk2; clear hb2 ho2 hk2)
  go_ret
  exact ⟨rfl, HK.out _ _ _ _ KO.out KB.out KK.out (by simp)⟩

set_option maxHeartbeats 400000 in
theorem creplies_any (F : Nat → Prop) (p : Nat) (g : Gst) (w : World) (hC : PG w F p g) :
    Calls Try.prog 27 #[.pointer (some ⟨p, 0, none⟩)] w fun e w' => e = .returned (.string (str g.out)) ∧ PGoes F w w' p (gtake g) := by
  obtain ⟨ht, d, ⟨ad, cp, hA, _⟩, hH, hP, hD⟩ := hC
  have q9 := hA.sl 9 (by omega)
  have ql := hA.lt
  have qf := hA.fz 26
  simp only [show slot 9 = 26 from rfl, show (mk g ht d).by_ 9 = g.out from rfl] at q9
  have hcv := run_string_bs (P := Try.prog) (show BS w (ad 9) (cp 9) g.out from hA.bs 9 (by omega)) 51 9 5 Try.underlying51 Try.underlying5 Try.underlying9
  have hk0 : PGoes F w (w.setCell ⟨p, 26, none⟩ (.slice none 0 0)) p (gtake g) := by
    obtain ⟨h1, F1, h2, h3⟩ := Goes.put (M := fun _ => False) hA (fun _ q => q.elim) (k := 9) (by omega) (by omega) (Only.refl _ _) (BS.bare _) (n := 0) rfl (fun b q => (blk_none q).elim)
    have e : updA (mk g ht d).by_ 9 [] = bys g.rm.bs g.wait [] := bys_upd_9 _ _ _ _
    rw [e] at h2
    exact ⟨only_nof h1, F1, ⟨ht, d, h2, hH, hP.take, hD⟩, h3⟩
  have HK : Hid (PGoes F w (w.setCell ⟨p, 26, none⟩ (.slice none 0 0)) p (gtake g)) := hk0
  clear hA hH hP hD hk0
  go_enter Try.func27, Try.ntmps27
  go_wp2
  go_ret
  exact ⟨rfl, HK.out⟩

set_option maxHeartbeats 400000 in
theorem cpages_any (F : Nat → Prop) (p : Nat) (g : Gst) (w : World) (hC : PG w F p g) :
    Calls Try.prog 61 #[.pointer (some ⟨p, 0, none⟩)] w fun e w' => e = .returned (.int .i64 (tot g.rm.bs 8)) ∧ Below w.heap.size w w' := by
  obtain ⟨ht, d, hX, _, hP, _⟩ := hC
  have HC : Hid (Cx w F (fun _ => False) p (mk g ht d)) := hX
  have HG : Hid (okR g.rm) := hP.rm
  have ql := hX.lt
  clear hX hP
  go_enter Try.func61, Try.ntmps61
  go_wp2_with (go_at_call 84; refine (pages_g F (fun _ => False) p g ht d _ HC.out HG.out).mono ?_; rintro e w2 ⟨rfl, hb2⟩)
  go_ret
  exact ⟨rfl, hb2⟩

end Go.Proofs.Ytbedkfgdhaajaab
