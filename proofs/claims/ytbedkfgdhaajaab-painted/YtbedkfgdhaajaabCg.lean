/- A context in memory, by its plain state; what the object calls answer of it (P8, P10, P11). -/
import Derived.Test.YtbedkfgdhaajaabCreate
import Derived.Test.YtbedkfgdhaajaabPrg
namespace Go.Proofs.Ytbedkfgdhaajaab
open Go.RowKit

/-- the slices of a context: its objects, what waits, the replies -/
def bys (bs : Nat → List UInt8) (a b : List UInt8) (k : Nat) : List UInt8 := if k < 8 then bs k else if k = 8 then a else if k = 9 then b else []

theorem bys_lo {bs : Nat → List UInt8} {a b : List UInt8} {k : Nat} (h : k < 8) : bys bs a b k = bs k := if_pos h
theorem bys_8 (bs : Nat → List UInt8) (a b : List UInt8) : bys bs a b 8 = a := rfl
theorem bys_9 (bs : Nat → List UInt8) (a b : List UInt8) : bys bs a b 9 = b := rfl
theorem bys_upd_lo {bs : Nat → List UInt8} {a b l : List UInt8} {k : Nat} (h : k < 8) : updA (bys bs a b) k l = bys (updA bs k l) a b := by
  funext j
  by_cases e : j = k
  · subst e; rw [updA_same, bys_lo h, updA_same]
  · rw [updA_other _ _ e]; unfold bys; rw [updA_other _ _ e]
theorem bys_upd_8 (bs : Nat → List UInt8) (a b l : List UInt8) : updA (bys bs a b) 8 l = bys bs l b := by
  funext j
  by_cases e : j = 8
  · subst e; rw [updA_same]; rfl
  · rw [updA_other _ _ e]; unfold bys; rw [if_neg e, if_neg e]
theorem bys_upd_9 (bs : Nat → List UInt8) (a b l : List UInt8) : updA (bys bs a b) 9 l = bys bs a l := by
  funext j
  by_cases e : j = 9
  · subst e; rw [updA_same]; rfl
  · rw [updA_other _ _ e]; unfold bys; rw [if_neg e, if_neg e]

def mk (g : Gst) (ht : Nat → Int) (d : Int) : Ctx := ⟨g.rm.wd, ht, bys g.rm.bs g.wait g.out, g.rm.has, g.rm.cd, d⟩

/-- the heights of the objects -/
def okH (R : Rm) (ht : Nat → Int) : Prop := ∀ k, k < 8 → ((R.bs k).length : Int) = R.wd k * ht k ∧ 0 ≤ ht k ∧ ht k ≤ 24

section
variable (g : Gst) (ht : Nat → Int) (d : Int)
theorem mk_lo {k : Nat} (h : k < 8) : (mk g ht d).by_ k = g.rm.bs k := bys_lo h
theorem th_mk (n : Nat) : thC (mk g ht d) n = thr g.rm n := by
  unfold thC thr
  by_cases h : n < 8
  · rw [mk_lo g ht d h]
  · rw [decide_eq_false (fun q => h q.1), decide_eq_false (fun q => h q.1)]
/-- the bytes of an object; none, if there is none -/
def obs (R : Rm) (n : Nat) : List UInt8 := if n < 8 then R.bs n else []
theorem obs_lo {R : Rm} {n : Nat} (h : n < 8) : obs R n = R.bs n := if_pos h
theorem sz_mk (n : Nat) : szC (mk g ht d) n = (obs g.rm n).length := by
  unfold szC obs
  by_cases h : n < 8
  · rw [if_pos h, if_pos h, mk_lo g ht d h]
  · rw [if_neg h, if_neg h]; rfl
theorem by_mk (n k : Nat) : byC (mk g ht d) n k = (obs g.rm n).getD k 0 := by
  unfold byC obs
  by_cases h : n < 8
  · rw [if_pos h, if_pos h, mk_lo g ht d h]
  · rw [if_neg h, if_neg h]; rfl
theorem bs_mk (n : Nat) : bsC (mk g ht d) n = obs g.rm n := by
  unfold bsC
  rw [th_mk]
  by_cases h : thr g.rm n = true
  · have hn : n < 8 := (of_decide_eq_true h : _ ∧ _).1
    rw [if_pos h, mk_lo g ht d hn, obs_lo hn]
  · rw [if_neg h]
    unfold obs
    split
    · rename_i hn
      have h' : thr g.rm n = false := by simpa using h
      have := of_decide_eq_false h'
      exact (List.eq_nil_of_length_eq_zero (by omega)).symm
    · rfl
theorem can_mk (h a b : Nat) : can (mk g ht d).by_ h a b = can g.rm.bs h a b := can_congr (fun _ hk => mk_lo g ht d hk) h a b
theorem tot_mk : tot (mk g ht d).by_ 8 = tot g.rm.bs 8 := tot_congr (fun _ hk => mk_lo g ht d hk)
theorem small_mk (h : okR g.rm) : smallC (mk g ht d) := fun k hk => by rw [mk_lo g ht d hk]; exact h.len k hk
end

section
variable (F M : Nat → Prop) (p : Nat) (g : Gst) (ht : Nat → Int) (d : Int) (w : World) (hC : Cx w F M p (mk g ht d))
include hC
theorem has_g (n : Nat) : Calls Try.prog 69 #[.pointer (some ⟨p, 0, none⟩), .int .i64 n] w fun e w' => e = .returned (.bool (thr g.rm n)) ∧ w' = w := by
  have := has_any F M p _ n w hC; rw [th_mk] at this; exact this
theorem size_g (n : Nat) : Calls Try.prog 53 #[.pointer (some ⟨p, 0, none⟩), .int .i64 n] w fun e w' => e = .returned (.int .i64 ((obs g.rm n).length : Nat)) ∧ w' = w := by
  have := size_any F M p _ n w hC; rw [sz_mk] at this; exact this
theorem width_g (n : Nat) (hn : thr g.rm n = true) : Calls Try.prog 72 #[.pointer (some ⟨p, 0, none⟩), .int .i64 n] w fun e w' => e = .returned (.int .i64 (g.rm.wd n)) ∧ w' = w := by
  have := width_any F M p _ n w hC
  rw [show wdC (mk g ht d) n = g.rm.wd n from by unfold wdC; rw [th_mk, if_pos hn]; rfl] at this
  exact this
theorem bytes_g (n : Nat) : Calls Try.prog 73 #[.pointer (some ⟨p, 0, none⟩), .int .i64 n] w fun e w' => e = .returned (.string (str (obs g.rm n))) ∧ w' = w := by
  have := bytes_any F M p _ n w hC; rw [bs_mk] at this; exact this
theorem byte_g (n k : Nat) : Calls Try.prog 95 #[.pointer (some ⟨p, 0, none⟩), .int .i64 n, .int .i64 k] w fun e w' => e = .returned (.int .u8 (((obs g.rm n).getD k 0).toNat : Int)) ∧ w' = w := by
  have := byte_any F M p _ n k w hC; rw [by_mk] at this; exact this
theorem can_g (h a b : Nat) (hR : okR g.rm) : Calls Try.prog 88 #[.pointer (some ⟨p, 0, none⟩), .int .i64 h, .int .i64 a, .int .i64 b] w fun e w' => e = .returned (.int .i64 (can g.rm.bs h a b)) ∧ Below w.heap.size w w' := by
  have := can_any F M p _ h a b w hC (small_mk g ht d hR); rw [can_mk] at this; exact this
theorem pages_g (hR : okR g.rm) : Calls Try.prog 84 #[.pointer (some ⟨p, 0, none⟩)] w fun e w' => e = .returned (.int .i64 (tot g.rm.bs 8)) ∧ Below w.heap.size w w' := by
  have := pages_any F M p _ w hC (small_mk g ht d hR); rw [tot_mk] at this; exact this
theorem create_g (h a b : Nat) (hR : okR g.rm) (hc : can g.rm.bs h a b = 0) : Calls Try.prog 91 #[.pointer (some ⟨p, 0, none⟩), .int .i64 h, .int .i64 a, .int .i64 b] w fun e w' => e = .returned (.tuple #[]) ∧ Goes F M w w' p (mk { g with rm := rCreate g.rm h a b } (updA ht h b) d) := by
  have := create_ok F M p _ h a b w hC (small_mk g ht d hR) (by rw [can_mk]; exact hc)
  refine this.mono ?_
  rintro e w' ⟨h1, h2⟩
  refine ⟨h1, ?_⟩
  have e1 : updA (mk g ht d).by_ h (zeros (a * b)) = bys (updA g.rm.bs h (zeros (a * b))) g.wait g.out := bys_upd_lo (can_ok hc).1
  rw [e1] at h2
  exact h2
theorem drop_g (h : Nat) (hh : thr g.rm h = true) : Calls Try.prog 92 #[.pointer (some ⟨p, 0, none⟩), .int .i64 h] w fun e w' => e = .returned (.tuple #[]) ∧ Goes F M w w' p (mk { g with rm := rDrop g.rm h } (updA ht h 0) d) := by
  obtain ⟨h8, hl⟩ := (of_decide_eq_true hh : _ ∧ _)
  have := drop_ok F M p _ h w hC h8 (by rw [mk_lo g ht d h8]; exact hl)
  refine this.mono ?_
  rintro e w' ⟨h1, h2⟩
  refine ⟨h1, ?_⟩
  have e1 : updA (mk g ht d).by_ h [] = bys (updA g.rm.bs h []) g.wait g.out := bys_upd_lo h8
  rw [e1] at h2
  exact h2
/-- a byte is put: into the object, or nowhere -/
theorem put_g (h k : Nat) (u : UInt8) (h8 : h < 8) : Calls Try.prog 94 #[.pointer (some ⟨p, 0, none⟩), .int .i64 h, .int .i64 k, .int .u8 (u.toNat : Int)] w fun e w' => e = .returned (.tuple #[]) ∧ Goes F M w w' p (mk { g with rm := rBytes g.rm h ((g.rm.bs h).set k u) } ht d) := by
  by_cases hk : k < (g.rm.bs h).length
  · have := put_in F M p _ h k u w hC h8 (by rw [mk_lo g ht d h8]; exact hk)
    refine this.mono ?_
    rintro e w' ⟨h1, h2⟩
    refine ⟨h1, ?_⟩
    rw [mk_lo g ht d h8] at h2
    have e1 : updA (mk g ht d).by_ h ((g.rm.bs h).set k u) = bys (updA g.rm.bs h ((g.rm.bs h).set k u)) g.wait g.out := bys_upd_lo h8
    rw [e1] at h2
    exact h2
  · have := put_out F M p _ h k (.int .u8 (u.toNat : Int)) w hC (by rw [sz_mk, obs_lo h8]; omega)
    refine this.mono ?_
    rintro e w' ⟨h1, h2⟩
    subst h2
    refine ⟨h1, ?_⟩
    have e1 : (g.rm.bs h).set k u = g.rm.bs h := List.set_eq_of_length_le (by omega)
    have e2 : updA g.rm.bs h (g.rm.bs h) = g.rm.bs := by funext j; unfold updA; split; rename_i e; rw [e]; rfl
    rw [e1]
    unfold rBytes
    rw [e2]
    exact Goes.stay hC (Below.refl _ _)
end

end Go.Proofs.Ytbedkfgdhaajaab
