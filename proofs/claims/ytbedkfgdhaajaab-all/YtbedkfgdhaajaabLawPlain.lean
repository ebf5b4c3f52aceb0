/- Plain facts for the statements of package tenantslaw: the program's plain functions are the document's (P8). -/
import Derived.Test.YtbedkfgdhaajaabSend
import Derived.Test.YtbedkfgdhaajaabRefRun
namespace Go.Proofs.Ytbedkfgdhaajaab
open Go.RowKit

/-- what is asked of the bytes that are sent: nothing, since a Draw is a command of the program too -/
def no7 (_l : List UInt8) : Prop := True

theorem all7 : ∀ l, no7 l := fun _ => trivial
theorem no7.take {l : List UInt8} (_h : no7 l) (n : Nat) : no7 (l.take n) := trivial
theorem no7.drop {l : List UInt8} (_h : no7 l) (n : Nat) : no7 (l.drop n) := trivial
theorem no7.app {a b : List UInt8} (_h : no7 a) (_k : no7 b) : no7 (a ++ b) := trivial

section
variable {g : Gst}
theorem pz_dsz (_h : no7 g.wait) : pz g.wait = dsz g.wait := rfl
theorem pd_ddo (_h : no7 g.wait) (n : Nat) : pd g.rm (g.wait.take n) = ddo g.rm (g.wait.take n) := rfl
variable (h : no7 g.wait)
include h
theorem pnx_dnx : pnx g = dnx g := by unfold pnx dnx; rw [pz_dsz h]
theorem pfin_dfin : pfin g = dfin g := by unfold pfin dfin pcm; rw [pnx_dnx h, pd_ddo h]
theorem pcost_dcost : pcost g = dcost g := by unfold pcost dcost pcm; rw [pnx_dnx h, pd_ddo h]
theorem no7_fin : no7 (pfin g).wait := h.drop _
end

theorem pwork_dwork {n : Nat} {g : Gst} {f : Int} (h : no7 g.wait) : pwork n g f = dwork n g f ∧ no7 (pwork n g f).1.wait := by
  induction n generalizing g f with
  | zero => exact ⟨rfl, h⟩
  | succ n ih =>
    unfold pwork dwork
    rw [pnx_dnx h, pcost_dcost h]
    by_cases h1 : dnx g = 0
    · rw [if_pos h1, if_pos h1]; exact ⟨rfl, h⟩
    · rw [if_neg h1, if_neg h1]
      by_cases h2 : f < dcost g - g.paid
      · rw [if_pos h2, if_pos h2]; exact ⟨rfl, h⟩
      · rw [if_neg h2, if_neg h2, ← pfin_dfin h]; exact ih (no7_fin h)

/-- what the document's walk asks -/
theorem okP.okG {g : Gst} (h : okP g) (h7 : no7 g.wait) : okG g := by
  have e : pc1 g = (ddo g.rm (g.wait.take (dsz g.wait))).2.1 := by unfold pc1; rw [pz_dsz h7, pd_ddo h7]
  refine ⟨h.rm, h.wt, by have := h.ot; omega, h.p0, ?_, ?_⟩
  · rcases h.p2 with q | q
    · omega
    · have := whl_bd h.rm q.1; omega
  · rcases h.p2 with q | q
    · exact .inl q
    · rw [← e]; exact .inr q.2

/-- the contexts of a server -/
def J7 (S : Nat → Option Gst) : Prop := ∀ c g, c < 8 → S c = some g → okP g ∧ no7 g.wait

theorem J7.okS {S : Nat → Option Gst} (h : J7 S) : okS S := fun c g hc hg => by
  have := (h c g hc hg).1
  exact ⟨this.op, this.rm, this.wt, by have := this.ot; omega⟩
theorem J7.bare : J7 (fun _ => none) := fun _ _ _ h => by cases h
theorem J7.upd {S : Nat → Option Gst} (h : J7 S) {c : Nat} {g : Gst} (hp : okP g) (h7 : no7 g.wait) : J7 (updA S c (some g)) := fun j d hj hd => by
  by_cases e : j = c
  · subst e; rw [updA_same] at hd; cases hd; exact ⟨hp, h7⟩
  · rw [updA_other _ _ e] at hd; exact h j d hj hd
theorem J7.shut {S : Nat → Option Gst} (h : J7 S) {c : Nat} : J7 (updA S c none) := fun j d hj hd => by
  by_cases e : j = c
  · subst e; rw [updA_same] at hd; cases hd
  · rw [updA_other _ _ e] at hd; exact h j d hj hd
theorem okP_new : okP gNew := ⟨rfl, ⟨fun k _ => by simp [gNew], fun k _ => by simp [gNew], fun k _ => by simp [gNew], fun k _ => by simp [gNew], fun k _ q => (by cases q), fun k _ => by simp [gNew]⟩, by simp [gNew], by simp [gNew], by simp [gNew], .inl rfl⟩

end Go.Proofs.Ytbedkfgdhaajaab
