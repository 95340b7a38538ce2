/-
  FberNots: the card, out of the walk (GNotsLaw).
-/
import Derived.Test.YtmenllnokgjdlaaGreatDoorGNotsLaw
import Derived.Test.YtmenllnokgjdlaaGreatDoorGNotsShut
namespace Go.Proofs.YtmenllnokgjdlaaGreatDoor.G.Nots
open Go Go.RowKit Go.Shelf Gp Go.ChangeShapes Go.WideShapes Go.ChangeAt Go.ChangeMaps
theorem said : Rows.FberNotsSaid :=
 OpenClaim.holds_of_cond 9 Tryz.f9 rfl rfl rfl rfl rfl rfl rfl ⟨rfl, rfl, rfl, rfl, rfl⟩ rfl rfl rfl rfl rfl (by kernel_rfl) Tryz.func9 closed
  (of_decide_eq_true (by kernel_rfl)) (by unfold Func.isWrapper; first | (rw [if_pos (by decide +kernel)]; kernel_rfl) | (rw [if_neg (by decide +kernel)]; exact ⟨rfl, rfl⟩))
  (fun os started H enc _ F => by rw [OpenClaim.pre_eq_preRow]; exact lifted os started H enc F)
theorem plain (f : FuncId) (fn : Func) (hf : Tryz.pinned.checked.prog.funcNamed "latiner/latinerlaw09.FberNots" = some f) (hfn : Tryz.pinned.checked.prog.funcs[f]? = some fn) :
  true = Tryz.pinned.checked.prog.looks [] /\ ∀ (j : Nat) t, fn.params[j]? = some t -> Tryz.pinned.checked.prog.wantsStandIn t = false := by
 obtain rfl : f = 9 := Option.some.inj ((show Tryz.prog.funcNamed "latiner/latinerlaw09.FberNots" = some 9 by kernel_rfl).symm.trans hf) |>.symm
 obtain rfl : fn = Tryz.f9 := (Option.some.inj (Tryz.func9.symm.trans hfn)).symm
 refine ⟨by kernel_rfl, fun j t ht => ?_⟩
 rw [Tryz.params9] at ht
 have hm : t = 3 := by have := Array.mem_of_getElem? ht; simp at this; first | exact this | omega | (rcases this with h | h | h <;> simp [h]) | (rcases this with h | h | h | h <;> simp [h])
 subst hm
 exact (show Tryz.prog.wantsStandIn 3 = false by kernel_rfl)
theorem card : Rows.FberNotsCardSaid :=
 Claim7.holds_tied_plain_at .later [] _ _ _ _ said (fun _ h => by cases h) (by kernel_rfl) (fun _ h => by cases h) fberNots_row_tie rfl ⟨rfl, rfl⟩ (by kernel_rfl) rfl plain (by kernel_rfl)
end Go.Proofs.YtmenllnokgjdlaaGreatDoor.G.Nots
namespace Go.Proofs.YtmenllnokgjdlaaGreatDoor
theorem fberNots_holds : Rows.FberNotsCardSaid := G.Nots.card
#print axioms fberNots_holds
end Go.Proofs.YtmenllnokgjdlaaGreatDoor
