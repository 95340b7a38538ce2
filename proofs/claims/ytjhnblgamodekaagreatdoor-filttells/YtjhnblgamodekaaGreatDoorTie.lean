/-
  DERIVED. GIVEN WITH THE SEED: THE PROGRAM's TIES (one call each: nine closed facts by the kernel) AND EACH ROW's TIE, after the 31st guide's Derived/Test/Toyas{Tie, Card}.lean. No idea stands in it: it is a product of the set-up. Laid BY PROGRAM, IN A SANDBOX (cutbox-door.mjs). By AI agents, Wed Nov 11 2026. No macro, syntax, notation, axiom, sorry.
-/
import Derived.Test.YtjhnblgamodekaaGreatDoorRows
import Derived.LaidByTextLater
import Derived.SevenTiedAt
import Derived.LaidSub
import Derived.LaidOnce
namespace Go.Proofs.YtjhnblgamodekaaGreatDoor
open Go
set_option maxRecDepth 100000
theorem seatTie1 : Tryz.prog.laidByTextLater [("unicode/utf8.acceptRanges", Rows.laid_unicode_utf8_acceptRanges), ("errors.errorType", Rows.laid_errors_errorType), ("latiner/code.errCut", Rows.laid_latiner_code_errCut), ("latiner/code.errEnd", Rows.laid_latiner_code_errEnd), ("latiner/code.errBits", Rows.laid_latiner_code_errBits), ("latiner/utf.errUtf", Rows.laid_latiner_utf_errUtf), ("latiner/esc.errText", Rows.laid_latiner_esc_errText), ("latiner/esc.errMark", Rows.laid_latiner_esc_errMark), ("latiner/filt.errDeep", Rows.laid_latiner_filt_errDeep), ("latiner/filt.errCount", Rows.laid_latiner_filt_errCount), ("latiner/filt.errName", Rows.laid_latiner_filt_errName), ("latiner/filt.errLong", Rows.laid_latiner_filt_errLong), ("latiner/filt.errField", Rows.laid_latiner_filt_errField), ("latiner/filt.errSign", Rows.laid_latiner_filt_errSign), ("latiner/filt.errMore", Rows.laid_latiner_filt_errMore)] [.data, .handle, .sentinel, .sentinel, .sentinel, .sentinel, .sentinel, .sentinel, .sentinel, .sentinel, .sentinel, .sentinel, .sentinel, .sentinel, .sentinel] true :=
  Program.laidByTextLater_by_one 273 8 33 (by kernel_rfl) (by kernel_rfl) (by kernel_rfl) (by kernel_rfl) (by kernel_rfl) (by kernel_rfl) (fun _ _ => by kernel_rfl)
theorem pin_laid_unicode_utf8_first : Tryz.pinned.checked.prog.pinnedFits "unicode/utf8.first" = true := by kernel_rfl
theorem noOwnUnsafe : Tryz.pinned.checked.prog.headLifts.contains "ownunsafe" = false := by kernel_rfl
theorem fits1 : Tryz.pinned.checked.prog.listedFits [("unicode/utf8.acceptRanges", Rows.laid_unicode_utf8_acceptRanges), ("errors.errorType", Rows.laid_errors_errorType), ("latiner/code.errCut", Rows.laid_latiner_code_errCut), ("latiner/code.errEnd", Rows.laid_latiner_code_errEnd), ("latiner/code.errBits", Rows.laid_latiner_code_errBits), ("latiner/utf.errUtf", Rows.laid_latiner_utf_errUtf), ("latiner/esc.errText", Rows.laid_latiner_esc_errText), ("latiner/esc.errMark", Rows.laid_latiner_esc_errMark), ("latiner/filt.errDeep", Rows.laid_latiner_filt_errDeep), ("latiner/filt.errCount", Rows.laid_latiner_filt_errCount), ("latiner/filt.errName", Rows.laid_latiner_filt_errName), ("latiner/filt.errLong", Rows.laid_latiner_filt_errLong), ("latiner/filt.errField", Rows.laid_latiner_filt_errField), ("latiner/filt.errSign", Rows.laid_latiner_filt_errSign), ("latiner/filt.errMore", Rows.laid_latiner_filt_errMore), ("unicode/utf8.first", Rows.laid_unicode_utf8_first)] = true := by
  unfold Program.listedFits
  rw [noOwnUnsafe]
  kernel_rfl
theorem tie : Tryz.prog.laidByTextLater [("unicode/utf8.acceptRanges", Rows.laid_unicode_utf8_acceptRanges), ("errors.errorType", Rows.laid_errors_errorType), ("latiner/code.errCut", Rows.laid_latiner_code_errCut), ("latiner/code.errEnd", Rows.laid_latiner_code_errEnd), ("latiner/code.errBits", Rows.laid_latiner_code_errBits), ("latiner/utf.errUtf", Rows.laid_latiner_utf_errUtf), ("latiner/esc.errText", Rows.laid_latiner_esc_errText), ("latiner/esc.errMark", Rows.laid_latiner_esc_errMark), ("latiner/filt.errDeep", Rows.laid_latiner_filt_errDeep), ("latiner/filt.errCount", Rows.laid_latiner_filt_errCount), ("latiner/filt.errName", Rows.laid_latiner_filt_errName), ("latiner/filt.errLong", Rows.laid_latiner_filt_errLong), ("latiner/filt.errField", Rows.laid_latiner_filt_errField), ("latiner/filt.errSign", Rows.laid_latiner_filt_errSign), ("latiner/filt.errMore", Rows.laid_latiner_filt_errMore)] [.data, .handle, .sentinel, .sentinel, .sentinel, .sentinel, .sentinel, .sentinel, .sentinel, .sentinel, .sentinel, .sentinel, .sentinel, .sentinel, .sentinel] true :=
  Program.laidByTextLater.sub seatTie1 ["unicode/utf8.acceptRanges", "errors.errorType", "latiner/code.errCut", "latiner/code.errEnd", "latiner/code.errBits", "latiner/utf.errUtf", "latiner/esc.errText", "latiner/esc.errMark", "latiner/filt.errDeep", "latiner/filt.errCount", "latiner/filt.errName", "latiner/filt.errLong", "latiner/filt.errField", "latiner/filt.errSign", "latiner/filt.errMore"] (by kernel_rfl) (by kernel_rfl)
theorem filtTells_row_tie : Rows.filtTellsRow.laidByTextAt .later Tryz.pinned [.data, .handle, .sentinel, .sentinel, .sentinel, .sentinel, .sentinel, .sentinel, .sentinel, .sentinel, .sentinel, .sentinel, .sentinel, .sentinel, .sentinel, .pinned] true :=
  OpenClaim.laidByTextAt_pinned rfl rfl tie rfl rfl rfl rfl (fun y hy _e => by
    simp only [Rows.filtTellsRow, List.zip_cons_cons, List.zip_nil_right, List.mem_cons, List.mem_nil_iff, or_false] at hy
    rcases hy with rfl | rfl | rfl | rfl | rfl | rfl | rfl | rfl | rfl | rfl | rfl | rfl | rfl | rfl | rfl | rfl
    · cases _e
    · cases _e
    · cases _e
    · cases _e
    · cases _e
    · cases _e
    · cases _e
    · cases _e
    · cases _e
    · cases _e
    · cases _e
    · cases _e
    · cases _e
    · cases _e
    · cases _e
    · exact ⟨pin_laid_unicode_utf8_first, by kernel_rfl⟩) fits1
theorem filtTellsUpto_row_tie : Rows.filtTellsUptoRow.laidByTextAt .later Tryz.pinned [.data, .handle, .sentinel, .sentinel, .sentinel, .sentinel, .sentinel, .sentinel, .sentinel, .sentinel, .sentinel, .sentinel, .sentinel, .sentinel, .sentinel, .pinned] true :=
  OpenClaim.laidByTextAt_pinned rfl rfl tie rfl rfl rfl rfl (fun y hy _e => by
    simp only [Rows.filtTellsUptoRow, List.zip_cons_cons, List.zip_nil_right, List.mem_cons, List.mem_nil_iff, or_false] at hy
    rcases hy with rfl | rfl | rfl | rfl | rfl | rfl | rfl | rfl | rfl | rfl | rfl | rfl | rfl | rfl | rfl | rfl
    · cases _e
    · cases _e
    · cases _e
    · cases _e
    · cases _e
    · cases _e
    · cases _e
    · cases _e
    · cases _e
    · cases _e
    · cases _e
    · cases _e
    · cases _e
    · cases _e
    · cases _e
    · exact ⟨pin_laid_unicode_utf8_first, by kernel_rfl⟩) fits1
end Go.Proofs.YtjhnblgamodekaaGreatDoor
