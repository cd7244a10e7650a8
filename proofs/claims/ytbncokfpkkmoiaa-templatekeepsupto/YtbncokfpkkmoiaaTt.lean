/- template: the walk of TemplateTexts. -/
import Derived.Test.YtbncokfpkkmoiaaTs
import Derived.Test.YtbncokfpkkmoiaaTp
namespace Go.Proofs.Ytbncokfpkkmoiaa
open Go.RowKit

set_option maxRecDepth 100000 in
set_option maxHeartbeats 2000000 in
theorem texts_walk (v : Value) (ps : List Pt) (w : World) (hv : PRow w v ps) (hn : bulkP ps ≤ 1048576) :
    Calls Try.prog 4 #[v] w fun e w' => e = .returned (.bool true) ∧ Below w.heap.size w w' := by
  have hpl := bulkP_len ps
  have HP := hideT (text_any v ps w hv hn)
  have HD := hideT (fun (w1 : World) (hb : Below w.heap.size w w1) => docText_any v ps w1 (hv.stay hb (Nat.le_refl _)) hn)
  have HR := hideT (fun (w1 : World) (hb : Below w.heap.size w w1) => refs_any v ps w1 (hv.stay hb (Nat.le_refl _)) (by omega))
  have HQ := hideT (fun (w1 : World) (hb : Below w.heap.size w w1) => docRefs_any v ps w1 (hv.stay hb (Nat.le_refl _)) (by omega))
  obtain ⟨pa, ca, rfl⟩ := hv.shape
  clear hv hn hpl
  generalize txR (textR ps []) = R at *
  obtain ⟨l, er⟩ := R
  generalize refsN ps 0 = rn at *
  go_enter Try.func4, Try.ntmps4
  go_wp2_with fail
  refine HP.out.mono ?_
  rintro e w1 ⟨rfl, hb1⟩
  have H1 := hideT hb1
  clear hb1
  go_wp2_with fail
  refine (HD.out _ H1.out).mono ?_
  rintro e w2 ⟨rfl, hb2⟩
  have H2 := hideT (H1.out.trans (hb2.mono H1.out.size))
  clear hb2
  go_wp2_with fail
  refine (awake_any _).mono ?_
  rintro e w3 ⟨rfl, hb3⟩
  have H3 := hideT (H2.out.trans (hb3.mono H2.out.size))
  clear hb3
  go_wp2_with fail
  refine (HR.out _ H3.out).mono ?_
  rintro e w4 ⟨rfl, hb4⟩
  have H4 := hideT (H3.out.trans (hb4.mono H3.out.size))
  clear hb4
  go_wp2_with fail
  refine (HQ.out _ H4.out).mono ?_
  rintro e w5 ⟨rfl, hb5⟩
  have H5 := hideT (H4.out.trans (hb5.mono H4.out.size))
  clear hb5
  go_wp2
  go_ret
  exact ⟨rfl, H5.out⟩

end Go.Proofs.Ytbncokfpkkmoiaa
