/-
  What TreeCut of the specification answers.
-/
import Derived.Test.YtaebcaajcolnfadCutSpec
import Derived.Test.YtaebcaajcolnfadEndBoth
namespace Go.Proofs.Ytaebcaajcolnfad
open Go.ChangeShapes Go.WideShapes Go.ChangeAt Go.RowKit
set_option linter.unusedVariables false

set_option maxRecDepth 100000 in
set_option maxHeartbeats 1000000 in
theorem treeCutSpec_none (P : Option Addr) (c : Nat) (i : Int) (L : List Sl) (w : World) (hl : L.length ≤ 1048576) (hcap : L.length ≤ c) (hcm : c ≤ 1048576) (h : Lies w P L) (ht : (treeB L && placeB L.length i) = false) :
    Calls Try.prog 5 #[.slice P L.length c, .int .i64 i] w fun e w' => e = .returned (.tuple #[.slice none 0 0, .bool false]) ∧ Below w.heap.size w w' := by
  go_enter Try.func5, Try.ntmps5
  go_wp2_with (first
    | (go_at_call 11; refine (inSpec_to _ _ _ _ L _ hl hcap hcm h ht).mono ?_; rintro e w1 ⟨rfl, hb1⟩))
  go_ret2
  exact ⟨rfl, hb1⟩

set_option maxRecDepth 100000 in
set_option maxHeartbeats 1000000 in
theorem treeCutSpec_has (P : Option Addr) (c i : Nat) (L : List Sl) (w : World) (hl : L.length ≤ 1048576) (hcap : L.length ≤ c) (hcm : c ≤ 1048576) (h : Lies w P L) (ht : (treeB L && placeB L.length i) = true) (hi : i < L.length) (hr : runN L[i].p (L.drop (i + 1)) ≠ 0) :
    Calls Try.prog 5 #[.slice P L.length c, .int .i64 (i : Int)] w fun e w' => e = .returned (.tuple #[.slice none 0 0, .bool false]) ∧ Below w.heap.size w w' := by
  obtain ⟨r, hr1⟩ : ∃ r, runN L[i].p (L.drop (i + 1)) = r := ⟨_, rfl⟩
  have hr0 : r ≠ 0 := by rw [← hr1]; exact hr
  have hle := runN_le L[i].p (L.drop (i + 1))
  rw [List.length_drop, hr1] at hle
  obtain ⟨E, hE⟩ : ∃ E, i + r + 1 = E := ⟨_, rfl⟩
  have hw : IntKind.i64.wrap ((i : Int) + 1) = (i : Int) + 1 := wrap_in (by omega) (by omega)
  have hlt : (i : Int) + 1 < (E : Int) := by omega
  have HC : Hid _ := (fun w1 (hb1 : Below w.heap.size w w1) => hE ▸ endSpec_any P c i L w1 hl (h.below hb1) hi r hr1)
  clear hr hE hle hr1
  go_enter Try.func5, Try.ntmps5
  go_wp2_with (first
    | (go_at_call 11; refine (inSpec_to _ _ _ _ L _ hl hcap hcm h ht).mono ?_; rintro e w1 ⟨rfl, hb1⟩)
    | (go_at_call 12; refine (HC.out _ hb1).mono ?_; rintro e w2 ⟨rfl, hb2⟩))
  go_ret2
  exact ⟨rfl, hb1.trans (hb2.mono hb1.size)⟩

set_option maxRecDepth 100000 in
set_option maxHeartbeats 1000000 in
theorem treeCutSpec_leaf (B O c i : Nat) (L : List Sl) (w : World) (hl : L.length ≤ 1048576) (hcap : L.length ≤ c) (hcm : c ≤ 1048576) (h : Lies w (some ⟨B, O, none⟩) L) (ht : (treeB L && placeB L.length i) = true) (hi : i < L.length) (hr : runN L[i].p (L.drop (i + 1)) = 0) :
    Calls Try.prog 5 #[.slice (some ⟨B, O, none⟩) L.length c, .int .i64 (i : Int)] w fun e w' => ∃ g cap, e = .returned (.tuple #[.slice (some ⟨g, 0, none⟩) (L.length - 1) cap, .bool true]) ∧ w.heap.size ≤ g ∧ Lies w' (some ⟨g, 0, none⟩) (L.take i ++ L.drop (i + 1)) ∧ g < w'.heap.size ∧ Below w.heap.size w w' := by
  obtain ⟨E, hE⟩ : ∃ E, i + 0 + 1 = E := ⟨_, rfl⟩
  have hw : IntKind.i64.wrap ((i : Int) + 1) = (E : Int) := by rw [wrap_in (by omega) (by omega)]; omega
  have HC : Hid _ := (fun w1 (hb1 : Below w.heap.size w w1) => hE ▸ endSpec_any (some ⟨B, O, none⟩) c i L w1 hl (h.below hb1) hi 0 hr)
  clear hr hE
  go_enter Try.func5, Try.ntmps5
  go_wp2_with (first
    | (go_at_call 11; refine (inSpec_to _ _ _ _ L _ hl hcap hcm h ht).mono ?_; rintro e w1 ⟨rfl, hb1⟩)
    | (go_at_call 12; refine (HC.out _ hb1).mono ?_; rintro e w2 ⟨rfl, hb2⟩)
    | (go_at_call 13; refine (cutSpec_at B O c i L _ hl hcap hcm (h.below (hb1.trans (hb2.mono hb1.size))) hi).mono ?_; rintro e w3 ⟨g, cap, rfl, hg, hL3, hgl, hb3⟩))
  go_ret2
  have hb12 := hb1.trans (hb2.mono hb1.size)
  exact ⟨g, cap, rfl, Nat.le_trans hb12.size hg, hL3, hgl, hb12.trans (hb3.mono hb12.size)⟩

end Go.Proofs.Ytaebcaajcolnfad
