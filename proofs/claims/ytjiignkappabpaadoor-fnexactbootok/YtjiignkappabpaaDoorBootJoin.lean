/-
  errors.Join: nothing, where all that it is handed is nothing; else an error that holds the others.
-/
import Derived.Test.YtjiignkappabpaaDoorBootErr
import Derived.Test.YtjiignkappabpaaDoorBx
namespace Go.Proofs.YtjiignkappabpaaDoor
open Go.ChangeShapes Go.WideShapes Go.ChangeAt Go.RowKit
set_option linter.unusedVariables false

def isNil : Value → Bool
  | .nilIface => true
  | _ => false
/-- What is no error is left out. -/
def someE (L : List Value) : List Value := L.filter fun x => !isNil x
theorem someE_take {L : List Value} {k : Nat} (hk : k < L.length) : someE (L.take (k + 1)) = someE (L.take k) ++ (if isNil L[k] then [] else [L[k]]) := by
  unfold someE
  rw [List.take_succ_eq_append_getElem hk, List.filter_append]
  cases h : isNil L[k] <;> simp [h]
theorem someE_le (L : List Value) : (someE L).length ≤ L.length := List.length_filter_le _ _

theorem infoE : (Tryd.prog.info? 52).map (fun i => (i.zero, i.size, i.bytes)) = some (some .nilIface, 1, 16) := by kernel_rfl
theorem makeE (n : Nat) (hn : n ≤ 1000) (w : World) :
    (Instr.makeSlice 84 (.int .i64 0) (.int .i64 (n : Int))).run Tryd.prog w = .ok (.slice (some ⟨w.heap.size, 0, none⟩) 0 n) (w.alloc (.cells (madeCells #[.nilIface] (n * fV.n)) 52)) := by
  obtain ⟨i, hi, hzz⟩ := Option.map_eq_some_iff.1 infoE
  simp only [Prod.mk.injEq] at hzz
  obtain ⟨hz, hs, hb⟩ := hzz
  have := run_make (P := Tryd.prog) w 84 52 i _ Tryd.underlying84 hi hz .i64 .i64 0 n (by omega) (by omega) (by rw [hb]; omega) (by omega)
  rw [hs] at this
  exact this

/-- What stands between two rounds of the count. -/
def joinInv (w : World) (L : List Value) (n i : Value) (w' : World) : Prop :=
  ∃ k : Nat, k ≤ L.length ∧ i = .int .i64 k ∧ n = .int .i64 ((someE (L.take k)).length : Nat) ∧ w = w'
/-- What stands between two rounds of the copying. -/
def joinInv2 (w : World) (L : List Value) (i : Value) (w' : World) : Prop :=
  ∃ k : Nat, k ≤ L.length ∧ i = .int .i64 k ∧ ∃ v, OwnG fV 52 w' w.heap.size v (someE (L.take k)) ∧ w'.heap[w.heap.size + 1]? = some (.cells #[v] 87 (0, 0)) ∧ Below w.heap.size w w'

set_option maxRecDepth 100000 in
set_option maxHeartbeats 4000000 in
theorem join_any (P : Option Addr) (c : Nat) (L : List Value) (w : World) (hL : LiesG fV w P L) (hlen : L.length ≤ 1000) (d : Nat) (hE : ∀ x ∈ L, x = .nilIface ∨ ErrD w d x) :
    Calls Tryd.prog 31 #[.slice P L.length c] w fun e w' => ∃ v, e = .returned v ∧ ErrO w' (d + 1) (L.all isNil) v ∧ Below w.heap.size w w' := by
  have HE : Hid (∀ x ∈ L, x = .nilIface ∨ ErrD w d x) := hE
  clear hE
  go_enter Tryd.func31, Tryd.ntmps31
  go_wp2
  go_loopw [3, 11] (fun n i w' => joinInv w L n i w') (fun n i w' => L.length - (intOf i).toNat)
  case atStart => exact ⟨0, Nat.zero_le _, rfl, rfl, rfl⟩
  case round =>
    obtain ⟨k, hk, rfl, rfl, rfl⟩ := hrel
    by_cases hlt : k < L.length
    · obtain ⟨B, O, rfl⟩ := hL.has hlt
      have cc := atVO hL hlt
      have hst := someE_take hlt
      have hle := someE_le (L.take k)
      have hle2 : (L.take k).length = k := by simp; omega
      have hx := HE.out L[k] (List.getElem_mem hlt)
      generalize L[k] = x at cc hx hst
      have HS : Hid _ := hst
      clear hst
      have hk1 : (k : Int) < (L.length : Int) := by omega
      generalize hm : (someE (L.take k)).length = m at hle HS
      rcases hx with rfl | hx
      · go_wp2
        go_roundw
        case rel => exact ⟨k + 1, by omega, by go_num, by rw [HS.out]; simp [isNil, hm], rfl⟩
        case measure => simp [intOf]; omega
      · obtain ⟨T, a, rfl, hT⟩ := hx.form
        clear hx hT
        go_wp2
        go_roundw
        case rel => exact ⟨k + 1, by omega, by go_num, by rw [HS.out]; simp [isNil, hm], rfl⟩
        case measure => simp [intOf]; omega
    · have hk1 : ¬ (k : Int) < (L.length : Int) := by omega
      rw [List.take_of_length_le (by omega)]
      have hle := someE_le L
      by_cases h0 : (someE L).length = 0
      · rw [h0]
        have hall : L.all isNil = true := by
          have : someE L = [] := List.eq_nil_of_length_eq_zero h0
          unfold someE at this
          rw [List.filter_eq_nil_iff] at this
          rw [List.all_eq_true]
          intro x hx
          have := this x hx
          simpa using this
        have HA : Hid _ := hall
        clear hall
        go_wp2
        go_ret
        exact ⟨_, rfl, (by rw [HA.out]; exact rfl), Below.refl _ _⟩
      · have hall : L.all isNil = false := by
          cases h : L.all isNil
          · rfl
          · exfalso
            apply h0
            have : someE L = [] := by
              unfold someE
              rw [List.filter_eq_nil_iff]
              intro x hx
              have := (List.all_eq_true.1 h) x hx
              simp [this]
            rw [this]; rfl
        have HA : Hid _ := hall
        have HN : Hid (¬ (someE L).length = 0) := h0
        generalize hm : (someE L).length = m at *
        have hm0 : ((m : Int) == 0) = false := by simp; omega
        have HM : Hid _ := hm
        clear hm hall h0 hk1
        have hmk := makeE m (by omega)
        go_wp2
        go_loopw [28] (fun i w' => joinInv2 w L i w') (fun i w' => L.length - (intOf i).toNat)
        case atStart =>
          refine ⟨0, Nat.zero_le _, rfl, _, OwnG.below (OwnG.made fV 52 w w.heap.size (madeCells #[.nilIface] (m * fV.n)) m (Nat.le_refl _) (by unfold maxLen; omega) (size_madeCells _ _)) ((Below.refl _ _).alloc (Nat.le_refl _) _), ?_, ?_⟩
          · have := heap_alloc_new (w.alloc (.cells (madeCells #[.nilIface] (m * fV.n)) 52)) (.cells #[.slice (some ⟨w.heap.size, 0, none⟩) 0 m] 87)
            rw [World.size_alloc] at this
            exact this
          · exact ((Below.refl _ _).alloc (Nat.le_refl _) _).alloc (by simp) _
        case round =>
          clear hmk
          obtain ⟨k, hk, rfl, v, own, hbox, hB⟩ := hrel
          have hL2 := hL.below hB
          have hsz := hB.size
          have hbl : w.heap.size + 1 < wr.heap.size := (Array.getElem?_eq_some_iff.1 hbox).1
          by_cases hlt : k < L.length
          · obtain ⟨B, O, rfl⟩ := hL2.has hlt
            have cc := atVO hL2 hlt
            have hst := someE_take hlt
            have hle := someE_le (L.take k)
            have hle2 : (L.take k).length = k := by simp; omega
            have hx := HE.out L[k] (List.getElem_mem hlt)
            generalize L[k] = x at cc hx hst
            have HS : Hid _ := hst
            clear hst
            have hk1 : (k : Int) < (L.length : Int) := by omega
            rcases hx with rfl | hx
            · go_wp2
              go_roundw
              case rel => exact ⟨k + 1, by omega, by go_num, v, by rw [HS.out]; simpa [isNil] using own, hbox, hB⟩
              case measure => simp [intOf]; omega
            · obtain ⟨T, a, rfl, hT⟩ := hx.form
              clear hx hT
              have ownA := own.below (W' := wr.alloc (.cells #[.iface T (.pointer (some a))] 52)) ((Below.refl _ _).alloc (Nat.le_refl _) _)
              have hne := own.ne hbox (by decide)
              obtain ⟨P2, cap2, rfl, _⟩ := own.form
              have cb : wr.cell? ⟨w.heap.size + 1, 0, none⟩ = some (.slice P2 (someE (L.take k)).length cap2) := by simp [World.cell?, hbox]
              generalize hlm : (someE (L.take k)).length = q at *
              obtain ⟨i0, hi0, hzz⟩ := Option.map_eq_some_iff.1 infoE
              simp only [Prod.mk.injEq] at hzz
              obtain ⟨hy1, hs0, hy0⟩ := hzz
              have hown : (wr.alloc (.cells #[.iface T (.pointer (some a))] 52)).ownsRow w.heap.size 52 1 (.slice P2 q cap2) q (cellsG fV (someE (L.take k))) := by have := ownA; unfold OwnG at this; rw [hlm] at this; exact this
              have HLM : Hid _ := hlm
              clear hlm ownA own
              go_wp2_with (at_builtin; refine wpList_append_own _ rfl _ _ 84 rfl w.heap.size 52 i0 .nilIface 1 16 Tryd.underlying84 hi0 hy1 hs0 hy0 rfl (by decide) (.slice P2 q cap2) q (cellsG fV (someE (L.take k))) rfl hown ⟨wr.heap.size, 0, none⟩ 1 1 [.iface T (.pointer (some a))] rfl rfl (newsG (F := fV) (.iface T (.pointer (some a))) 52) (by simp [Value.oneCell']) (by unfold maxLen; omega) (by omega) (by simp; omega) ?_; intro v2 w2 own2 gr2 _; obtain ⟨g3, cap3, rfl⟩ := own_some own2 (by omega); have hb2 : w2.heap[w.heap.size + 1]? = some (.cells #[.slice P2 q cap2] 87 (0, 0)) := ((gr2.block _ (by simp; omega) (fun e => hne e.symm)).trans (Below.heap_alloc wr _ _ hbl)).trans hbox; have c2 : w2.cell? ⟨w.heap.size + 1, 0, none⟩ = some (.slice P2 q cap2) := (by simp [World.cell?, hb2]); have z2 : w2.frozen? ⟨w.heap.size + 1, 0, none⟩ = false := (by simp [World.frozen?, hb2]))
              go_roundw
              case rel =>
                have own3 : OwnG fV 52 w2 w.heap.size (.slice (some ⟨g3, 0, none⟩) (q + 1) cap3) (someE (L.take k) ++ [.iface T (.pointer (some a))]) := OwnG.snoc (F := fV) _ (by rw [HLM.out]) own2
                have hne2 := own3.ne hb2 (by decide)
                refine ⟨k + 1, by omega, by go_num, .slice (some ⟨g3, 0, none⟩) (q + 1) cap3, ?_, ?_, ?_⟩
                · rw [HS.out]
                  refine OwnG.same (W := w2) (by simpa [isNil] using own3) (fun g hg => Below.heap_setCell _ ⟨w.heap.size + 1, 0, none⟩ _ g (fun e => hne2 (by rw [hg]; exact congrArg some e)))
                · exact box_set hb2
                · refine Below.setCell ?_ (by simp) _
                  exact Below.trans (hB.alloc hsz _) ((Below.refl _ _).grown gr2 (by simp; omega) (fun k e => by have := (hown.lt k e).1; omega))
              case measure => simp [intOf]; omega
          · have hk1 : ¬ (k : Int) < (L.length : Int) := by omega
            rw [List.take_of_length_le (by omega)] at own
            obtain ⟨P2, cap2, rfl, hl2, _⟩ := own.form
            have cb : wr.cell? ⟨w.heap.size + 1, 0, none⟩ = some (.slice P2 (someE L).length cap2) := by simp [World.cell?, hbox]
            have hle := someE_le L
            go_wp2
            go_ret
            refine ⟨_, rfl, ?_, hB⟩
            rw [HA.out]
            refine .inr ⟨w.heap.size + 1, P2, cap2, someE L, rfl, cb, hl2, by omega, fun x hx => ?_⟩
            have hx2 := List.mem_filter.1 hx
            rcases HE.out x hx2.1 with rfl | h
            · simp [isNil] at hx2
            · exact ErrD.below hB h

end Go.Proofs.YtjiignkappabpaaDoor
