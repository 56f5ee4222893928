/-
  Errors of errors.New's make, and such as errors.Join makes of them: what errors.Is and errors.Join answer.
-/
import Derived.Test.YtjiignkappabpaaDoorOwnG
import Derived.Test.YtjiignkappabpaaDoorValRow
import Derived.Test.YtjiignkappabpaaDoorWords
import Derived.WalkKit
import Derived.LaidEql
import Derived.Stop.Asserts
import Derived.RowKitTokens
namespace Go.Proofs.YtjiignkappabpaaDoor
open Go.ChangeShapes Go.WideShapes Go.ChangeAt Go.RowKit
set_option linter.unusedVariables false

/-! ### Closed facts: what the program's types have. -/
theorem isTypeOf (v : Value) (w : World) : Sem.run Tryd.prog (callFunc 42 #[.iface 131 v]) w = .ok (.value (.iface 98 (.agg #[.pointer (some ⟨5, 131, none⟩)]))) w := by kernel_rfl
theorem isComparable (w : World) : Sem.run Tryd.prog (callFunc 82 #[.agg #[.pointer (some ⟨5, 131, none⟩)]]) w = .ok (.value (.bool true)) w := by kernel_rfl
theorem isMethodComparable (v : Value) (w : World) : (Go.method 272 98 v "Comparable").run Tryd.prog w = .ok (82, v) w := by kernel_rfl
theorem isComp : (Tryd.prog.info? 131).map (·.comparable) = some true := by kernel_rfl
theorem isSize : (Tryd.prog.info? 157).map (·.size) = some 1 := by kernel_rfl
theorem noIsE (v : Value) (xT : TypeId) (w : World) : (Instr.typeAssert (.iface 131 v) xT 100 true).run Tryd.prog w = .ok (.tuple #[.nilIface, .bool false]) w := run_typeAssert_lacksB Tryd.underlying100 (by kernel_rfl) (by kernel_rfl) v xT w
theorem noUnwrapE (v : Value) (xT : TypeId) (w : World) : (Instr.typeAssert (.iface 131 v) xT 103 true).run Tryd.prog w = .ok (.tuple #[.nilIface, .bool false]) w := run_typeAssert_lacksB Tryd.underlying103 (by kernel_rfl) (by kernel_rfl) v xT w
theorem noUnwrapsE (v : Value) (xT : TypeId) (w : World) : (Instr.typeAssert (.iface 131 v) xT 105 true).run Tryd.prog w = .ok (.tuple #[.nilIface, .bool false]) w := run_typeAssert_lacksB Tryd.underlying105 (by kernel_rfl) (by kernel_rfl) v xT w
theorem noIsJ (v : Value) (xT : TypeId) (w : World) : (Instr.typeAssert (.iface 85 v) xT 100 true).run Tryd.prog w = .ok (.tuple #[.nilIface, .bool false]) w := run_typeAssert_lacksB Tryd.underlying100 (by kernel_rfl) (by kernel_rfl) v xT w
theorem noUnwrapJ (v : Value) (xT : TypeId) (w : World) : (Instr.typeAssert (.iface 85 v) xT 103 true).run Tryd.prog w = .ok (.tuple #[.nilIface, .bool false]) w := run_typeAssert_lacksB Tryd.underlying103 (by kernel_rfl) (by kernel_rfl) v xT w
theorem hasUnwrapsJ (v : Value) (xT : TypeId) (w : World) : (Instr.typeAssert (.iface 85 v) xT 105 true).run Tryd.prog w = .ok (.tuple #[.iface 85 v, .bool true]) w := run_typeAssert_hasB Tryd.underlying105 (by kernel_rfl) v xT w
theorem methodUnwrapJ (v : Value) (w : World) : (Go.method 272 85 v "Unwrap").run Tryd.prog w = .ok (77, v) w := by kernel_rfl

/-! ### Errors in memory. -/
/-- An error of errors.New's make. -/
def IsE (W : World) (v : Value) : Prop := ∃ (a : Addr) (c : Array Value) (t : TypeId), v = .iface 131 (.pointer (some a)) ∧ W.heap[a.block]? = some (.cells c t (0, 0))
/-- Such an error, or what errors.Join made of such, d times over at most. -/
def ErrD (W : World) : Nat → Value → Prop
  | 0, v => IsE W v
  | d + 1, v => ErrD W d v ∨ ∃ (b : Nat) (P : Option Addr) (c : Nat) (L : List Value), v = .iface 85 (.pointer (some ⟨b, 0, none⟩)) ∧ W.cell? ⟨b, 0, none⟩ = some (.slice P L.length c) ∧ LiesG fV W P L ∧ L.length ≤ 1000 ∧ ∀ x ∈ L, ErrD W d x
/-- Nothing wrong, or an error. -/
def ErrO (W : World) (d : Nat) (ok : Bool) (v : Value) : Prop := if ok = true then v = .nilIface else ErrD W d v

theorem IsE.below {W W' : World} {v : Value} (h : IsE W v) (hb : Below W.heap.size W W') : IsE W' v := by
  obtain ⟨a, c, t, rfl, ha⟩ := h
  exact ⟨a, c, t, rfl, (hb.block _ (Array.getElem?_eq_some_iff.1 ha).1).trans ha⟩
theorem ErrD.below {W W' : World} (hb : Below W.heap.size W W') : ∀ {d : Nat} {v : Value}, ErrD W d v → ErrD W' d v
  | 0, _, h => IsE.below h hb
  | d + 1, _, .inl h => .inl (ErrD.below hb h)
  | d + 1, _, .inr ⟨b, P, c, L, e, h1, h2, h3, h4⟩ => .inr ⟨b, P, c, L, e, ((bcell hb).1 _ _ (block_lt_of_cell h1)).trans h1, h2.below hb, h3, fun x hx => ErrD.below hb (h4 x hx)⟩
theorem ErrD.up {W : World} {d e : Nat} {v : Value} (h : ErrD W d v) (hde : d ≤ e) : ErrD W e v := by
  induction hde with
  | refl => exact h
  | step _ ih => exact .inl ih
theorem ErrO.below {W W' : World} {d : Nat} {ok : Bool} {v : Value} (h : ErrO W d ok v) (hb : Below W.heap.size W W') : ErrO W' d ok v := by
  cases ok
  · exact ErrD.below hb h
  · exact h
theorem ErrO.up {W : World} {d e : Nat} {ok : Bool} {v : Value} (h : ErrO W d ok v) (hde : d ≤ e) : ErrO W e ok v := by
  cases ok
  · exact ErrD.up h hde
  · exact h
theorem ErrO.nil {W : World} {d : Nat} {v : Value} (h : ErrO W d true v) : v = .nilIface := h
theorem ErrO.err {W : World} {d : Nat} {v : Value} (h : ErrO W d false v) : ErrD W d v := h
/-- Which of the two makes it is of. -/
theorem ErrD.form {W : World} : ∀ {d : Nat} {v : Value}, ErrD W d v → ∃ T a, v = .iface T (.pointer (some a)) ∧ (T = 131 ∨ T = 85)
  | 0, _, ⟨a, _, _, e, _⟩ => ⟨_, a, e, .inl rfl⟩
  | _ + 1, _, .inl h => ErrD.form h
  | _ + 1, _, .inr ⟨b, _, _, _, e, _⟩ => ⟨_, _, e, .inr rfl⟩

/-- Some Bool is answered. -/
def AnsB (w : World) (e : Ending) (w' : World) : Prop := ∃ r : Bool, e = .returned (.bool r) ∧ Below w.heap.size w w'
theorem AnsB.mk {w w' : World} (r : Bool) (h : Below w.heap.size w w') : AnsB w (.returned (.bool r)) w' := ⟨r, rfl, h⟩

/-! ### errors.is -/
set_option maxRecDepth 100000 in
set_option maxHeartbeats 1000000 in
theorem isLeaf_any (v t : Value) (w : World) (hv : IsE w v) (ht : IsE w t) :
    Calls Tryd.prog 43 #[v, t, .bool true] w fun e w' => AnsB w e w' := by
  obtain ⟨a, c, ta, rfl, ha⟩ := hv
  obtain ⟨b, cb, tb, rfl, hb⟩ := ht
  obtain ⟨i, hi, hcmp⟩ := Option.map_eq_some_iff.1 isComp
  obtain ⟨j, hj, hjs⟩ := Option.map_eq_some_iff.1 isSize
  by_cases hab : a = b
  · subst hab
    have heq := run_eql_iface_ptr_same (P := Tryd.prog) w a Tryd.underlying52 Tryd.underlying131 hi hcmp hj
    go_enter Tryd.func43, Tryd.ntmps43
    go_wp2
    refine wp_loop_rounds 1 ?_
    rw [rounds_succ]
    go_wp2
    go_ret
    exact AnsB.mk true (Below.refl _ _)
  · have heq := run_eql_iface_ptr_other (P := Tryd.prog) w Tryd.underlying52 Tryd.underlying131 hi hcmp hj (by rw [hjs]; decide) hab ha hb
    have nE := noIsE
    have uE := noUnwrapE
    have vE := noUnwrapsE
    go_enter Tryd.func43, Tryd.ntmps43
    go_wp2
    refine wp_loop_rounds 1 ?_
    rw [rounds_succ]
    go_wp2
    go_ret
    exact AnsB.mk false (Below.refl _ _)

theorem unwrapJ_any (b : Nat) (s : Value) (w : World) (h : w.cell? ⟨b, 0, none⟩ = some s) :
    Calls Tryd.prog 77 #[.pointer (some ⟨b, 0, none⟩)] w fun e w' => e = .returned s ∧ w = w' := by
  go_enter Tryd.func77, Tryd.ntmps77
  go_wp2
  go_ret
  exact ⟨rfl, rfl⟩

theorem atVO {W : World} {B O : Nat} {L : List Value} (h : LiesG fV W (some ⟨B, O, none⟩) L) {k : Nat} (hk : k < L.length) : W.cell? ⟨B, O + k, none⟩ = some L[k] := by
  have := h.at hk 0 _ rfl
  simpa [fV] using this

/-- What stands between two rounds of errors.is over what was joined. -/
def isInv (w : World) (L : List Value) (i : Value) (w' : World) : Prop :=
  ∃ k : Nat, k ≤ L.length ∧ i = .int .i64 k ∧ Below w.heap.size w w'

set_option maxRecDepth 100000 in
set_option maxHeartbeats 2000000 in
theorem isTree_any : ∀ (d : Nat) (v t : Value) (w : World), ErrD w d v → IsE w t →
    Calls Tryd.prog 43 #[v, t, .bool true] w fun e w' => AnsB w e w'
  | 0, v, t, w, hv, ht => isLeaf_any v t w hv ht
  | d + 1, v, t, w, .inl h, ht => isTree_any d v t w h ht
  | d + 1, v, t, w, .inr ⟨b, P, c, L, e, h1, h2, h3, h4⟩, ht => by
    subst e
    have HT : Hid _ := ht
    have HI : Hid (∀ (v : Value) (w : World), ErrD w d v → IsE w t → Calls Tryd.prog 43 #[v, t, .bool true] w fun e w' => AnsB w e w') := fun v w => isTree_any d v t w
    have H4 : Hid _ := h4
    obtain ⟨a, ca, ta, rfl, ha⟩ := ht
    have hty := run_eql_iface_types (P := Tryd.prog) 85 131 (.pointer (some ⟨b, 0, none⟩)) (.pointer (some a)) Tryd.underlying52 (by decide)
    have nJ := noIsJ
    have uJ := noUnwrapJ
    have vJ := hasUnwrapsJ
    have mJ := methodUnwrapJ
    clear h4
    go_enter Tryd.func43, Tryd.ntmps43
    go_wp2
    refine wp_loop_rounds 1 ?_
    rw [rounds_succ]
    go_wp2_with ((go_at_call 77; refine (unwrapJ_any b _ _ h1).mono ?_; rintro r w1 ⟨rfl, rfl⟩))
    go_loopw [45] (fun i w' => isInv w L i w') (fun i w' => L.length - (intOf i).toNat)
    case atStart => exact ⟨0, Nat.zero_le _, rfl, Below.refl _ _⟩
    case round =>
      obtain ⟨k, hk, rfl, hB⟩ := hrel
      have hL := h2.below hB
      by_cases hlt : k < L.length
      · obtain ⟨B, O, rfl⟩ := hL.has hlt
        have cc := atVO hL hlt
        have he := ErrD.below hB (H4.out L[k] (List.getElem_mem hlt))
        generalize hx : L[k] = x at cc he
        clear hx
        have hk1 : (k : Int) < (L.length : Int) := by omega
        have HC : Hid _ := HI.out x _ he (IsE.below HT.out hB)
        clear he
        go_wp2_with ((go_at_call 43; go_loud (refine Calls.mono HC.out ?_; rintro r w1 ⟨q, rfl, hb1⟩; cases q)))
        · go_roundw
          case rel => exact ⟨k + 1, by omega, by go_num, hB.trans (hb1.mono hB.size)⟩
          case measure => simp [intOf]; omega
        · go_ret
          exact AnsB.mk true (hB.trans (hb1.mono hB.size))
      · have hk1 : ¬ (k : Int) < (L.length : Int) := by omega
        go_wp2
        go_ret
        exact AnsB.mk false hB

/-! ### errors.Is -/
theorem isNil_any (t : Value) (w : World) (ht : IsE w t) :
    Calls Tryd.prog 29 #[.nilIface, t] w fun e w' => e = .returned (.bool false) ∧ w = w' := by
  obtain ⟨b, cb, tb, rfl, hb⟩ := ht
  have hn := run_eql_iface_nil_left (P := Tryd.prog) w 131 (.pointer (some b)) Tryd.underlying52
  go_enter Tryd.func29, Tryd.ntmps29
  go_wp2
  go_ret
  exact ⟨rfl, rfl⟩

set_option maxRecDepth 100000 in
set_option maxHeartbeats 2000000 in
theorem isSame_any (t : Value) (w : World) (ht : IsE w t) :
    Calls Tryd.prog 29 #[t, t] w fun e w' => e = .returned (.bool true) ∧ w = w' := by
  obtain ⟨a, cb, tb, rfl, hb⟩ := ht
  obtain ⟨i, hi, hcmp⟩ := Option.map_eq_some_iff.1 isComp
  obtain ⟨j, hj, hjs⟩ := Option.map_eq_some_iff.1 isSize
  have tT := isTypeOf
  have cT := isComparable
  have mR := isMethodComparable
  have heq := run_eql_iface_ptr_same (P := Tryd.prog) w a Tryd.underlying52 Tryd.underlying131 hi hcmp hj
  go_enter Tryd.func29, Tryd.ntmps29
  go_wp2
  refine wp_loop_rounds 1 ?_
  rw [rounds_succ]
  go_wp2
  go_ret
  exact ⟨rfl, rfl⟩

set_option maxRecDepth 100000 in
set_option maxHeartbeats 2000000 in
theorem is_any (d : Nat) (v t : Value) (w : World) (hv : ErrD w d v) (ht : IsE w t) :
    Calls Tryd.prog 29 #[v, t] w fun e w' => AnsB w e w' := by
  have HC : Hid _ := isTree_any d v t w hv ht
  obtain ⟨b, cb, tb, rfl, hb⟩ := ht
  obtain ⟨T, a, rfl, hT⟩ := hv.form
  clear hT
  have tT := isTypeOf
  have cT := isComparable
  have mR := isMethodComparable
  go_enter Tryd.func29, Tryd.ntmps29
  go_wp2_with ((go_at_call 43; go_loud (refine Calls.mono HC.out ?_; rintro r w1 ⟨q, rfl, hb1⟩)))
  go_ret
  exact AnsB.mk q hb1

end Go.Proofs.YtjiignkappabpaaDoor
