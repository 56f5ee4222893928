/-
  What l25Dec of the specification answers at a number from 0 to 65535: its decimal digits; and the letters of rights, of the specification and of the program.
-/
import Derived.Test.YthmambhagheocaaGreatDoorWords
import Derived.Handy
import Derived.Lib.Itoa
import Derived.Lib.ItoaNum
import Derived.Test.YthmambhagheocaaGreatDoorTextDefs
import Derived.Laws.IdiomStrings
namespace Go.Proofs.YthmambhagheocaaGreatDoor
open Go.ChangeShapes Go.WideShapes Go.ChangeAt Go.RowKit
set_option linter.unusedVariables false

/-- One byte as a string. -/
def byte1 (z : Int) : ByteArray := ⟨#[UInt8.ofNat z.toNat]⟩

theorem conv1 (z : Int) (h0 : 0 ≤ z) (h1 : z ≤ 255) (c : Nat) (w : World) :
    (convert 22 9 (.slice (some ⟨w.heap.size, 0, none⟩) 1 c)).run Tryz.prog (w.alloc (.cells #[.int .u8 z] 5)) = .ok (.string (byte1 z)) (w.alloc (.cells #[.int .u8 z] 5)) := by
  have := run_convert_bytes_back (P := Tryz.prog) (w.alloc (.cells #[.int .u8 z] 5)) 22 9 5 ⟨w.heap.size, 0, none⟩ c [UInt8.ofNat z.toNat] Tryz.underlying22 Tryz.underlying5 Tryz.underlying9
  refine this ?_
  intro j hj
  have : j = 0 := by simpa using hj
  subst this
  have e : (((UInt8.ofNat z.toNat).toNat : Nat) : Int) = z := by
    rw [UInt8.toNat_ofNat']; omega
  simp only [List.getElem_cons_zero, e]
  go_simp

theorem bytes_app (l m : List UInt8) : (⟨l.toArray⟩ : ByteArray) ++ ⟨m.toArray⟩ = ⟨(l ++ m).toArray⟩ := by
  apply ByteArray.ext
  simp [ByteArray.data_append]
theorem byte1_app (z : Int) (l : List UInt8) : byte1 z ++ ⟨l.toArray⟩ = ⟨(UInt8.ofNat z.toNat :: l).toArray⟩ := bytes_app [UInt8.ofNat z.toNat] l

theorem ret_str {a b : ByteArray} (h : a = b) : Ending.returned (.string a) = .returned (.string b) := by rw [h]

theorem digits_step {N m : Nat} {l : List UInt8} (h : Lib.decDigits N = Lib.decDigits m ++ l) (h9 : 9 < m) : Lib.decDigits N = Lib.decDigits (m / 10) ++ (UInt8.ofNat (48 + (m : Int) % 10).toNat :: l) := by
  rw [h, Lib.decDigits, dif_neg (by omega), List.append_assoc]
  congr 2
theorem digits_end {N m : Nat} {l : List UInt8} (h : Lib.decDigits N = Lib.decDigits m ++ l) (h9 : ¬ 9 < m) : Lib.decDigits N = UInt8.ofNat (48 + (m : Int)).toNat :: l := by
  rw [h, Lib.decDigits_one (by omega)]
  congr 2

set_option maxHeartbeats 400000 in
theorem dec_nat (N : Nat) (w : World) (h1 : N ≤ 65535) :
    Calls Tryz.prog 57 #[.int .i64 N] w fun e w' => e = .returned (.string ⟨(Lib.decDigits N).toArray⟩) ∧ Below w.heap.size w w' := by
  go_enter Tryz.func57, Tryz.ntmps57
  go_wp2
  go_loopw [0, 3] (fun n out wr => ∃ (m : Nat) (l : List UInt8), m ≤ 65535 ∧ n = .int .i64 m ∧ out = .string ⟨l.toArray⟩ ∧ Hid (Lib.decDigits N = Lib.decDigits m ++ l) ∧ l.length + m ≤ 65535 ∧ Below w.heap.size w wr) (fun n _ _ => (intOf n).toNat)
  case atStart => exact ⟨N, [], h1, rfl, rfl, by simp [Hid], by simpa using h1, Below.refl _ _⟩
  case round =>
    obtain ⟨m, l, hm, rfl, rfl, hd, hl, hb⟩ := hrel
    by_cases h9 : 9 < m
    · have hcv := conv1 (48 + (m : Int) % 10) (by omega) (by omega) 1
      have hs1 : (byte1 (48 + (m : Int) % 10)).size = 1 := rfl
      go_wp2
      go_roundw
      case rel => exact ⟨m / 10, UInt8.ofNat (48 + (m : Int) % 10).toNat :: l, by omega, by go_num, congrArg Value.string (byte1_app _ _), digits_step hd.out h9, by simp; omega, hb.alloc hb.size _⟩
      case measure => simp [intOf]; omega
    · have hcv := conv1 (48 + (m : Int)) (by omega) (by omega) 1
      have hs1 : (byte1 (48 + (m : Int))).size = 1 := rfl
      go_wp2
      go_ret
      exact ⟨ret_str (by rw [byte1_app, digits_end hd.out h9]), hb.alloc hb.size _⟩

theorem dec_any (n : Int) (w : World) (h0 : 0 ≤ n) (h1 : n ≤ 65535) :
    Calls Tryz.prog 57 #[.int .i64 n] w fun e w' => e = .returned (.string ⟨(Lib.itoa n).toArray⟩) ∧ Below w.heap.size w w' := by
  obtain ⟨N, rfl⟩ := Int.eq_ofNat_of_zero_le h0
  have e : Lib.itoa (N : Int) = Lib.decDigits N := by unfold Lib.itoa; rw [if_neg (by omega)]; simp
  rw [e]; exact dec_nat N w (by omega)

theorem lettersImpl_any (r : Int) (w : World) (h0 : 0 ≤ r) (h1 : r ≤ 7) :
    Calls Tryz.prog 53 #[.int .i64 r] w fun e w' => e = .returned (.string ⟨(lettersL r).toArray⟩) ∧ w' = w := by
  have h : r = 0 ∨ r = 1 ∨ r = 2 ∨ r = 3 ∨ r = 4 ∨ r = 5 ∨ r = 6 ∨ r = 7 := by omega
  rcases h with h | h | h | h | h | h | h | h <;> subst h
  · have hE : (({ data := #[] } : ByteArray)).toList.isEmpty = true := by kernel_rfl
    have k1 : bits BinOp.and IntKind.i64 0 1 = 0 := by decide
    have k2 : bits BinOp.and IntKind.i64 0 2 = 0 := by decide
    have k4 : bits BinOp.and IntKind.i64 0 4 = 0 := by decide
    go_enter Tryz.func53, Tryz.ntmps53
    go_wp2
    go_ret
    exact ⟨ret_str (by decide), rfl⟩
  · have hE : (({ data := #[] } : ByteArray) ++ { data := #[114] }).toList.isEmpty = false := by kernel_rfl
    have k1 : bits BinOp.and IntKind.i64 1 1 = 1 := by decide
    have k2 : bits BinOp.and IntKind.i64 1 2 = 0 := by decide
    have k4 : bits BinOp.and IntKind.i64 1 4 = 0 := by decide
    go_enter Tryz.func53, Tryz.ntmps53
    go_wp2
    go_ret
    exact ⟨ret_str (by decide), rfl⟩
  · have hE : (({ data := #[] } : ByteArray) ++ { data := #[119] }).toList.isEmpty = false := by kernel_rfl
    have k1 : bits BinOp.and IntKind.i64 2 1 = 0 := by decide
    have k2 : bits BinOp.and IntKind.i64 2 2 = 2 := by decide
    have k4 : bits BinOp.and IntKind.i64 2 4 = 0 := by decide
    go_enter Tryz.func53, Tryz.ntmps53
    go_wp2
    go_ret
    exact ⟨ret_str (by decide), rfl⟩
  · have hE : (({ data := #[] } : ByteArray) ++ { data := #[114] } ++ { data := #[119] }).toList.isEmpty = false := by kernel_rfl
    have k1 : bits BinOp.and IntKind.i64 3 1 = 1 := by decide
    have k2 : bits BinOp.and IntKind.i64 3 2 = 2 := by decide
    have k4 : bits BinOp.and IntKind.i64 3 4 = 0 := by decide
    go_enter Tryz.func53, Tryz.ntmps53
    go_wp2
    go_ret
    exact ⟨ret_str (by decide), rfl⟩
  · have hE : (({ data := #[] } : ByteArray) ++ { data := #[103] }).toList.isEmpty = false := by kernel_rfl
    have k1 : bits BinOp.and IntKind.i64 4 1 = 0 := by decide
    have k2 : bits BinOp.and IntKind.i64 4 2 = 0 := by decide
    have k4 : bits BinOp.and IntKind.i64 4 4 = 4 := by decide
    go_enter Tryz.func53, Tryz.ntmps53
    go_wp2
    go_ret
    exact ⟨ret_str (by decide), rfl⟩
  · have hE : (({ data := #[] } : ByteArray) ++ { data := #[114] } ++ { data := #[103] }).toList.isEmpty = false := by kernel_rfl
    have k1 : bits BinOp.and IntKind.i64 5 1 = 1 := by decide
    have k2 : bits BinOp.and IntKind.i64 5 2 = 0 := by decide
    have k4 : bits BinOp.and IntKind.i64 5 4 = 4 := by decide
    go_enter Tryz.func53, Tryz.ntmps53
    go_wp2
    go_ret
    exact ⟨ret_str (by decide), rfl⟩
  · have hE : (({ data := #[] } : ByteArray) ++ { data := #[119] } ++ { data := #[103] }).toList.isEmpty = false := by kernel_rfl
    have k1 : bits BinOp.and IntKind.i64 6 1 = 0 := by decide
    have k2 : bits BinOp.and IntKind.i64 6 2 = 2 := by decide
    have k4 : bits BinOp.and IntKind.i64 6 4 = 4 := by decide
    go_enter Tryz.func53, Tryz.ntmps53
    go_wp2
    go_ret
    exact ⟨ret_str (by decide), rfl⟩
  · have hE : (({ data := #[] } : ByteArray) ++ { data := #[114] } ++ { data := #[119] } ++ { data := #[103] }).toList.isEmpty = false := by kernel_rfl
    have k1 : bits BinOp.and IntKind.i64 7 1 = 1 := by decide
    have k2 : bits BinOp.and IntKind.i64 7 2 = 2 := by decide
    have k4 : bits BinOp.and IntKind.i64 7 4 = 4 := by decide
    go_enter Tryz.func53, Tryz.ntmps53
    go_wp2
    go_ret
    exact ⟨ret_str (by decide), rfl⟩

theorem lettersSpec_any (r : Int) (w : World) (h0 : 0 ≤ r) (h1 : r ≤ 7) :
    Calls Tryz.prog 58 #[.int .i64 r] w fun e w' => e = .returned (.string ⟨(lettersL r).toArray⟩) ∧ w' = w := by
  have h : r = 0 ∨ r = 1 ∨ r = 2 ∨ r = 3 ∨ r = 4 ∨ r = 5 ∨ r = 6 ∨ r = 7 := by omega
  rcases h with h | h | h | h | h | h | h | h <;> subst h
  · have hE : (({ data := #[] } : ByteArray)).toList.isEmpty = true := by kernel_rfl
    go_enter Tryz.func58, Tryz.ntmps58
    go_wp2
    go_ret
    exact ⟨ret_str (by decide), rfl⟩
  · have hE : (({ data := #[] } : ByteArray) ++ { data := #[114] }).toList.isEmpty = false := by kernel_rfl
    go_enter Tryz.func58, Tryz.ntmps58
    go_wp2
    go_ret
    exact ⟨ret_str (by decide), rfl⟩
  · have hE : (({ data := #[] } : ByteArray) ++ { data := #[119] }).toList.isEmpty = false := by kernel_rfl
    go_enter Tryz.func58, Tryz.ntmps58
    go_wp2
    go_ret
    exact ⟨ret_str (by decide), rfl⟩
  · have hE : (({ data := #[] } : ByteArray) ++ { data := #[114] } ++ { data := #[119] }).toList.isEmpty = false := by kernel_rfl
    go_enter Tryz.func58, Tryz.ntmps58
    go_wp2
    go_ret
    exact ⟨ret_str (by decide), rfl⟩
  · have hE : (({ data := #[] } : ByteArray) ++ { data := #[103] }).toList.isEmpty = false := by kernel_rfl
    go_enter Tryz.func58, Tryz.ntmps58
    go_wp2
    go_ret
    exact ⟨ret_str (by decide), rfl⟩
  · have hE : (({ data := #[] } : ByteArray) ++ { data := #[114] } ++ { data := #[103] }).toList.isEmpty = false := by kernel_rfl
    go_enter Tryz.func58, Tryz.ntmps58
    go_wp2
    go_ret
    exact ⟨ret_str (by decide), rfl⟩
  · have hE : (({ data := #[] } : ByteArray) ++ { data := #[119] } ++ { data := #[103] }).toList.isEmpty = false := by kernel_rfl
    go_enter Tryz.func58, Tryz.ntmps58
    go_wp2
    go_ret
    exact ⟨ret_str (by decide), rfl⟩
  · have hE : (({ data := #[] } : ByteArray) ++ { data := #[114] } ++ { data := #[119] } ++ { data := #[103] }).toList.isEmpty = false := by kernel_rfl
    go_enter Tryz.func58, Tryz.ntmps58
    go_wp2
    go_ret
    exact ⟨ret_str (by decide), rfl⟩

end Go.Proofs.YthmambhagheocaaGreatDoor
