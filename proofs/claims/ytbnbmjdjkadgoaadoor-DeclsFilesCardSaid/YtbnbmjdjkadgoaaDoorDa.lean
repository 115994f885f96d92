/-
  The ids of entities (decls, and the document's): Class, Field, Method. Condition: both texts together at most 100,000,000 bytes.
-/
import Derived.Test.YtbnbmjdjkadgoaaDoorXPl
namespace Go.Proofs.YtbnbmjdjkadgoaaDoor
open Go.RowKit Go.Shelf
namespace D
set_option linter.unusedVariables false
theorem Class_any (c : ByteArray) (w : World) : Calls Tryd.prog 17 #[.string c] w fun e w' => e = .returned (.string c) ∧ w' = w := by
  go_enter Tryd.func17, Tryd.ntmps17
  go_wp2_with fail
  go_ret
  exact ⟨rfl, rfl⟩
theorem Field_any (c n : ByteArray) (w : World) (h : c.size + n.size ≤ 100000000) : Calls Tryd.prog 20 #[.string c, .string n] w fun e w' => e = .returned (.string (c ++ ⟨#[46]⟩ ++ n)) ∧ w' = w := by
  have l1 : (⟨#[46]⟩ : ByteArray).size = 1 := rfl
  have s1 : (c ++ ⟨#[46]⟩ : ByteArray).size = c.size + 1 := by rw [ByteArray.size_append, l1]
  have s2 : (c ++ ⟨#[46]⟩ ++ n : ByteArray).size = c.size + 1 + n.size := by rw [ByteArray.size_append, s1]
  have b1 : (c ++ ⟨#[46]⟩ : ByteArray).size ≤ maxLen := by rw [s1]; unfold maxLen; omega
  have b2 : (c ++ ⟨#[46]⟩ ++ n : ByteArray).size ≤ maxLen := by rw [s2]; unfold maxLen; omega
  go_enter Tryd.func20, Tryd.ntmps20
  go_wp2_with fail
  go_ret
  exact ⟨rfl, rfl⟩
theorem RefField_any (c n : ByteArray) (w : World) (h : c.size + n.size ≤ 100000000) : Calls Tryd.prog 34 #[.string c, .string n] w fun e w' => e = .returned (.string (c ++ ⟨#[46]⟩ ++ n)) ∧ w' = w := by
  have l1 : (⟨#[46]⟩ : ByteArray).size = 1 := rfl
  have s1 : (c ++ ⟨#[46]⟩ : ByteArray).size = c.size + 1 := by rw [ByteArray.size_append, l1]
  have s2 : (c ++ ⟨#[46]⟩ ++ n : ByteArray).size = c.size + 1 + n.size := by rw [ByteArray.size_append, s1]
  have b1 : (c ++ ⟨#[46]⟩ : ByteArray).size ≤ maxLen := by rw [s1]; unfold maxLen; omega
  have b2 : (c ++ ⟨#[46]⟩ ++ n : ByteArray).size ≤ maxLen := by rw [s2]; unfold maxLen; omega
  go_enter Tryd.func34, Tryd.ntmps34
  go_wp2_with fail
  go_ret
  exact ⟨rfl, rfl⟩
theorem Method_any (c n : ByteArray) (w : World) (h : c.size + n.size ≤ 100000000) : Calls Tryd.prog 19 #[.string c, .string n] w fun e w' => e = .returned (.string (c ++ ⟨#[46]⟩ ++ n ++ ⟨#[40, 41]⟩)) ∧ w' = w := by
  have l1 : (⟨#[46]⟩ : ByteArray).size = 1 := rfl
  have l2 : (⟨#[40, 41]⟩ : ByteArray).size = 2 := rfl
  have s1 : (c ++ ⟨#[46]⟩ : ByteArray).size = c.size + 1 := by rw [ByteArray.size_append, l1]
  have s2 : (c ++ ⟨#[46]⟩ ++ n : ByteArray).size = c.size + 1 + n.size := by rw [ByteArray.size_append, s1]
  have s3 : (c ++ ⟨#[46]⟩ ++ n ++ ⟨#[40, 41]⟩ : ByteArray).size = c.size + 1 + n.size + 2 := by rw [ByteArray.size_append, s2, l2]
  have b1 : (c ++ ⟨#[46]⟩ : ByteArray).size ≤ maxLen := by rw [s1]; unfold maxLen; omega
  have b2 : (c ++ ⟨#[46]⟩ ++ n : ByteArray).size ≤ maxLen := by rw [s2]; unfold maxLen; omega
  have b3 : (c ++ ⟨#[46]⟩ ++ n ++ ⟨#[40, 41]⟩ : ByteArray).size ≤ maxLen := by rw [s3]; unfold maxLen; omega
  go_enter Tryd.func19, Tryd.ntmps19
  go_wp2_with fail
  go_ret
  exact ⟨rfl, rfl⟩
theorem RefMethod_any (c n : ByteArray) (w : World) (h : c.size + n.size ≤ 100000000) : Calls Tryd.prog 35 #[.string c, .string n] w fun e w' => e = .returned (.string (c ++ ⟨#[46]⟩ ++ n ++ ⟨#[40, 41]⟩)) ∧ w' = w := by
  have l1 : (⟨#[46]⟩ : ByteArray).size = 1 := rfl
  have l2 : (⟨#[40, 41]⟩ : ByteArray).size = 2 := rfl
  have s1 : (c ++ ⟨#[46]⟩ : ByteArray).size = c.size + 1 := by rw [ByteArray.size_append, l1]
  have s2 : (c ++ ⟨#[46]⟩ ++ n : ByteArray).size = c.size + 1 + n.size := by rw [ByteArray.size_append, s1]
  have s3 : (c ++ ⟨#[46]⟩ ++ n ++ ⟨#[40, 41]⟩ : ByteArray).size = c.size + 1 + n.size + 2 := by rw [ByteArray.size_append, s2, l2]
  have b1 : (c ++ ⟨#[46]⟩ : ByteArray).size ≤ maxLen := by rw [s1]; unfold maxLen; omega
  have b2 : (c ++ ⟨#[46]⟩ ++ n : ByteArray).size ≤ maxLen := by rw [s2]; unfold maxLen; omega
  have b3 : (c ++ ⟨#[46]⟩ ++ n ++ ⟨#[40, 41]⟩ : ByteArray).size ≤ maxLen := by rw [s3]; unfold maxLen; omega
  go_enter Tryd.func35, Tryd.ntmps35
  go_wp2_with fail
  go_ret
  exact ⟨rfl, rfl⟩
end D
end Go.Proofs.YtbnbmjdjkadgoaaDoor
