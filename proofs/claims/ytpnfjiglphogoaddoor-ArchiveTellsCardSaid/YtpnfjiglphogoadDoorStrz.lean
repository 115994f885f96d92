/-
  For the laws of archive: a slice that reads as texts. No condition.
-/
import Derived.Test.YtpnfjiglphogoadDoorEach
import Derived.Test.YtpnfjiglphogoadDoorFiles
namespace Go.Proofs.YtpnfjiglphogoadDoor
open Go.RowKit Go.Shelf
set_option linter.unusedSimpArgs false

def Strz (W : World) (v : Value) (xs : List ByteArray) : Prop :=
  ∃ (a : Option Addr) (cap : Nat), v = .slice a xs.length cap ∧ xs.length ≤ cap ∧ xs.length ≤ maxLen ∧ (xs = [] ∨ ∃ b off, a = some ⟨b, off, none⟩ ∧ b < W.heap.size ∧ ∀ j x, xs[j]? = some x → W.cell? ⟨b, off + j, none⟩ = some (.string x))

theorem Strz.below {W W' : World} {v : Value} {xs : List ByteArray} (h : Strz W v xs) (hb : Below W.heap.size W W') : Strz W' v xs := by
  rcases h with ⟨a, cap, rfl, hc, hm, h | ⟨b, off, rfl, hlt, hx⟩⟩
  · exact ⟨a, cap, rfl, hc, hm, .inl h⟩
  · exact ⟨_, cap, rfl, hc, hm, .inr ⟨b, off, rfl, by have := hb.size; omega, fun j x hj => (hb.cell (p := ⟨b, off + j, none⟩) hlt).trans (hx j x hj)⟩⟩

theorem strz_of_owns {W : World} {base : Nat} {v : Value} {xs : List ByteArray} (h : W.ownsRow base 9 1 v xs.length (xs.map Value.string)) : Strz W v xs := by
  have hcell := fun {g} hg => h.cells (g := g) hg
  have hlt := h.lt
  rcases h.2 with ⟨rfl, h0⟩ | ⟨g, cap, cur, rfl, hb, hg, hk, hm, _, _⟩
  · have : xs = [] := List.length_eq_zero_iff.1 h0
    subst this
    exact ⟨none, 0, rfl, Nat.le_refl _, by simp [maxLen], .inl rfl⟩
  · refine ⟨_, cap, rfl, hk, by omega, .inr ⟨g, 0, rfl, (Array.getElem?_eq_some_iff.1 hg).1, fun j x hj => ?_⟩⟩
    have := hcell (g := g) rfl j (.string x) (by simp [hj])
    have e : (⟨g, 0, none⟩ : Addr).add j = ⟨g, 0 + j, none⟩ := by
      by_cases h0 : j = 0 <;> simp [Addr.add, h0]
    rw [← e]; exact this

theorem try_info9 : (Tryd.prog.info? 9).map (fun i => (i.zero, i.size, i.bytes)) = some (some (.string ⟨#[]⟩), 1, 16) := by kernel_rfl

end Go.Proofs.YtpnfjiglphogoadDoor
