/-
  For the laws of tree: a map from paths to files, of the call's own. Condition: keys no longer than any Go string.
-/
import Derived.Maps.OwnOps
import Derived.Maps.OwnSet
import Derived.Test.YtbfehhblnakcbaaPaths
namespace Go.Proofs.Ytbfehhblnakcbaa
open Go.RowKit Go.Shelf Go.Maps Go.WideMaps

def fileElem (v : Value) : Option (DataW Unit × List MemPlace) :=
  match v with
  | .agg cs => match cs.toList with
    | [.string p, .string t] => some (.agg [.lit (.string (tl p)), .lit (.string (tl t))], [])
    | _ => none
  | _ => none
def fd (f : Fl) : DataW Unit := .agg [.lit (.string f.path), .lit (.string f.text)]
def fval (f : Fl) : Value := .agg #[.string (bs f.path), .string (bs f.text)]
theorem fileElem_mk (f : Fl) : fileElem (fval f) = some (fd f, []) := by
  simp [fileElem, fval, fd, tl, bs]
theorem fileElem_inv {v : Value} {f : Fl} {ps : List MemPlace} (h : fileElem v = some (fd f, ps)) : v = fval f := by
  unfold fileElem at h
  split at h
  · rename_i cs
    split at h
    · rename_i p t hcs
      simp only [Option.some.injEq, Prod.mk.injEq, fd] at h
      have h1 := h.1
      simp only [DataW.agg.injEq, List.cons.injEq, DataW.lit.injEq, Lit.string.injEq, and_true] at h1
      have e : cs = #[.string p, .string t] := by rw [← Array.toArray_toList (xs := cs), hcs]
      rw [e, fval, ← h1.1, ← h1.2, bs_tl, bs_tl]
    · cases h
  · cases h
theorem law9 : Keyed Try.prog 9 := string_keyed Try.underlying9
def fl0 : Fl := ⟨[], []⟩
theorem zero43 (W : World) : (zeroValue 43).run Try.prog W = .ok (fval fl0) W := by kernel_rfl
/-- Block b is a map that holds each path's last file of L. -/
def KnowF (W : World) (b : Nat) (L : List Fl) : Prop :=
  ∃ D : DataW Unit, W.ownsMap Try.prog 9 fileElem b L.length D ∧ ∀ q : By, D.atKey (.string q) (fd fl0) = match lastT L q with | some t => fd ⟨q, t⟩ | none => fd fl0
theorem KnowF.made (W : World) : KnowF (W.alloc (.map #[] 0)) W.heap.size [] :=
  ⟨.map [], World.ownsMap_made W Try.prog 9 _, fun _ => rfl⟩
theorem KnowF.lt {W : World} {b : Nat} {L : List Fl} (h : KnowF W b L) : b < W.heap.size := by
  obtain ⟨D, h, _⟩ := h
  exact h.lt
theorem KnowF.same {W W' : World} {b : Nat} {L : List Fl} (h : KnowF W b L) (hb : W'.heap[b]? = W.heap[b]?) : KnowF W' b L := by
  obtain ⟨D, ⟨es, cl, h1, h2⟩, hk⟩ := h
  exact ⟨D, ⟨es, cl, hb.trans h1, h2⟩, hk⟩
theorem KnowF.look {W : World} {b : Nat} {L : List Fl} (h : KnowF W b L) (q : By) (hs : q.length ≤ maxLen) {t : By} (hl : lastT L q = some t) :
    (Instr.lookup 47 (.map (some b)) (.string (bs q)) false).run Try.prog W = .ok (fval ⟨q, t⟩) W := by
  obtain ⟨D, hD, hk⟩ := h
  obtain ⟨v, ps, hrun, hv⟩ := hD.lookup law9 Try.underlying47 (zero43 W) (fileElem_mk fl0) (keyOf_string_mk (k := 9) Try.underlying9 (s := bs q) (by rw [bs_size]; exact hs))
  have h2 := hk q
  rw [hl] at h2
  rw [show (bs q).data.toList = q from tl_bs q, h2] at hv
  rw [hrun, fileElem_inv hv]
theorem KnowF.put {W : World} {b : Nat} {L : List Fl} (h : KnowF W b L) (f : Fl) (hs : f.path.length ≤ maxLen) (hl : L.length < 1000000000000) :
    ∃ W', (Instr.mapUpdate 47 (.map (some b)) (.string (bs f.path)) (fval f)).run Try.prog W = .ok () W' ∧ KnowF W' b (L ++ [f]) ∧ W.grownBy W' (some b) := by
  obtain ⟨D, hD, hk⟩ := h
  have hkey := keyOf_string_mk (k := 9) (P := Try.prog) Try.underlying9 (s := bs f.path) (by rw [bs_size]; exact hs)
  rw [show (bs f.path).data.toList = f.path from tl_bs _] at hkey
  obtain ⟨W', hrun, hown, hg⟩ := hD.update law9 Try.underlying47 (by unfold maxLen; omega) hkey (fileElem_mk f)
  refine ⟨W', hrun, ⟨_, by rw [List.length_append]; exact hown, fun q => ?_⟩, hg⟩
  have e1 : L ++ [f] = L ++ [⟨f.path, f.text⟩] := rfl
  rw [e1, lastT_snoc]
  by_cases e : f.path = q
  · subst e
    rw [atKey_put_same hD.isMap (law9.key hkey), if_pos rfl]
  · rw [atKey_put_other (by intro h; injection h with h; exact e h.symm), if_neg e, hk q]
end Go.Proofs.Ytbfehhblnakcbaa
