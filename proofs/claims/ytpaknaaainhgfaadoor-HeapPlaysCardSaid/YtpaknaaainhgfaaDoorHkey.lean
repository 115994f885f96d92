/-
  For the laws of heap: the map of a heap, keyed by places: what its keys read as, and how its values do. No condition.
-/
import Derived.Test.YtpaknaaainhgfaaDoorHplain
import Derived.OwnWalk
import Derived.Laws.AppendOwn
import Derived.DeepKeys4
namespace Go.Proofs.YtpaknaaainhgfaaDoor
open Go.RowKit Go.Maps Go.WideMaps

theorem laidOutP : laidOutB Tryd.prog = true := by kernel_rfl
theorem row87 : (87 : TypeId) < Tryd.prog.types.size := of_decide_eq_true (by kernel_rfl)
theorem key87 : Tryd.prog.keyTypeAt 3 87 = true := by kernel_rfl
theorem wide87 : (match Tryd.prog.underlying 87 with | some (.array _ _) | some (.struct _) => true | _ => false) = true := by rw [Tryd.underlying87]
set_option maxRecDepth 100000 in
theorem law87 : Keyed Tryd.prog 87 := Keyed.of_law (deep_law_laid laidOutP (m := 3) (by omega) row87 key87 wide87)
theorem keyt87 : Tryd.prog.keyType 87 = true := by kernel_rfl
theorem cells87 : Tryd.prog.cellsOf 87 = 2 := by kernel_rfl
theorem cells2' : Tryd.prog.cellsOf 2 = 1 := by kernel_rfl
theorem cells9' : Tryd.prog.cellsOf 9 = 1 := by kernel_rfl

abbrev plc (o : Int) (id : ByteArray) : Value := .agg #[.int .i64 o, .string id]
theorem formed87 (o : Int) (id : ByteArray) : (plc o id).formed Tryd.prog 87 = true := by simp [Value.formed, Tryd.underlying87, cells87]
theorem key_plc (o : Int) (id : ByteArray) (ho : (Lit.int .i64 o).wf = true) (hid : id.size ≤ maxLen) : ∃ kl, keyOf Tryd.prog 87 (plc o id) = some kl := by
  have h2 : ∀ d, Tryd.prog.keyLits (d + 1) 2 [.int .i64 o] = some [.int .i64 o] := fun d => by simp [Program.keyLits, Tryd.underlying2, ho]
  have h9 : ∀ d, Tryd.prog.keyLits (d + 1) 9 [.string id] = some [.string id.data.toList] := fun d => by simp [Program.keyLits, Tryd.underlying9, hid]
  have hh : Tryd.prog.keyLits (Tryd.prog.types.size + 1) 87 [.int .i64 o, .string id] = some [.int .i64 o, .string id.data.toList] := by
    obtain ⟨n, hn⟩ : ∃ n, Tryd.prog.types.size = n + 1 := Nat.exists_eq_succ_of_ne_zero (fun h => by
      have h1 : (87 : Nat) < Tryd.prog.types.size := row87
      rw [h] at h1
      exact absurd h1 (Nat.not_lt_zero _))
    rw [hn]
    unfold Program.keyLits
    simp [Tryd.underlying87, cells87, cells2', cells9', h2, h9]
  have hf := formed87 o id
  unfold keyOf
  simp only [Tryd.underlying87, keyt87, hf]
  exact ⟨.string (keyBytes [.int .i64 o, .string id.data.toList]), by
    show ((Tryd.prog.keyLits (Tryd.prog.types.size + 1) 87 [.int .i64 o, .string id]).map fun ls => Lit.string (keyBytes ls)) = _
    rw [hh]; rfl⟩
theorem key_inj {o o' : Int} {id id' : ByteArray} {kl : Lit} (h : keyOf Tryd.prog 87 (plc o id) = some kl) (h' : keyOf Tryd.prog 87 (plc o' id') = some kl) : o = o' ∧ id = id' := by
  have := law87.inj h h'
  simpa [plc] using this

/-- How a value in the map reads. -/
abbrev dat (k n : Int) : DataW Unit := .agg [.lit (.int .i64 k), .lit (.int .i64 n)]
def valR : Value → Option (DataW Unit × List MemPlace)
  | .agg a => match a.toList with
    | [.int .i64 k, .int .i64 n] => some (dat k n, [])
    | _ => some (.nil, [])
  | _ => some (.nil, [])
theorem valR_mk (k n : Int) : valR (val2 k n) = some (dat k n, []) := rfl
theorem valR_inv {v : Value} {k n : Int} {ps : List MemPlace} (h : valR v = some (dat k n, ps)) : v = val2 k n := by
  unfold valR at h
  split at h
  · rename_i a
    split at h
    · rename_i k' n' hl
      simp [dat] at h
      obtain ⟨⟨rfl, rfl⟩, _⟩ := h
      rw [show a = #[.int .i64 k', .int .i64 n'] from Array.toList_inj.1 hl]
    · simp [dat] at h
  · simp [dat] at h

/-- What is stored: by an object's number, and a field's id. -/
abbrev Store := Int → ByteArray → Option (Int × Int)
def Store.set (f : Store) (o : Int) (id : ByteArray) (x : Int × Int) : Store := fun o' id' => if o' = o ∧ id' = id then some x else f o' id'

/-- Block b is a map that holds f. -/
def MapHas (W : World) (b m : Nat) (f : Store) : Prop := ∃ D : DataW Unit, W.ownsMap Tryd.prog 87 valR b m D ∧
  ∀ o id kl, keyOf Tryd.prog 87 (plc o id) = some kl → Maps.has D kl = (f o id).isSome ∧ D.atKey kl (dat 0 0) = dat ((f o id).getD (0, 0)).1 ((f o id).getD (0, 0)).2

theorem MapHas.made (W : World) : MapHas (W.alloc (.map #[] 0)) W.heap.size 0 (fun _ _ => none) :=
  ⟨.map [], World.ownsMap_made W Tryd.prog 87 valR, fun _ _ _ _ => ⟨rfl, rfl⟩⟩
theorem zero44 (W : World) : (zeroValue 44).run Tryd.prog W = .ok (val2 0 0) W := by kernel_rfl
theorem MapHas.look {W : World} {b m : Nat} {f : Store} (h : MapHas W b m f) (o : Int) (id : ByteArray) (ho : (Lit.int .i64 o).wf = true) (hid : id.size ≤ maxLen) :
    (Instr.lookup 83 (.map (some b)) (plc o id) true).run Tryd.prog W = .ok (.tuple #[val2 ((f o id).getD (0, 0)).1 ((f o id).getD (0, 0)).2, .bool (f o id).isSome]) W := by
  obtain ⟨D, hD, hk⟩ := h
  obtain ⟨kl, hkl⟩ := key_plc o id ho hid
  obtain ⟨h1, h2⟩ := hk o id kl hkl
  obtain ⟨v, ps, hrun, hv⟩ := hD.look_ok law87 Tryd.underlying83 (zero44 W) (valR_mk 0 0) hkl
  rw [h2] at hv
  rw [hrun, h1, valR_inv hv]
theorem look_none (W : World) (o : Int) (id : ByteArray) (ho : (Lit.int .i64 o).wf = true) (hid : id.size ≤ maxLen) :
    (Instr.lookup 83 (.map none) (plc o id) true).run Tryd.prog W = .ok (.tuple #[val2 0 0, .bool false]) W := by
  obtain ⟨kl, hkl⟩ := key_plc o id ho hid
  exact Maps.look_nil true law87 Tryd.underlying83 (zero44 W) hkl
theorem MapHas.put {W' : World} {b m : Nat} {f : Store} {D : DataW Unit} {o : Int} {id : ByteArray} {kl : Lit} (hkl : keyOf Tryd.prog 87 (plc o id) = some kl) (k n : Int)
    (hm : Maps.IsMap D) (hk : ∀ o id kl, keyOf Tryd.prog 87 (plc o id) = some kl → Maps.has D kl = (f o id).isSome ∧ D.atKey kl (dat 0 0) = dat ((f o id).getD (0, 0)).1 ((f o id).getD (0, 0)).2)
    (h' : W'.ownsMap Tryd.prog 87 valR b (m + 1) (D.put kl (dat k n))) : MapHas W' b (m + 1) (f.set o id (k, n)) := by
  refine ⟨_, h', fun o' id' kl' hkl' => ?_⟩
  by_cases he : kl' = kl
  · subst he
    obtain ⟨rfl, rfl⟩ := key_inj hkl hkl'
    rw [Maps.has_put_same hm (law87.key hkl), Maps.atKey_put_same hm (law87.key hkl)]
    simp [Store.set]
  · have hne : ¬ (o' = o ∧ id' = id) := by
      rintro ⟨rfl, rfl⟩
      rw [hkl] at hkl'
      exact he (Option.some.inj hkl').symm
    rw [Maps.has_put_other he, Maps.atKey_put_other he]
    unfold Store.set
    rw [if_neg hne]
    exact hk o' id' kl' hkl'
end Go.Proofs.YtpaknaaainhgfaaDoor
