/-
  For the laws of node: values that read as trees. No condition.
-/
import Derived.Test.YtbnbmjdjkadgoaaDoorBase
import Derived.Test.YtbnbmjdjkadgoaaDoorNd
namespace Go.Proofs.YtbnbmjdjkadgoaaDoor
open Go.RowKit Go.Shelf
set_option linter.unusedSimpArgs false
set_option linter.unusedVariables false

/-- A node's cells: what it says of itself, and its kids' slice. -/
def Hd.vals (h : Hd) (kv : Value) : Array Value := #[.int .i64 h.kind, .string (bs h.text), .string (bs h.type), .int .i64 h.n, .int .i64 h.fr, .int .i64 h.to_, .int .i64 h.at_, .int .i64 h.tat, kv]
/-- The nine cells from o on, in block b. -/
structure Cells (W : World) (b o : Nat) (h : Hd) (kv : Value) : Prop where
  c0 : W.cell? ⟨b, o, none⟩ = some (.int .i64 h.kind)
  c1 : W.cell? ⟨b, o + 1, none⟩ = some (.string (bs h.text))
  c2 : W.cell? ⟨b, o + 2, none⟩ = some (.string (bs h.type))
  c3 : W.cell? ⟨b, o + 3, none⟩ = some (.int .i64 h.n)
  c4 : W.cell? ⟨b, o + 4, none⟩ = some (.int .i64 h.fr)
  c5 : W.cell? ⟨b, o + 5, none⟩ = some (.int .i64 h.to_)
  c6 : W.cell? ⟨b, o + 6, none⟩ = some (.int .i64 h.at_)
  c7 : W.cell? ⟨b, o + 7, none⟩ = some (.int .i64 h.tat)
  c8 : W.cell? ⟨b, o + 8, none⟩ = some kv
theorem Cells.same {W W' : World} {b o : Nat} {h : Hd} {kv : Value} (c : Cells W b o h kv) (hs : ∀ j, j < 9 → W'.cell? ⟨b, o + j, none⟩ = W.cell? ⟨b, o + j, none⟩) : Cells W' b o h kv :=
  ⟨(hs 0 (by omega)).trans c.c0, (hs 1 (by omega)).trans c.c1, (hs 2 (by omega)).trans c.c2, (hs 3 (by omega)).trans c.c3, (hs 4 (by omega)).trans c.c4, (hs 5 (by omega)).trans c.c5, (hs 6 (by omega)).trans c.c6, (hs 7 (by omega)).trans c.c7, (hs 8 (by omega)).trans c.c8⟩
theorem Cells.lt {W : World} {b o : Nat} {h : Hd} {kv : Value} (c : Cells W b o h kv) : b < W.heap.size := World.block_lt_of_cell? W _ c.c0
theorem Cells.below {W W' : World} {b o : Nat} {h : Hd} {kv : Value} (c : Cells W b o h kv) {B : Nat} (hB : b < B) (hb : Below B W W') : Cells W' b o h kv :=
  c.same fun j _ => hb.cell (p := ⟨b, o + j, none⟩) hB
theorem Cells.later {W W' : World} {b o : Nat} {h : Hd} {kv : Value} (c : Cells W b o h kv) (hb : Below W.heap.size W W') : Cells W' b o h kv := c.below c.lt hb
theorem Cells.row {W : World} {b : Nat} {h : Hd} {kv : Value} {t : TypeId} (r : RowAt W b t (h.vals kv)) : Cells W b 0 h kv :=
  ⟨r.cell (j := 0) rfl, r.cell (j := 1) rfl, r.cell (j := 2) rfl, r.cell (j := 3) rfl, r.cell (j := 4) rfl, r.cell (j := 5) rfl, r.cell (j := 6) rfl, r.cell (j := 7) rfl, r.cell (j := 8) rfl⟩
/-- The value v is a slice that reads as the nodes ks, of depth at most d. -/
def Kids (W : World) : Nat → List Nd → Value → Prop
  | 0, ks, v => ks = [] ∧ ∃ a cap, v = .slice a 0 cap ∧ cap ≤ maxLen
  | d + 1, ks, v => ∃ (a : Option Addr) (cap : Nat), v = .slice a ks.length cap ∧ ks.length ≤ cap ∧ cap ≤ maxLen ∧
      ∀ (k : Nat) (t : Nd), ks[k]? = some t → ∃ b off kv, a = some ⟨b, off, none⟩ ∧ Cells W b (off + k * 9) t.hd kv ∧ Kids W d t.kids kv
theorem Kids.up {W : World} : ∀ {d : Nat} {ks : List Nd} {v : Value}, Kids W d ks v → Kids W (d + 1) ks v
  | 0, ks, v, ⟨h, a, cap, e, hc⟩ => ⟨a, cap, by rw [h]; exact e, by rw [h]; exact Nat.zero_le _, hc, fun k t hk => by rw [h] at hk; simp at hk⟩
  | d + 1, ks, v, ⟨a, cap, e, h1, h2, hx⟩ => ⟨a, cap, e, h1, h2, fun k t hk => by
      obtain ⟨b, off, kv, ea, c, hk2⟩ := hx k t hk
      exact ⟨b, off, kv, ea, c, hk2.up⟩⟩
theorem Kids.le {W : World} {d e : Nat} {ks : List Nd} {v : Value} (h : Kids W d ks v) (hde : d ≤ e) : Kids W e ks v := by
  obtain ⟨k, rfl⟩ : ∃ k, e = d + k := ⟨e - d, by omega⟩
  clear hde
  induction k with
  | zero => exact h
  | succ k ih => exact ih.up
/-- Whatever its depth. -/
def KidsAt (W : World) (ks : List Nd) (v : Value) : Prop := ∃ d, Kids W d ks v
theorem KidsAt.get {W : World} {ks : List Nd} {v : Value} (h : KidsAt W ks v) : ∃ (a : Option Addr) (cap : Nat), v = .slice a ks.length cap ∧ ks.length ≤ cap ∧ cap ≤ maxLen ∧
      ∀ (k : Nat) (t : Nd), ks[k]? = some t → ∃ b off kv, a = some ⟨b, off, none⟩ ∧ Cells W b (off + k * 9) t.hd kv ∧ KidsAt W t.kids kv := by
  obtain ⟨d, h⟩ := h
  obtain ⟨a, cap, e, h1, h2, hx⟩ := h.up
  exact ⟨a, cap, e, h1, h2, fun k t hk => by
    obtain ⟨b, off, kv, ea, c, hk2⟩ := hx k t hk
    exact ⟨b, off, kv, ea, c, d, hk2⟩⟩
/-- A bound for a row of depths. -/
theorem depth_bound {n : Nat} (P : Nat → Nat → Prop) (hup : ∀ k d e, P k d → d ≤ e → P k e) (h : ∀ k, k < n → ∃ d, P k d) : ∃ d, ∀ k, k < n → P k d := by
  induction n with
  | zero => exact ⟨0, fun k hk => by omega⟩
  | succ n ih =>
    obtain ⟨d, hd⟩ := ih (fun k hk => h k (by omega))
    obtain ⟨e, he⟩ := h n (by omega)
    refine ⟨max d e, fun k hk => ?_⟩
    by_cases hkn : k = n
    · rw [hkn]; exact hup _ _ _ he (by omega)
    · exact hup _ _ _ (hd k (by omega)) (by omega)
theorem KidsAt.mk {W : World} {ks : List Nd} {a : Option Addr} {cap : Nat} (h1 : ks.length ≤ cap) (h2 : cap ≤ maxLen)
    (hx : ∀ (k : Nat) (t : Nd), ks[k]? = some t → ∃ b off kv, a = some ⟨b, off, none⟩ ∧ Cells W b (off + k * 9) t.hd kv ∧ KidsAt W t.kids kv) : KidsAt W ks (.slice a ks.length cap) := by
  obtain ⟨d, hd⟩ := depth_bound (n := ks.length) (fun k d => ∀ t, ks[k]? = some t → ∃ b off kv, a = some ⟨b, off, none⟩ ∧ Cells W b (off + k * 9) t.hd kv ∧ Kids W d t.kids kv)
    (fun k d e h hde t ht => by
      obtain ⟨b, off, kv, e1, e2, e3⟩ := h t ht
      exact ⟨b, off, kv, e1, e2, e3.le hde⟩)
    (fun k hk => by
      obtain ⟨b, off, kv, e1, e2, d, e3⟩ := hx k _ (List.getElem?_eq_getElem hk)
      exact ⟨d, fun t ht => by
        rw [List.getElem?_eq_getElem hk] at ht
        obtain rfl := Option.some.inj ht
        exact ⟨b, off, kv, e1, e2, e3⟩⟩)
  exact ⟨d + 1, a, cap, rfl, h1, h2, fun k t hk => hd k (List.getElem?_eq_some_iff.1 hk).1 t hk⟩
theorem KidsAt.nil (W : World) : KidsAt W [] (.slice none 0 0) := ⟨0, rfl, none, 0, rfl, Nat.zero_le _⟩
theorem Kids.below {W W' : World} (hb : Below W.heap.size W W') : ∀ {d : Nat} {ks : List Nd} {v : Value}, Kids W d ks v → Kids W' d ks v
  | 0, ks, v, h => h
  | d + 1, ks, v, ⟨a, cap, e, h1, h2, hx⟩ => ⟨a, cap, e, h1, h2, fun k t hk => by
      obtain ⟨b, off, kv, ea, c, hk2⟩ := hx k t hk
      exact ⟨b, off, kv, ea, c.later hb, hk2.below hb⟩⟩
theorem KidsAt.below {W W' : World} {ks : List Nd} {v : Value} (h : KidsAt W ks v) (hb : Below W.heap.size W W') : KidsAt W' ks v := ⟨h.choose, h.choose_spec.below hb⟩
theorem infoNode : (Tryd.prog.info? 55).map (fun i => (i.zero, i.size, i.bytes)) = some (some (.agg #[.int .i64 0, .string ⟨#[]⟩, .string ⟨#[]⟩, .int .i64 0, .int .i64 0, .int .i64 0, .int .i64 0, .int .i64 0, .slice none 0 0]), 9, 104) := by kernel_rfl
end Go.Proofs.YtbnbmjdjkadgoaaDoor
