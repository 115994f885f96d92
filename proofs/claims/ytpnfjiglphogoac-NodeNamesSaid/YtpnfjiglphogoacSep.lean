/-
  For the laws of node: trees whose rows lie apart; what of a tree that is changed is done, and what is left. No condition.
-/
import Derived.Test.YtpnfjiglphogoacAll
namespace Go.Proofs.Ytpnfjiglphogoac
open Go.RowKit Go.Shelf
set_option linter.unusedSimpArgs false
set_option linter.unusedVariables false

/-- A row of nodes' cells. -/
def Rw (W : World) (b n : Nat) : Prop := ∃ cs, W.heap[b]? = some (.cells cs 24 (0, 0)) ∧ n ≤ cs.size
theorem Rw.lt {W : World} {b n : Nat} (h : Rw W b n) : b < W.heap.size := by obtain ⟨cs, h, -⟩ := h; exact (Array.getElem?_eq_some_iff.1 h).1
theorem Rw.frozen {W : World} {b n : Nat} (h : Rw W b n) (j : Nat) : W.frozen? ⟨b, j, none⟩ = false := by
  obtain ⟨cs, h, -⟩ := h
  simp [World.frozen?, h]
theorem Rw.same {W W' : World} {b n : Nat} (h : Rw W b n) (hb : W'.heap[b]? = W.heap[b]?) : Rw W' b n := by
  obtain ⟨cs, h, hl⟩ := h; exact ⟨cs, hb.trans h, hl⟩
theorem cell_same {W W' : World} {b : Nat} (hb : W'.heap[b]? = W.heap[b]?) (j : Nat) : W'.cell? ⟨b, j, none⟩ = W.cell? ⟨b, j, none⟩ := by
  simp [World.cell?, hb]
/-- As Kids, in rows that lie apart: F is the list of their blocks. -/
def SepK (W : World) : Nat → List Nd → Value → List Nat → Prop
  | 0, ks, v, F => ks = [] ∧ F = [] ∧ ∃ a cap, v = .slice a 0 cap ∧ cap ≤ maxLen
  | d + 1, ks, v, F => (ks = [] ∧ F = [] ∧ ∃ a cap, v = .slice a 0 cap ∧ cap ≤ maxLen) ∨
      ∃ (N cap : Nat) (Fs : List (List Nat)), v = .slice (some ⟨N, 0, none⟩) ks.length cap ∧ ks.length ≤ cap ∧ cap ≤ maxLen ∧ Fs.length = ks.length ∧ F = N :: Fs.flatten ∧ Rw W N (ks.length * 9) ∧
        ∀ (k : Nat) (t : Nd) (Fk : List Nat), ks[k]? = some t → Fs[k]? = some Fk → ∃ kv, Cells W N (k * 9) t.hd kv ∧ SepK W d t.kids kv Fk
theorem SepK.up {W : World} : ∀ {d : Nat} {ks : List Nd} {v : Value} {F : List Nat}, SepK W d ks v F → SepK W (d + 1) ks v F
  | 0, ks, v, F, h => .inl h
  | d + 1, ks, v, F, .inl h => .inl h
  | d + 1, ks, v, F, .inr ⟨N, cap, Fs, e, h1, h2, h3, h4, h5, hx⟩ => .inr ⟨N, cap, Fs, e, h1, h2, h3, h4, h5, fun k t Fk hk hF => by
      obtain ⟨kv, c, hs⟩ := hx k t Fk hk hF
      exact ⟨kv, c, hs.up⟩⟩
theorem SepK.le {W : World} {d e : Nat} {ks : List Nd} {v : Value} {F : List Nat} (h : SepK W d ks v F) (hde : d ≤ e) : SepK W e ks v F := by
  obtain ⟨k, rfl⟩ : ∃ k, e = d + k := ⟨e - d, by omega⟩
  clear hde
  induction k with
  | zero => exact h
  | succ k ih => exact ih.up
def SepAt (W : World) (ks : List Nd) (v : Value) (F : List Nat) : Prop := ∃ d, SepK W d ks v F
theorem SepK.kids {W : World} : ∀ {d : Nat} {ks : List Nd} {v : Value} {F : List Nat}, SepK W d ks v F → KidsAt W ks v
  | 0, ks, v, F, ⟨h, _, a, cap, e, hc⟩ => ⟨0, h, a, cap, e, hc⟩
  | d + 1, ks, v, F, .inl ⟨h, _, a, cap, e, hc⟩ => ⟨0, h, a, cap, e, hc⟩
  | d + 1, ks, v, F, .inr ⟨N, cap, Fs, e, h1, h2, h3, h4, h5, hx⟩ => by
    rw [e]
    refine KidsAt.mk h1 h2 fun k t hk => ?_
    obtain ⟨kv, c, hs⟩ := hx k t _ hk (List.getElem?_eq_getElem (by rw [h3]; exact (List.getElem?_eq_some_iff.1 hk).1))
    exact ⟨N, 0, kv, rfl, by rw [Nat.zero_add]; exact c, hs.kids⟩
theorem SepAt.kids {W : World} {ks : List Nd} {v : Value} {F : List Nat} (h : SepAt W ks v F) : KidsAt W ks v := h.choose_spec.kids
theorem SepK.keep {W W' : World} : ∀ {d : Nat} {ks : List Nd} {v : Value} {F : List Nat}, SepK W d ks v F → (∀ b ∈ F, W'.heap[b]? = W.heap[b]?) → SepK W' d ks v F
  | 0, ks, v, F, h, _ => h
  | d + 1, ks, v, F, .inl h, _ => .inl h
  | d + 1, ks, v, F, .inr ⟨N, cap, Fs, e, h1, h2, h3, h4, h5, hx⟩, hb => .inr ⟨N, cap, Fs, e, h1, h2, h3, h4, h5.same (hb N (by rw [h4]; exact List.mem_cons_self)), fun k t Fk hk hF => by
      obtain ⟨kv, c, hs⟩ := hx k t Fk hk hF
      have hN := hb N (by rw [h4]; exact List.mem_cons_self)
      exact ⟨kv, c.same fun j _ => cell_same hN _, hs.keep fun b hbF => hb b (by
        rw [h4]
        exact List.mem_cons_of_mem _ (List.mem_flatten.2 ⟨Fk, List.mem_of_getElem? hF, hbF⟩))⟩⟩
theorem SepAt.keep {W W' : World} {ks : List Nd} {v : Value} {F : List Nat} (h : SepAt W ks v F) (hb : ∀ b ∈ F, W'.heap[b]? = W.heap[b]?) : SepAt W' ks v F := ⟨h.choose, h.choose_spec.keep hb⟩
theorem SepAt.nil {W : World} {a : Option Addr} {cap : Nat} (h : cap ≤ maxLen) : SepAt W [] (.slice a 0 cap) [] := ⟨0, rfl, rfl, a, cap, rfl, h⟩
theorem SepAt.mk {W : World} {ks : List Nd} {N cap : Nat} {Fs : List (List Nat)} (h1 : ks.length ≤ cap) (h2 : cap ≤ maxLen) (h3 : Fs.length = ks.length) (h5 : Rw W N (ks.length * 9))
    (hx : ∀ (k : Nat) (t : Nd) (Fk : List Nat), ks[k]? = some t → Fs[k]? = some Fk → ∃ kv, Cells W N (k * 9) t.hd kv ∧ SepAt W t.kids kv Fk) : SepAt W ks (.slice (some ⟨N, 0, none⟩) ks.length cap) (N :: Fs.flatten) := by
  obtain ⟨d, hd⟩ := depth_bound (n := ks.length) (fun k d => ∀ t Fk, ks[k]? = some t → Fs[k]? = some Fk → ∃ kv, Cells W N (k * 9) t.hd kv ∧ SepK W d t.kids kv Fk)
    (fun k d e h hde t Fk ht hF => by
      obtain ⟨kv, e2, e3⟩ := h t Fk ht hF
      exact ⟨kv, e2, e3.le hde⟩)
    (fun k hk => by
      obtain ⟨kv, e2, d, e3⟩ := hx k _ _ (List.getElem?_eq_getElem hk) (List.getElem?_eq_getElem (by rw [h3]; exact hk))
      exact ⟨d, fun t Fk ht hF => by
        rw [List.getElem?_eq_getElem hk] at ht
        rw [List.getElem?_eq_getElem (by rw [h3]; exact hk)] at hF
        obtain rfl := Option.some.inj ht
        obtain rfl := Option.some.inj hF
        exact ⟨kv, e2, e3⟩⟩)
  exact ⟨d + 1, .inr ⟨N, cap, Fs, rfl, h1, h2, h3, rfl, h5, fun k t Fk hk hF => hd k (List.getElem?_eq_some_iff.1 hk).1 t Fk hk hF⟩⟩
/-- A node that is still to be changed: where it lies, what it reads as. -/
structure Pt where
  b : Nat
  off : Nat
  t : Nd
  kv : Value
def HoldsP (w W : World) (p : Pt) : Prop := w.heap.size ≤ p.b ∧ Rw W p.b (p.off + 9) ∧ Cells W p.b p.off p.t.hd p.kv ∧ KidsAt w p.t.kids p.kv
def Apart (p q : Pt) : Prop := p.b ≠ q.b ∨ p.off + 9 ≤ q.off ∨ q.off + 9 ≤ p.off
/-- Of what W holds all is kept in W', but the nodes S. -/
def KeepP (w W : World) (S : List Pt) (W' : World) : Prop := ∀ b cs, W.heap[b]? = some (.cells cs 24 (0, 0)) → w.heap.size ≤ b → ∃ cs', W'.heap[b]? = some (.cells cs' 24 (0, 0)) ∧ cs'.size = cs.size ∧ ∀ j, (∀ p ∈ S, p.b = b → j < p.off ∨ p.off + 9 ≤ j) → cs'[j]? = cs[j]?
/-- Once the nodes S are changed, the node at B is. -/
def Wand (f : Hd → Hd) (w W : World) (nb B : Nat) (T : Nd) (S : List Pt) : Prop :=
  ∀ (W' : World) (Fs : List (List Nat)), KeepP w W S W' → Fs.length = S.length → Fs.flatten.Nodup → (∀ N ∈ Fs.flatten, W.heap.size ≤ N) →
    (∀ (i : Nat) (p : Pt) (F : List Nat), S[i]? = some p → Fs[i]? = some F → ∃ kv', Cells W' p.b p.off (f p.t.hd) kv' ∧ SepAt W' (mapL f p.t.kids) kv' F) →
    ∃ F kv', F.Nodup ∧ (∀ N ∈ F, nb ≤ N) ∧ Cells W' B 0 (f T.hd) kv' ∧ SepAt W' (mapL f T.kids) kv' F
theorem Wand.first {f : Hd → Hd} {w W : World} {nb B : Nat} {T : Nd} {kv : Value} (hnb : nb ≤ W.heap.size) : Wand f w W nb B T [⟨B, 0, T, kv⟩] := by
  intro W' Fs _ hl hn hF hx
  match Fs, hl with
  | [F], _ =>
    obtain ⟨kv', c, s⟩ := hx 0 _ F rfl rfl
    rw [List.flatten_cons, List.flatten_nil, List.append_nil] at hn hF
    exact ⟨F, kv', hn, fun N h => Nat.le_trans hnb (hF N h), c, s⟩
theorem KeepP.refl (w W : World) : KeepP w W [] W := fun b cs h _ => ⟨cs, h, rfl, fun _ _ => rfl⟩
theorem Wand.last {f : Hd → Hd} {w W : World} {nb B : Nat} {T : Nd} (h : Wand f w W nb B T []) : ∃ F kv', F.Nodup ∧ (∀ N ∈ F, nb ≤ N) ∧ Cells W B 0 (f T.hd) kv' ∧ SepAt W (mapL f T.kids) kv' F :=
  h W [] (KeepP.refl w W) rfl (by simp) (by simp) (fun i p F hp => by simp at hp)
/-- Where only other rows turn, what is left is left. -/
theorem Wand.grow {f : Hd → Hd} {w W W2 : World} {nb B : Nat} {T : Nd} {S : List Pt} (h : Wand f w W nb B T S) (hs : W.heap.size ≤ W2.heap.size) (hk : ∀ b cs, W.heap[b]? = some (.cells cs 24 (0, 0)) → w.heap.size ≤ b → W2.heap[b]? = some (.cells cs 24 (0, 0))) : Wand f w W2 nb B T S := by
  intro W' Fs h1 h2 h3 h4 h5
  exact h W' Fs (fun b cs hb hw => h1 b cs (hk b cs hb hw) hw) h2 h3 (fun N hN => Nat.le_trans hs (h4 N hN)) h5
theorem HoldsP.grow {w W W2 : World} {p : Pt} (h : HoldsP w W p) (hk : ∀ b cs, W.heap[b]? = some (.cells cs 24 (0, 0)) → w.heap.size ≤ b → W2.heap[b]? = some (.cells cs 24 (0, 0))) : HoldsP w W2 p := by
  obtain ⟨h1, ⟨cs, h2, h2l⟩, h3, h4⟩ := h
  have := hk _ cs h2 h1
  exact ⟨h1, ⟨cs, this, h2l⟩, h3.same fun j _ => cell_same (this.trans h2.symm) _, h4⟩
/-- One node of a row turns. -/
structure Upd (W W' : World) (b o : Nat) : Prop where
  size : W'.heap.size = W.heap.size
  other : ∀ q, q ≠ b → W'.heap[q]? = W.heap[q]?
  row : ∀ cs, W.heap[b]? = some (.cells cs 24 (0, 0)) → ∃ cs', W'.heap[b]? = some (.cells cs' 24 (0, 0)) ∧ cs'.size = cs.size ∧ ∀ j, (j < o ∨ o + 9 ≤ j) → cs'[j]? = cs[j]?
  below : ∀ B, B ≤ b → Below B W W'
theorem Upd.refl (W : World) (b o : Nat) : Upd W W b o := ⟨rfl, fun _ _ => rfl, fun cs h => ⟨cs, h, rfl, fun _ _ => rfl⟩, fun B _ => Below.refl _ _⟩
theorem Upd.trans {W W1 W2 : World} {b o : Nat} (h : Upd W W1 b o) (k : Upd W1 W2 b o) : Upd W W2 b o := by
  refine ⟨k.size.trans h.size, fun q hq => (k.other q hq).trans (h.other q hq), fun cs hc => ?_, fun B hB => (h.below B hB).trans (k.below B hB)⟩
  obtain ⟨c1, e1, s1, j1⟩ := h.row cs hc
  obtain ⟨c2, e2, s2, j2⟩ := k.row c1 e1
  exact ⟨c2, e2, s2.trans s1, fun j hj => (j2 j hj).trans (j1 j hj)⟩
theorem Upd.drew (W : World) (b o : Nat) : Upd W W.drew b o := ⟨rfl, fun _ _ => rfl, fun cs h => ⟨cs, h, rfl, fun _ _ => rfl⟩, fun B _ => below_drew (Below.refl _ _)⟩
theorem Upd.draws (W : World) (b o q : Nat) : Upd W (W.drewN q) b o := ⟨rfl, fun _ _ => rfl, fun cs h => ⟨cs, h, rfl, fun _ _ => rfl⟩, fun B _ => below_draws (Below.refl _ _) q⟩
theorem Upd.set (W : World) (b o i : Nat) (hi : i < 9) (v : Value) : Upd W (W.setCell ⟨b, o + i, none⟩ v) b o := by
  refine ⟨by simp [World.setCell], fun q hq => Below.heap_setCell W _ v q (by simpa using hq), fun cs hc => ?_, fun B hB => (Below.refl B W).setCell (p := ⟨b, o + i, none⟩) hB v⟩
  have h : RowAt W b 24 cs := hc
  refine ⟨_, h.set (o + i) v, by simp, fun j hj => ?_⟩
  rw [Array.getElem?_setIfInBounds]
  rw [if_neg (by omega)]
theorem Upd.cell {W W' : World} {b o : Nat} (h : Upd W W' b o) {n : Nat} (hr : Rw W b n) (j : Nat) (hj : j < o ∨ o + 9 ≤ j) : W'.cell? ⟨b, j, none⟩ = W.cell? ⟨b, j, none⟩ := by
  obtain ⟨cs, hc, -⟩ := hr
  obtain ⟨cs', e, -, hx⟩ := h.row cs hc
  simp [World.cell?, hc, e, hx j hj]
theorem Upd.rw {W W' : World} {b o : Nat} (h : Upd W W' b o) {q n : Nat} (hr : Rw W q n) : Rw W' q n := by
  obtain ⟨cs, hc, hl⟩ := hr
  by_cases e : q = b
  · subst e
    obtain ⟨cs', e, hs, -⟩ := h.row cs hc
    exact ⟨cs', e, by omega⟩
  · exact ⟨cs, (h.other q e).trans hc, hl⟩
end Go.Proofs.Ytpnfjiglphogoac
