/-
  For the laws of node: trees whose rows lie apart; what of a tree that is changed is done, and what is left. No condition.
-/
import Derived.Test.YtbnbmjdjkadgoaaAll
import Derived.Test.YtbnbmjdjkadgoaaCnt
import Derived.Deep.Cut
namespace Go.Proofs.Ytbnbmjdjkadgoaa.K
open Go.RowKit Go.Shelf
set_option linter.unusedSimpArgs false
set_option linter.unusedVariables false

/-- A row of nodes' cells. -/
def Rw (W : World) (b n : Nat) : Prop := ∃ cs, W.heap[b]? = some (.cells cs 44 (0, 0)) ∧ n ≤ cs.size
theorem Rw.lt {W : World} {b n : Nat} (h : Rw W b n) : b < W.heap.size := by obtain ⟨cs, h, -⟩ := h; exact (Array.getElem?_eq_some_iff.1 h).1
theorem Rw.frozen {W : World} {b n : Nat} (h : Rw W b n) (j : Nat) : W.frozen? ⟨b, j, none⟩ = false := by
  obtain ⟨cs, h, -⟩ := h
  simp [World.frozen?, h]
theorem Rw.same {W W' : World} {b n : Nat} (h : Rw W b n) (hb : W'.heap[b]? = W.heap[b]?) : Rw W' b n := by
  obtain ⟨cs, h, hl⟩ := h; exact ⟨cs, hb.trans h, hl⟩
theorem cell_same {W W' : World} {b : Nat} (hb : W'.heap[b]? = W.heap[b]?) (j : Nat) : W'.cell? ⟨b, j, none⟩ = W.cell? ⟨b, j, none⟩ := by
  simp [World.cell?, hb]
/-- As Kids, in rows that lie apart: F is the list of their blocks. -/
def SepK (W : World) : Nat → List Nd → Value → List Nat → Prop
  | 0, ks, v, F => ks = [] ∧ F = [] ∧ ∃ a cap, v = .slice a 0 cap ∧ cap ≤ maxLen
  | d + 1, ks, v, F => (ks = [] ∧ F = [] ∧ ∃ a cap, v = .slice a 0 cap ∧ cap ≤ maxLen) ∨
      ∃ (N cap : Nat) (Fs : List (List Nat)), v = .slice (some ⟨N, 0, none⟩) ks.length cap ∧ ks.length ≤ cap ∧ cap ≤ maxLen ∧ Fs.length = ks.length ∧ F = N :: Fs.flatten ∧ Rw W N (ks.length * 9) ∧
        ∀ (k : Nat) (t : Nd) (Fk : List Nat), ks[k]? = some t → Fs[k]? = some Fk → ∃ kv, Cells W N (k * 9) t.hd kv ∧ SepK W d t.kids kv Fk
theorem SepK.up {W : World} : ∀ {d : Nat} {ks : List Nd} {v : Value} {F : List Nat}, SepK W d ks v F → SepK W (d + 1) ks v F
  | 0, ks, v, F, h => .inl h
  | d + 1, ks, v, F, .inl h => .inl h
  | d + 1, ks, v, F, .inr ⟨N, cap, Fs, e, h1, h2, h3, h4, h5, hx⟩ => .inr ⟨N, cap, Fs, e, h1, h2, h3, h4, h5, fun k t Fk hk hF => by
      obtain ⟨kv, c, hs⟩ := hx k t Fk hk hF
      exact ⟨kv, c, hs.up⟩⟩
theorem SepK.le {W : World} {d e : Nat} {ks : List Nd} {v : Value} {F : List Nat} (h : SepK W d ks v F) (hde : d ≤ e) : SepK W e ks v F := by
  obtain ⟨k, rfl⟩ : ∃ k, e = d + k := ⟨e - d, by omega⟩
  clear hde
  induction k with
  | zero => exact h
  | succ k ih => exact ih.up
def SepAt (W : World) (ks : List Nd) (v : Value) (F : List Nat) : Prop := ∃ d, SepK W d ks v F
theorem SepK.kids {W : World} : ∀ {d : Nat} {ks : List Nd} {v : Value} {F : List Nat}, SepK W d ks v F → KidsAt W ks v
  | 0, ks, v, F, ⟨h, _, a, cap, e, hc⟩ => ⟨0, h, a, cap, e, hc⟩
  | d + 1, ks, v, F, .inl ⟨h, _, a, cap, e, hc⟩ => ⟨0, h, a, cap, e, hc⟩
  | d + 1, ks, v, F, .inr ⟨N, cap, Fs, e, h1, h2, h3, h4, h5, hx⟩ => by
    rw [e]
    refine KidsAt.mk h1 h2 fun k t hk => ?_
    obtain ⟨kv, c, hs⟩ := hx k t _ hk (List.getElem?_eq_getElem (by rw [h3]; exact (List.getElem?_eq_some_iff.1 hk).1))
    exact ⟨N, 0, kv, rfl, by rw [Nat.zero_add]; exact c, hs.kids⟩
theorem SepAt.kids {W : World} {ks : List Nd} {v : Value} {F : List Nat} (h : SepAt W ks v F) : KidsAt W ks v := h.choose_spec.kids
theorem SepK.keep {W W' : World} : ∀ {d : Nat} {ks : List Nd} {v : Value} {F : List Nat}, SepK W d ks v F → (∀ b ∈ F, W'.heap[b]? = W.heap[b]?) → SepK W' d ks v F
  | 0, ks, v, F, h, _ => h
  | d + 1, ks, v, F, .inl h, _ => .inl h
  | d + 1, ks, v, F, .inr ⟨N, cap, Fs, e, h1, h2, h3, h4, h5, hx⟩, hb => .inr ⟨N, cap, Fs, e, h1, h2, h3, h4, h5.same (hb N (by rw [h4]; exact List.mem_cons_self)), fun k t Fk hk hF => by
      obtain ⟨kv, c, hs⟩ := hx k t Fk hk hF
      have hN := hb N (by rw [h4]; exact List.mem_cons_self)
      exact ⟨kv, c.same fun j _ => cell_same hN _, hs.keep fun b hbF => hb b (by
        rw [h4]
        exact List.mem_cons_of_mem _ (List.mem_flatten.2 ⟨Fk, List.mem_of_getElem? hF, hbF⟩))⟩⟩
theorem SepAt.keep {W W' : World} {ks : List Nd} {v : Value} {F : List Nat} (h : SepAt W ks v F) (hb : ∀ b ∈ F, W'.heap[b]? = W.heap[b]?) : SepAt W' ks v F := ⟨h.choose, h.choose_spec.keep hb⟩
theorem SepAt.nil {W : World} {a : Option Addr} {cap : Nat} (h : cap ≤ maxLen) : SepAt W [] (.slice a 0 cap) [] := ⟨0, rfl, rfl, a, cap, rfl, h⟩
theorem SepAt.mk {W : World} {ks : List Nd} {N cap : Nat} {Fs : List (List Nat)} (h1 : ks.length ≤ cap) (h2 : cap ≤ maxLen) (h3 : Fs.length = ks.length) (h5 : Rw W N (ks.length * 9))
    (hx : ∀ (k : Nat) (t : Nd) (Fk : List Nat), ks[k]? = some t → Fs[k]? = some Fk → ∃ kv, Cells W N (k * 9) t.hd kv ∧ SepAt W t.kids kv Fk) : SepAt W ks (.slice (some ⟨N, 0, none⟩) ks.length cap) (N :: Fs.flatten) := by
  obtain ⟨d, hd⟩ := depth_bound (n := ks.length) (fun k d => ∀ t Fk, ks[k]? = some t → Fs[k]? = some Fk → ∃ kv, Cells W N (k * 9) t.hd kv ∧ SepK W d t.kids kv Fk)
    (fun k d e h hde t Fk ht hF => by
      obtain ⟨kv, e2, e3⟩ := h t Fk ht hF
      exact ⟨kv, e2, e3.le hde⟩)
    (fun k hk => by
      obtain ⟨kv, e2, d, e3⟩ := hx k _ _ (List.getElem?_eq_getElem hk) (List.getElem?_eq_getElem (by rw [h3]; exact hk))
      exact ⟨d, fun t Fk ht hF => by
        rw [List.getElem?_eq_getElem hk] at ht
        rw [List.getElem?_eq_getElem (by rw [h3]; exact hk)] at hF
        obtain rfl := Option.some.inj ht
        obtain rfl := Option.some.inj hF
        exact ⟨kv, e2, e3⟩⟩)
  exact ⟨d + 1, .inr ⟨N, cap, Fs, rfl, h1, h2, h3, rfl, h5, fun k t Fk hk hF => hd k (List.getElem?_eq_some_iff.1 hk).1 t Fk hk hF⟩⟩
/-- A node that is still to be changed: where it lies, what it reads as. -/
structure Pt where
  b : Nat
  off : Nat
  t : Nd
  kv : Value
def HoldsP (w W : World) (p : Pt) : Prop := w.heap.size ≤ p.b ∧ Rw W p.b (p.off + 9) ∧ Cells W p.b p.off p.t.hd p.kv ∧ KidsAt w p.t.kids p.kv
def Apart (p q : Pt) : Prop := p.b ≠ q.b ∨ p.off + 9 ≤ q.off ∨ q.off + 9 ≤ p.off
/-- Of what W holds all is kept in W', but the nodes S. -/
def KeepP (w W : World) (S : List Pt) (W' : World) : Prop := ∀ b cs, W.heap[b]? = some (.cells cs 44 (0, 0)) → w.heap.size ≤ b → ∃ cs', W'.heap[b]? = some (.cells cs' 44 (0, 0)) ∧ cs'.size = cs.size ∧ ∀ j, (∀ p ∈ S, p.b = b → j < p.off ∨ p.off + 9 ≤ j) → cs'[j]? = cs[j]?
/-- Once the nodes S are changed, the node at B is. -/
def Wand (f : Hd → Hd) (w W : World) (nb B : Nat) (T : Nd) (S : List Pt) : Prop :=
  ∀ (W' : World) (Fs : List (List Nat)), KeepP w W S W' → Fs.length = S.length → Fs.flatten.Nodup → (∀ N ∈ Fs.flatten, W.heap.size ≤ N) →
    (∀ (i : Nat) (p : Pt) (F : List Nat), S[i]? = some p → Fs[i]? = some F → ∃ kv', Cells W' p.b p.off (f p.t.hd) kv' ∧ SepAt W' (mapL f p.t.kids) kv' F) →
    ∃ F kv', F.Nodup ∧ (∀ N ∈ F, nb ≤ N) ∧ Cells W' B 0 (f T.hd) kv' ∧ SepAt W' (mapL f T.kids) kv' F
theorem Wand.first {f : Hd → Hd} {w W : World} {nb B : Nat} {T : Nd} {kv : Value} (hnb : nb ≤ W.heap.size) : Wand f w W nb B T [⟨B, 0, T, kv⟩] := by
  intro W' Fs _ hl hn hF hx
  match Fs, hl with
  | [F], _ =>
    obtain ⟨kv', c, s⟩ := hx 0 _ F rfl rfl
    rw [List.flatten_cons, List.flatten_nil, List.append_nil] at hn hF
    exact ⟨F, kv', hn, fun N h => Nat.le_trans hnb (hF N h), c, s⟩
theorem KeepP.refl (w W : World) : KeepP w W [] W := fun b cs h _ => ⟨cs, h, rfl, fun _ _ => rfl⟩
theorem Wand.last {f : Hd → Hd} {w W : World} {nb B : Nat} {T : Nd} (h : Wand f w W nb B T []) : ∃ F kv', F.Nodup ∧ (∀ N ∈ F, nb ≤ N) ∧ Cells W B 0 (f T.hd) kv' ∧ SepAt W (mapL f T.kids) kv' F :=
  h W [] (KeepP.refl w W) rfl (by simp) (by simp) (fun i p F hp => by simp at hp)
/-- Where only other rows turn, what is left is left. -/
theorem Wand.grow {f : Hd → Hd} {w W W2 : World} {nb B : Nat} {T : Nd} {S : List Pt} (h : Wand f w W nb B T S) (hs : W.heap.size ≤ W2.heap.size) (hk : ∀ b cs, W.heap[b]? = some (.cells cs 44 (0, 0)) → w.heap.size ≤ b → W2.heap[b]? = some (.cells cs 44 (0, 0))) : Wand f w W2 nb B T S := by
  intro W' Fs h1 h2 h3 h4 h5
  exact h W' Fs (fun b cs hb hw => h1 b cs (hk b cs hb hw) hw) h2 h3 (fun N hN => Nat.le_trans hs (h4 N hN)) h5
theorem HoldsP.grow {w W W2 : World} {p : Pt} (h : HoldsP w W p) (hk : ∀ b cs, W.heap[b]? = some (.cells cs 44 (0, 0)) → w.heap.size ≤ b → W2.heap[b]? = some (.cells cs 44 (0, 0))) : HoldsP w W2 p := by
  obtain ⟨h1, ⟨cs, h2, h2l⟩, h3, h4⟩ := h
  have := hk _ cs h2 h1
  exact ⟨h1, ⟨cs, this, h2l⟩, h3.same fun j _ => cell_same (this.trans h2.symm) _, h4⟩
/-- One node of a row turns. -/
structure Upd (W W' : World) (b o : Nat) : Prop where
  size : W'.heap.size = W.heap.size
  other : ∀ q, q ≠ b → W'.heap[q]? = W.heap[q]?
  row : ∀ cs, W.heap[b]? = some (.cells cs 44 (0, 0)) → ∃ cs', W'.heap[b]? = some (.cells cs' 44 (0, 0)) ∧ cs'.size = cs.size ∧ ∀ j, (j < o ∨ o + 9 ≤ j) → cs'[j]? = cs[j]?
  below : ∀ B, B ≤ b → Below B W W'
theorem Upd.refl (W : World) (b o : Nat) : Upd W W b o := ⟨rfl, fun _ _ => rfl, fun cs h => ⟨cs, h, rfl, fun _ _ => rfl⟩, fun B _ => Below.refl _ _⟩
theorem Upd.trans {W W1 W2 : World} {b o : Nat} (h : Upd W W1 b o) (k : Upd W1 W2 b o) : Upd W W2 b o := by
  refine ⟨k.size.trans h.size, fun q hq => (k.other q hq).trans (h.other q hq), fun cs hc => ?_, fun B hB => (h.below B hB).trans (k.below B hB)⟩
  obtain ⟨c1, e1, s1, j1⟩ := h.row cs hc
  obtain ⟨c2, e2, s2, j2⟩ := k.row c1 e1
  exact ⟨c2, e2, s2.trans s1, fun j hj => (j2 j hj).trans (j1 j hj)⟩
theorem Upd.drew (W : World) (b o : Nat) : Upd W W.drew b o := ⟨rfl, fun _ _ => rfl, fun cs h => ⟨cs, h, rfl, fun _ _ => rfl⟩, fun B _ => below_drew (Below.refl _ _)⟩
theorem Upd.draws (W : World) (b o q : Nat) : Upd W (W.drewN q) b o := ⟨rfl, fun _ _ => rfl, fun cs h => ⟨cs, h, rfl, fun _ _ => rfl⟩, fun B _ => below_draws (Below.refl _ _) q⟩
theorem Upd.set (W : World) (b o i : Nat) (hi : i < 9) (v : Value) : Upd W (W.setCell ⟨b, o + i, none⟩ v) b o := by
  refine ⟨by simp [World.setCell], fun q hq => Below.heap_setCell W _ v q (by simpa using hq), fun cs hc => ?_, fun B hB => (Below.refl B W).setCell (p := ⟨b, o + i, none⟩) hB v⟩
  have h : RowAt W b 44 cs := hc
  refine ⟨_, h.set (o + i) v, by simp, fun j hj => ?_⟩
  rw [Array.getElem?_setIfInBounds]
  rw [if_neg (by omega)]
theorem Upd.cell {W W' : World} {b o : Nat} (h : Upd W W' b o) {n : Nat} (hr : Rw W b n) (j : Nat) (hj : j < o ∨ o + 9 ≤ j) : W'.cell? ⟨b, j, none⟩ = W.cell? ⟨b, j, none⟩ := by
  obtain ⟨cs, hc, -⟩ := hr
  obtain ⟨cs', e, -, hx⟩ := h.row cs hc
  simp [World.cell?, hc, e, hx j hj]
theorem Upd.rw {W W' : World} {b o : Nat} (h : Upd W W' b o) {q n : Nat} (hr : Rw W q n) : Rw W' q n := by
  obtain ⟨cs, hc, hl⟩ := hr
  by_cases e : q = b
  · subst e
    obtain ⟨cs', e, hs, -⟩ := h.row cs hc
    exact ⟨cs', e, by omega⟩
  · exact ⟨cs, (h.other q e).trans hc, hl⟩
end Go.Proofs.Ytbnbmjdjkadgoaa.K
/-
  For the laws of node: one node changed, its kids still to be changed. No condition.
-/
namespace Go.Proofs.Ytbnbmjdjkadgoaa.K
open Go.RowKit Go.Shelf
set_option linter.unusedSimpArgs false
set_option linter.unusedVariables false

def kidP (N : Nat) (ps : List Pr) : List Pt := ps.mapIdx fun i q => ⟨N, i * 9, q.1, q.2⟩
theorem kidP_get {N : Nat} {ps : List Pr} {k : Nat} {x : Pt} (h : (kidP N ps)[k]? = some x) : ∃ q, ps[k]? = some q ∧ x = ⟨N, k * 9, q.1, q.2⟩ := by
  unfold kidP at h
  rw [List.getElem?_mapIdx] at h
  cases hq : ps[k]? with
  | none => rw [hq] at h; cases h
  | some q => rw [hq] at h; exact ⟨q, rfl, (Option.some.inj h).symm⟩
theorem kidP_at {N : Nat} {ps : List Pr} {k : Nat} {q : Pr} (h : ps[k]? = some q) : (kidP N ps)[k]? = some ⟨N, k * 9, q.1, q.2⟩ := by
  unfold kidP
  rw [List.getElem?_mapIdx, h]; rfl
theorem kidP_len (N : Nat) (ps : List Pr) : (kidP N ps).length = ps.length := by unfold kidP; simp
theorem kidP_mem {N : Nat} {ps : List Pr} {x : Pt} (h : x ∈ kidP N ps) : ∃ k q, ps[k]? = some q ∧ x = ⟨N, k * 9, q.1, q.2⟩ := by
  obtain ⟨k, hk⟩ := List.getElem?_of_mem h
  obtain ⟨q, h1, h2⟩ := kidP_get hk
  exact ⟨k, q, h1, h2⟩
theorem kidP_take (N : Nat) (ps : List Pr) (i : Nat) : (kidP N ps).take i = kidP N (ps.take i) := by
  refine List.ext_getElem? fun k => ?_
  rw [List.getElem?_take]
  split
  · rename_i h
    unfold kidP
    rw [List.getElem?_mapIdx, List.getElem?_mapIdx, List.getElem?_take_of_lt h]
  · rename_i h
    unfold kidP
    rw [List.getElem?_mapIdx, List.getElem?_take_eq_none (by omega)]; rfl
/-- What the new row of kids is. -/
def NewRow (W WB : World) (ps : List Pr) (kv2 : Value) (N : Nat) : Prop :=
  (ps = [] ∧ ∃ a cap, kv2 = .slice a 0 cap ∧ cap ≤ maxLen) ∨ (ps ≠ [] ∧ W.heap.size ≤ N ∧ ∃ cap, kv2 = .slice (some ⟨N, 0, none⟩) ps.length cap ∧ ps.length ≤ cap ∧ cap ≤ maxLen ∧ Rw WB N (ps.length * 9) ∧ ∀ (k : Nat) (q : Pr), ps[k]? = some q → Cells WB N (k * 9) q.1.hd q.2)
theorem KeepP.cells {w W W' : World} {S : List Pt} (h : KeepP w W S W') {b o n : Nat} (hw : w.heap.size ≤ b) (hr : Rw W b n) {x : Hd} {kv : Value} (hc : Cells W b o x kv) (hS : ∀ p ∈ S, p.b = b → ∀ j, j < 9 → o + j < p.off ∨ p.off + 9 ≤ o + j) : Cells W' b o x kv := by
  obtain ⟨cs, hcs, -⟩ := hr
  obtain ⟨cs', e, -, hx⟩ := h b cs hcs hw
  refine hc.same fun j hj => ?_
  have := hx (o + j) (fun p hp hpb => hS p hp hpb j hj)
  simp [World.cell?, hcs, e, this]
theorem KeepP.rw {w W W' : World} {S : List Pt} (h : KeepP w W S W') {b n : Nat} (hw : w.heap.size ≤ b) (hr : Rw W b n) : Rw W' b n := by
  obtain ⟨cs, hcs, hl⟩ := hr
  obtain ⟨cs', e, hs, -⟩ := h b cs hcs hw
  exact ⟨cs', e, by omega⟩
theorem flatten_split {Fs : List (List Nat)} (n : Nat) : Fs.flatten = (Fs.take n).flatten ++ (Fs.drop n).flatten := by
  rw [← List.flatten_append, List.take_append_drop]
theorem Wand.step {f : Hd → Hd} {w W WB : World} {nb B N : Nat} {T : Nd} {S : List Pt} {p : Pt} {ps : List Pr} {kv2 : Value} (h : Wand f w W nb B T (S ++ [p])) (hA : ∀ q ∈ S, Apart q p) (hp : HoldsP w W p)
    (hps : ps.map (·.1) = p.t.kids) (hs : W.heap.size ≤ WB.heap.size) (hw0 : w.heap.size ≤ W.heap.size) (hKp : KeepP w W [p] WB) (hc : Cells WB p.b p.off (f p.t.hd) kv2) (hrow : NewRow W WB ps kv2 N) :
    Wand f w WB nb B T (S ++ kidP N ps) := by
  intro W' Fs hk hl hnd hge hx
  rw [List.length_append, kidP_len] at hl
  have hpl := hp.2.1.lt
  have hN : ps ≠ [] → W.heap.size ≤ N ∧ N < WB.heap.size := fun hne => by
    rcases hrow with ⟨h0, -⟩ | ⟨-, h1, cap, -, -, -, h2, -⟩
    · exact absurd h0 hne
    · exact ⟨h1, h2.lt⟩
  have hKin : ∀ q ∈ kidP N ps, q.b = N ∧ ps ≠ [] := fun q hq => by
    obtain ⟨k, r, h1, rfl⟩ := kidP_mem hq
    exact ⟨rfl, fun e => by rw [e] at h1; simp at h1⟩
  obtain ⟨F0, hF0⟩ : ∃ F0, Fs.take S.length = F0 := ⟨_, rfl⟩
  obtain ⟨FK, hFK⟩ : ∃ FK, Fs.drop S.length = FK := ⟨_, rfl⟩
  have hFs : Fs = F0 ++ FK := by rw [← hF0, ← hFK, List.take_append_drop]
  have hl0 : F0.length = S.length := by rw [← hF0, List.length_take]; omega
  have hlK : FK.length = ps.length := by rw [← hFK, List.length_drop]; omega
  rw [hFs, List.flatten_append] at hnd hge
  have hFp : ∃ Fp : List Nat, (F0.flatten ++ Fp).Nodup ∧ (∀ M ∈ Fp, W.heap.size ≤ M) ∧ (ps = [] → Fp = []) ∧ (ps ≠ [] → Fp = N :: FK.flatten) := by
    by_cases hne : ps = []
    · refine ⟨[], by rw [List.append_nil]; exact (List.nodup_append.1 hnd).1, by simp, fun _ => rfl, fun h => absurd hne h⟩
    · obtain ⟨n1, n2⟩ := hN hne
      refine ⟨N :: FK.flatten, ?_, ?_, fun h => absurd h hne, fun _ => rfl⟩
      · rw [List.nodup_append] at hnd ⊢
        obtain ⟨d1, d2, d3⟩ := hnd
        refine ⟨d1, List.nodup_cons.2 ⟨fun hm => ?_, d2⟩, fun a ha b hb => ?_⟩
        · have := hge N (List.mem_append.2 (.inr hm)); omega
        · rcases List.mem_cons.1 hb with rfl | hb
          · have := hge a (List.mem_append.2 (.inl ha)); omega
          · exact d3 a ha b hb
      · intro M hM
        rcases List.mem_cons.1 hM with rfl | hM
        · exact n1
        · have := hge M (List.mem_append.2 (.inr hM)); omega
  obtain ⟨Fp, hFn, hFg, hFe, hFc⟩ := hFp
  refine h W' (F0 ++ [Fp]) ?_ (by simp [hl0]) (by rw [List.flatten_append]; simpa using hFn) ?_ ?_
  · intro b cs hb hwb
    obtain ⟨c1, e1, s1, j1⟩ := hKp b cs hb hwb
    obtain ⟨c2, e2, s2, j2⟩ := hk b c1 e1 hwb
    have hbl : b < W.heap.size := (Array.getElem?_eq_some_iff.1 hb).1
    refine ⟨c2, e2, s2.trans s1, fun j hj => ?_⟩
    refine (j2 j fun q hq hqb => ?_).trans (j1 j fun q hq hqb => hj q (List.mem_append.2 (.inr hq)) hqb)
    rcases List.mem_append.1 hq with hq | hq
    · exact hj q (List.mem_append.2 (.inl hq)) hqb
    · obtain ⟨k1, k2⟩ := hKin q hq
      have := (hN k2).1; omega
  · intro M hM
    rw [List.flatten_append] at hM
    rcases List.mem_append.1 hM with hM | hM
    · have := hge M (List.mem_append.2 (.inl hM)); omega
    · simp at hM; exact hFg M hM
  · intro i q F hi hF
    by_cases hlt : i < S.length
    · rw [List.getElem?_append_left hlt] at hi
      rw [List.getElem?_append_left (by omega)] at hF
      exact hx i q F (by rw [List.getElem?_append_left hlt]; exact hi) (by rw [hFs, List.getElem?_append_left (by omega)]; exact hF)
    · have hiS : i = S.length := by
        have := (List.getElem?_eq_some_iff.1 hi).1
        rw [List.length_append, List.length_singleton] at this
        omega
      subst hiS
      rw [List.getElem?_append_right (by omega), Nat.sub_self] at hi
      rw [List.getElem?_append_right (by omega), hl0, Nat.sub_self] at hF
      obtain rfl : p = q := by simpa using hi
      obtain rfl : Fp = F := by simpa using hF
      have hcW : Cells W' p.b p.off (f p.t.hd) kv2 := hk.cells hp.1 (hKp.rw hp.1 hp.2.1) hc fun q hq hqb j hj => by
        rcases List.mem_append.1 hq with hq | hq
        · rcases hA q hq with h1 | h1 | h1
          · exact absurd hqb h1
          · omega
          · omega
        · obtain ⟨k1, k2⟩ := hKin q hq
          have := (hN k2).1; omega
      refine ⟨kv2, hcW, ?_⟩
      rcases hrow with ⟨h0, a, cap, rfl, hcap⟩ | ⟨hne, hNW, cap, rfl, hlc, hcap, hrw, hcs⟩
      · have hk0 : p.t.kids = [] := by rw [← hps, h0]; rfl
        rw [hk0, hFe h0, mapL]
        exact SepAt.nil hcap
      · have hklen : (mapL f p.t.kids).length = ps.length := by rw [mapL_len, ← hps, List.length_map]
        rw [hFc hne, ← hklen]
        have hwN : w.heap.size ≤ N := by omega
        refine SepAt.mk (by omega) hcap (by omega) (by rw [hklen]; exact hk.rw hwN hrw) fun k t Fk hkt hFk => ?_
        have hkl := (List.getElem?_eq_some_iff.1 hFk).1
        obtain ⟨r, hr⟩ : ∃ r, ps[k]? = some r := ⟨_, List.getElem?_eq_getElem (by omega)⟩
        obtain ⟨kv', c', s'⟩ := hx (S.length + k) ⟨N, k * 9, r.1, r.2⟩ Fk (by rw [List.getElem?_append_right (by omega), Nat.add_sub_cancel_left]; exact kidP_at hr) (by rw [hFs, List.getElem?_append_right (by omega), hl0, Nat.add_sub_cancel_left]; exact hFk)
        have ht : t = r.1.map f := by
          have h2 : p.t.kids[k]? = some r.1 := by rw [← hps, List.getElem?_map, hr]; rfl
          rw [mapL_eq, List.getElem?_map, h2] at hkt
          exact (Option.some.inj hkt).symm
        rw [ht, map_kids]
        exact ⟨kv', c', s'⟩
theorem step_holds {w W WB : World} {N : Nat} {S : List Pt} {p : Pt} {ps : List Pr} {kv2 : Value} (hA : ∀ q ∈ S, Apart q p) (hH : ∀ q ∈ S, HoldsP w W q) (hps : ∀ q ∈ ps, KidsAt w q.1.kids q.2) (hw0 : w.heap.size ≤ W.heap.size) (hKp : KeepP w W [p] WB) (hrow : NewRow W WB ps kv2 N) :
    ∀ q ∈ S ++ kidP N ps, HoldsP w WB q := by
  intro q hq
  rcases List.mem_append.1 hq with hq | hq
  · obtain ⟨h1, h2, h3, h4⟩ := hH q hq
    refine ⟨h1, hKp.rw h1 h2, hKp.cells h1 h2 h3 fun r hr hrb j hj => ?_, h4⟩
    obtain rfl : r = p := by simpa using hr
    rcases hA q hq with e | e | e
    · exact absurd hrb.symm e
    · omega
    · omega
  · obtain ⟨k, r, h1, rfl⟩ := kidP_mem hq
    rcases hrow with ⟨h0, -⟩ | ⟨hne, hNW, cap, -, hlc, hcap, hrw, hcs⟩
    · rw [h0] at h1; simp at h1
    · have hkl := (List.getElem?_eq_some_iff.1 h1).1
      obtain ⟨cs, e, hl⟩ := hrw
      exact ⟨by show w.heap.size ≤ N; omega, ⟨cs, e, by show k * 9 + 9 ≤ _; omega⟩, hcs k r h1, hps r (List.mem_of_getElem? h1)⟩
theorem step_apart {w W WB : World} {N : Nat} {S : List Pt} {ps : List Pr} {kv2 : Value} (hH : ∀ q ∈ S, HoldsP w W q) (hS : S.Pairwise Apart) (hrow : NewRow W WB ps kv2 N) : (S ++ kidP N ps).Pairwise Apart := by
  rw [List.pairwise_append]
  refine ⟨hS, ?_, fun a ha b hb => ?_⟩
  · rw [List.pairwise_iff_getElem]
    intro i j hi hj hij
    obtain ⟨q, h1, h2⟩ := kidP_get (List.getElem?_eq_getElem hi)
    obtain ⟨r, k1, k2⟩ := kidP_get (List.getElem?_eq_getElem hj)
    rw [h2, k2]
    exact .inr (.inl (by show i * 9 + 9 ≤ j * 9; omega))
  · obtain ⟨k, r, h1, rfl⟩ := kidP_mem hb
    have hal := (hH a ha).2.1.lt
    rcases hrow with ⟨h0, -⟩ | ⟨hne, hNW, -⟩
    · rw [h0] at h1; simp at h1
    · exact .inl (by show a.b ≠ N; omega)
end Go.Proofs.Ytbnbmjdjkadgoaa.K
/-
  For the laws of node: a row of kids in new memory; what a change of one node does; what changing a tree keeps. Condition: at most 2,000,000 nodes.
-/
namespace Go.Proofs.Ytbnbmjdjkadgoaa.K
open Go.RowKit Go.Shelf
set_option linter.unusedSimpArgs false
set_option linter.unusedVariables false

theorem exists_min (P : Nat → Prop) (h : ∃ n, P n) : ∃ n, P n ∧ ∀ m, P m → n ≤ m := by
  obtain ⟨n, hn⟩ := h
  induction n using Nat.strongRecOn with
  | _ n ih =>
    by_cases hl : ∃ m, m < n ∧ P m
    · obtain ⟨m, hm, hp⟩ := hl
      exact ih m hm hp
    · exact ⟨n, hn, fun m hm => Nat.le_of_not_lt fun hlt => hl ⟨m, hlt, hm⟩⟩
open Classical in
/-- The least number with P, if there is one. -/
noncomputable def least (P : Nat → Prop) : Nat := if h : ∃ n, P n then (exists_min P h).choose else 0
theorem least_spec {P : Nat → Prop} {n : Nat} (h : P n) : P (least P) ∧ least P ≤ n := by
  have hx : ∃ n, P n := ⟨n, h⟩
  unfold least
  rw [dif_pos hx]
  have := (exists_min P hx).choose_spec
  exact ⟨this.1, this.2 n h⟩
theorem RowP.below {W W' : World} {a : Option Addr} {ps : List Pr} (h : RowP W a ps) (hb : Below W.heap.size W W') : RowP W' a ps := fun k p hk => by
  obtain ⟨b, off, e, c, hkk⟩ := h k p hk
  exact ⟨b, off, e, c.later hb, hkk.below hb⟩
set_option maxRecDepth 100000 in
set_option maxHeartbeats 8000000 in
/-- slices.Clone: the kids in a row of their own. -/
theorem Clone_any (w0 w : World) (a : Option Addr) (cap : Nat) (ps : List Pr) (hW : Below w0.heap.size w0 w) (hr : RowP w a ps) (hq : ∀ p ∈ ps, KidsAt w0 p.1.kids p.2) (hc : ps.length ≤ cap) (hcap : cap ≤ maxLen) (hn : ps.length ≤ 2000000) :
    Calls Try.prog 85 #[.slice a ps.length cap] w fun e w' => ∃ v, e = .returned v ∧ OwnP w0 w.heap.size w' v ps ∧ Below w.heap.size w w' := by
  have HR := Lib.hid hr
  have HQ := Lib.hid hq
  have hs0 := hW.size
  have HW := Lib.hid hW
  clear hr hq hW
  cases a with
  | none =>
    have h0 : ps = [] := by
      cases ps with
      | nil => rfl
      | cons y L =>
        obtain ⟨b, off, e, _⟩ := HR.out 0 y rfl
        cases e
    subst h0
    have he : ∀ W : World, (binOp .eql 42 (.slice none 0 cap) (.slice none 0 0)).run Try.prog W = .ok (.bool true) W := fun W => Lib.run_eql_slice_nil W 42 44 none 0 cap 0 0 Try.underlying42
    go_enter Try.func85, Try.ntmps85
    go_wp2_with fail
    go_ret
    exact ⟨_, rfl, OwnP.nil HW.out hs0 (Nat.le_refl _), Below.refl _ _⟩
  | some ad =>
    obtain ⟨n, hn0⟩ : ∃ n, Hid (ps.length = n) := ⟨_, Lib.hid rfl⟩
    have he : ∀ W : World, (binOp .eql 42 (.slice (some ad) n cap) (.slice none 0 0)).run Try.prog W = .ok (.bool false) W := fun W => Lib.run_eql_slice_nil W 42 44 (some ad) n cap 0 0 Try.underlying42
    have O0 : Hid (OwnP w0 w.heap.size (w.alloc (.cells #[] 44)) (.slice (some ⟨w.heap.size, 0, none⟩) 0 0) []) := Lib.hid ⟨World.ownsRow_made w #[] 0 (Nat.le_refl _) (Nat.zero_le _) rfl, HW.out.alloc hs0 _, ⟨hs0, by simp⟩, fun p hp => by cases hp⟩
    have B0 : Hid (Below w.heap.size w (w.alloc (.cells #[] 44))) := Lib.hid ((Below.refl _ w).alloc (Nat.le_refl _) _)
    have HR2 : Hid (RowP (w.alloc (.cells #[] 44)) (some ad) ps) := Lib.hid (RowP.below HR.out B0.out)
    rw [hn0.out]
    go_enter Try.func85, Try.ntmps85
    go_wp2_with (at_builtin; refine wpList_append_nds (w0 := w0) (w := w.alloc (.cells #[] 44)) rfl _ _ rfl _ [] ps (some ad) cap rfl O0.out (by rw [hn0.out]; rfl) HR2.out HQ.out (by simp; omega) ?_; intro v2 W2 hown2 hb2)
    have B2 := Lib.hid (B0.out.trans hb2)
    have O2 : Hid (OwnP w0 w.heap.size W2 v2 ps) := Lib.hid (by simpa using hown2)
    clear hown2 hb2
    go_wp2_with fail
    go_ret
    exact ⟨_, rfl, O2.out, B2.out⟩
def ptrs (S : List Pt) : List Value := S.map fun p => .pointer (some ⟨p.b, p.off, none⟩)
theorem ptrs_len (S : List Pt) : (ptrs S).length = S.length := by unfold ptrs; rw [List.length_map]
theorem ptrs_app (A B : List Pt) : ptrs (A ++ B) = ptrs A ++ ptrs B := by unfold ptrs; rw [List.map_append]
theorem ptrs_one (p : Pt) : ptrs [p] = [.pointer (some ⟨p.b, p.off, none⟩)] := rfl
/-- What a change of one node is: of its head, as f says. -/
def ChangeOk (fid : Nat) (caps : Array Value) (f : Hd → Hd) (w : World) : Prop :=
  ∀ (W : World) (b o : Nat) (h : Hd) (a : Option Addr) (n c : Nat), Below w.heap.size w W → w.heap.size ≤ b → Rw W b (o + 9) → Cells W b o h (.slice a n c) →
    Calls Try.prog fid (#[.pointer (some ⟨b, o, none⟩)] ++ caps) W fun e w' => (∃ v, e = .returned v) ∧ Upd W w' b o ∧ Cells w' b o (f h) (.slice a n c)
def cntS (S : List Pt) : Nat := cntL (S.map (·.t))
theorem cntS_app (A B : List Pt) : cntS (A ++ B) = cntS A + cntS B := by unfold cntS; rw [List.map_append, cntL_app]
theorem cntS_one (p : Pt) : cntS [p] = p.t.cnt := by unfold cntS; simp [cntL]
theorem cntS_len (S : List Pt) : S.length ≤ cntS S := by unfold cntS; have := cntL_len (S.map (·.t)); simpa using this
theorem cntS_kidP (N : Nat) (ps : List Pr) : cntS (kidP N ps) = cntL (ps.map (·.1)) := by
  unfold cntS
  congr 1
  refine List.ext_getElem? fun k => ?_
  rw [List.getElem?_map, List.getElem?_map]
  cases hp : ps[k]? with
  | none => rw [List.getElem?_eq_none (by rw [kidP_len]; exact List.getElem?_eq_none_iff.1 hp)]; rfl
  | some q => rw [kidP_at hp]; rfl
/-- Between two nodes. -/
structure CInv (f : Hd → Hd) (w : World) (T : Nd) (S : List Pt) (u : Value) (wr : World) : Prop where
  own : wr.ownsRow (w.heap.size + 2) 82 1 u S.length (ptrs S)
  apart : S.Pairwise Apart
  holds : ∀ p ∈ S, HoldsP w wr p ∧ p.b ≠ w.heap.size + 1
  wand : Wand f w wr (w.heap.size + 2) w.heap.size T S
  below : Below w.heap.size w wr
  size : w.heap.size + 3 ≤ wr.heap.size
  res : RowAt wr (w.heap.size + 1) 44 #[.int .i64 0, .string ⟨#[]⟩, .string ⟨#[]⟩, .int .i64 0, .int .i64 0, .int .i64 0, .int .i64 0, .int .i64 0, .slice none 0 0]
  few : cntS S ≤ 2000000
noncomputable def left (f : Hd → Hd) (w : World) (T : Nd) (u : Value) (wr : World) : Nat := least fun n => ∃ S, CInv f w T S u wr ∧ cntS S = n
theorem left_le {f : Hd → Hd} {w : World} {T : Nd} {S : List Pt} {u : Value} {wr : World} (h : CInv f w T S u wr) : left f w T u wr ≤ cntS S := (least_spec (P := fun n => ∃ S, CInv f w T S u wr ∧ cntS S = n) ⟨S, h, rfl⟩).2
theorem left_spec {f : Hd → Hd} {w : World} {T : Nd} {u : Value} {wr : World} (h : ∃ S, CInv f w T S u wr) : ∃ S, CInv f w T S u wr ∧ cntS S = left f w T u wr := by
  obtain ⟨S, h⟩ := h
  exact (least_spec (P := fun n => ∃ S, CInv f w T S u wr ∧ cntS S = n) ⟨S, h, rfl⟩).1
/-- What changed answers. -/
def ChgIs (f : Hd → Hd) (w : World) (T : Nd) (e : Ending) (w' : World) : Prop := ∃ kv F, e = .returned (.agg #[.int .i64 (f T.hd).kind, .string (bs (f T.hd).text), .string (bs (f T.hd).type), .int .i64 (f T.hd).n, .int .i64 (f T.hd).fr, .int .i64 (f T.hd).to_, .int .i64 (f T.hd).at_, .int .i64 (f T.hd).tat, kv]) ∧ SepAt w' (mapL f T.kids) kv F ∧ F.Nodup ∧ (∀ N ∈ F, w.heap.size ≤ N) ∧ Below w.heap.size w w'
end Go.Proofs.Ytbnbmjdjkadgoaa.K
/-
  For the laws of node: changed: every node of a tree changed, in new memory whose rows lie apart. Condition: at most 2,000,000 nodes.
-/
namespace Go.Proofs.Ytbnbmjdjkadgoaa.K
open Go.RowKit Go.Shelf
set_option linter.unusedSimpArgs false
set_option linter.unusedVariables false

theorem infoPtr : (Try.prog.info? 82).map (fun i => (i.zero, i.size, i.bytes)) = some (some (.pointer none), 1, 8) := by kernel_rfl
theorem Rw.of_rows {w0 W : World} {base g cap : Nat} {ps : List Pr} (h : OwnP w0 base W (.slice (some ⟨g, 0, none⟩) ps.length cap) ps) (hne : ps ≠ []) : base ≤ g ∧ Rw W g (ps.length * 9) := by
  obtain ⟨⟨hl, h⟩, -⟩ := h
  rcases h with ⟨h0, -⟩ | ⟨g', cap', cur, e, k1, hg, k2, k3, k4, k5⟩
  · cases h0
  · cases e
    exact ⟨k1, cur, hg, by rw [k4]; exact Nat.mul_le_mul_right _ k2⟩
/-- The copy is a new row of kids. -/
theorem newRow_own {w0 W WC : World} {v : Value} {ps : List Pr} (h : OwnP w0 W.heap.size WC v ps) : ∃ N, NewRow W WC ps v N := by
  obtain ⟨a, cap, rfl, h1, h2, hr⟩ := h.row
  cases ps with
  | nil => exact ⟨0, .inl ⟨rfl, a, cap, rfl, h2⟩⟩
  | cons y L =>
    obtain ⟨b, off, rfl, -⟩ := hr 0 y rfl
    have ho : off = 0 := by
      rcases h.1.2 with ⟨h0, -⟩ | ⟨g', cap', cur, e, -⟩
      · cases h0
      · cases e; rfl
    subst ho
    obtain ⟨k1, k2⟩ := Rw.of_rows h (by simp)
    refine ⟨b, .inr ⟨by simp, k1, cap, rfl, h1, h2, k2, fun k q hk => ?_⟩⟩
    obtain ⟨b', off', e, c, -⟩ := hr k q hk
    cases e
    simpa using c
theorem NewRow.keep {W WC WD : World} {ps : List Pr} {v : Value} {N : Nat} (h : NewRow W WC ps v N) (hb : N < WC.heap.size → W.heap.size ≤ N → WD.heap[N]? = WC.heap[N]?) : NewRow W WD ps v N := by
  rcases h with h0 | ⟨hne, h1, cap, e, h2, h3, h4, h5⟩
  · exact .inl h0
  · have := hb h4.lt h1
    exact .inr ⟨hne, h1, cap, e, h2, h3, h4.same this, fun k q hk => (h5 k q hk).same fun j _ => cell_same this _⟩
theorem NewRow.slice {W WC : World} {ps : List Pr} {v : Value} {N : Nat} (h : NewRow W WC ps v N) : ∃ a cap, v = .slice a ps.length cap ∧ ps.length ≤ cap ∧ cap ≤ maxLen := by
  rcases h with ⟨rfl, a, cap, e, h⟩ | ⟨hne, h1, cap, e, h2, h3, -⟩
  · exact ⟨a, cap, e, Nat.zero_le _, h⟩
  · exact ⟨_, cap, e, h2, h3⟩
/-- An own row, one element more. -/
theorem wpList_append_el {W : World} {base t e size bytes n : Nat} {ops : Array Oper} {rest : List Oper} {o : Oper} {a : Act} {Q : Exit → Act → World → Prop} (hgd : o.guard = none) (s x : Operand)
    (ho : o.op = .call { callee := .builtin .append, args := #[s, x], argTypes := #[t, t] }) (ht : Try.prog.underlying t = some (.slice e)) {z : Value} (hinfo : (Try.prog.info? e).map (fun i => (i.zero, i.size, i.bytes)) = some (some z, size, bytes))
    (hzs : z.cells.size = size) (hsz : 0 < size) (hby : bytes ≤ 1000) (v : Value) (xs news : List Value) (hs : a.eval s = v) (hown : W.ownsRow base e size v n xs) (gb : Nat) (hx : a.eval x = .slice (some ⟨gb, 0, none⟩) 1 1) (hl : news.length = size)
    (hnews : ∀ j u, news[j]? = some u → W.cell? ⟨gb, j, none⟩ = some u) (h1 : ∀ u ∈ news, u.oneCell' = true) (hn : n + 1 ≤ 5000000) (hbase : base ≤ W.heap.size)
    (h : ∀ v' w', w'.ownsRow base e size v' (n + 1) (xs ++ news) → W.grownBy w' v.ownBlock → wpList Try.prog ops Q rest (a.put o.dst v') w') : wpList Try.prog ops Q (o :: rest) a W := by
  obtain ⟨i0, hi, hz0, hz1, hz2⟩ := info_parts hinfo
  refine wpList_append_own W hgd s x t ho base e i0 z size bytes ht hi hz0 hz1 hz2 hzs hsz v n xs hs hown ⟨gb, 0, none⟩ 1 1 news hx (by omega) (fun j u hj => by rw [add_flat, Nat.zero_add]; exact hnews j u hj) h1 (by unfold maxLen; omega) ?_ hbase fun v' w' a1 a2 _ => h v' w' a1 a2
  exact Nat.le_trans (Nat.mul_le_mul hn hby) (by omega)
theorem own_same {W W' : World} {base e size n : Nat} {v : Value} {xs : List Value} (h : W.ownsRow base e size v n xs) (hb : ∀ g, v.ownBlock = some g → W'.heap[g]? = W.heap[g]?) : W'.ownsRow base e size v n xs := by
  refine ⟨h.1, ?_⟩
  rcases h.2 with h0 | ⟨g, cap, cur, e1, h1, hg, h2, h3, h4, h5⟩
  · exact .inl h0
  · exact .inr ⟨g, cap, cur, e1, h1, (hb g (by rw [e1]; rfl)).trans hg, h2, h3, h4, h5⟩
theorem own_type {W : World} {base e size n : Nat} {v : Value} {xs : List Value} (h : W.ownsRow base e size v n xs) {g : Nat} (hg : v.ownBlock = some g) : ∃ cur, W.heap[g]? = some (.cells cur e (0, 0)) := by
  rcases h.2 with ⟨rfl, -⟩ | ⟨g', cap, cur, e1, h1, h2, -⟩
  · cases hg
  · rw [e1] at hg
    obtain rfl : g' = g := Option.some.inj hg
    exact ⟨cur, h2⟩
/-- Rows of nodes are as they were. -/
def Grw (B : Nat) (W W' : World) : Prop := W.heap.size ≤ W'.heap.size ∧ Below B W W' ∧ ∀ (b : Nat) (cs : Array Value), W.heap[b]? = some (Obj.cells cs 44 (0, 0)) → W'.heap[b]? = some (Obj.cells cs 44 (0, 0))
theorem Grw.refl (B : Nat) (W : World) : Grw B W W := ⟨Nat.le_refl _, Below.refl _ _, fun _ _ h => h⟩
theorem Grw.trans {B : Nat} {W W' W'' : World} (h : Grw B W W') (k : Grw B W' W'') : Grw B W W'' := ⟨Nat.le_trans h.1 k.1, h.2.1.trans k.2.1, fun b cs hb => k.2.2 b cs (h.2.2 b cs hb)⟩
theorem Grw.alloc (B : Nat) (W : World) (o : Obj) (hB : B ≤ W.heap.size) : Grw B W (W.alloc o) := ⟨by simp, (Below.refl _ _).alloc hB _, fun b cs h => (Below.heap_alloc W o b (Array.getElem?_eq_some_iff.1 h).1).trans h⟩
theorem Grw.own {B : Nat} {W W' : World} {base e size n : Nat} {v : Value} {xs : List Value} (h : W.ownsRow base e size v n xs) (he : e ≠ 44) (hB : B ≤ base) (hbase : base ≤ W.heap.size) (hg : W.grownBy W' v.ownBlock) : Grw B W W' := by
  refine ⟨hg.size, (Below.refl B W).grown hg (by omega) fun k hk => Nat.le_trans hB (h.lt k hk).1, fun b cs hb => (hg.block b (Array.getElem?_eq_some_iff.1 hb).1 fun hk => ?_).trans hb⟩
  obtain ⟨cur, hc⟩ := own_type h hk.symm
  rw [hb] at hc
  cases hc
  exact he rfl
theorem kidP_take_succ {N : Nat} {ps : List Pr} {i : Nat} {q : Pr} (h : ps[i]? = some q) : kidP N (ps.take (i + 1)) = kidP N (ps.take i) ++ [⟨N, i * 9, q.1, q.2⟩] := by
  rw [← kidP_take, List.take_add_one, kidP_at h, kidP_take]
  rfl
set_option maxRecDepth 100000 in
set_option maxHeartbeats 8000000 in
theorem copied_any (f : Hd → Hd) (hf : ∀ h, f h = h) (T : Nd) (kv : Value) (w : World) (hm : T.cnt ≤ 2000000) (hk : KidsAt w T.kids kv) :
    Calls Try.prog 56 #[.agg #[.int .i64 T.hd.kind, .string (bs T.hd.text), .string (bs T.hd.type), .int .i64 T.hd.n, .int .i64 T.hd.fr, .int .i64 T.hd.to_, .int .i64 T.hd.at_, .int .i64 T.hd.tat, kv]] w fun e w' => ChgIs f w T e w' := by
  have HK := Lib.hid hk
  obtain ⟨a0, cap0, rfl, -⟩ := hk.get
  clear hk
  have HF := Lib.hid hf
  clear hf
  obtain ⟨n, hn⟩ : ∃ n, Hid (T.kids.length = n) := ⟨_, Lib.hid rfl⟩
  rw [hn.out] at HK
  rw [hn.out]
  obtain ⟨W1, hW1⟩ : ∃ W1, Hid (((w.alloc (.cells #[.int .i64 T.hd.kind, .string (bs T.hd.text), .string (bs T.hd.type), .int .i64 T.hd.n, .int .i64 T.hd.fr, .int .i64 T.hd.to_, .int .i64 T.hd.at_, .int .i64 T.hd.tat, .slice a0 n cap0] 44)).alloc (.cells #[.int .i64 0, .string ⟨#[]⟩, .string ⟨#[]⟩, .int .i64 0, .int .i64 0, .int .i64 0, .int .i64 0, .int .i64 0, .slice none 0 0] 44)).alloc (.cells #[.pointer (some ⟨w.heap.size, 0, none⟩)] 82) = W1) := ⟨_, Lib.hid rfl⟩
  have hC0 : Hid (CInv f w T [⟨w.heap.size, 0, T, .slice a0 n cap0⟩] (.slice (some ⟨w.heap.size + 1 + 1, 0, none⟩) 1 1) W1) := Lib.hid (by
    have R1 : RowAt W1 w.heap.size 44 (T.hd.vals (.slice a0 n cap0)) := by
      rw [← hW1.out]
      exact ((RowAt.new w 44 _).alloc _).alloc _
    have R2 : RowAt W1 (w.heap.size + 1) 44 #[.int .i64 0, .string ⟨#[]⟩, .string ⟨#[]⟩, .int .i64 0, .int .i64 0, .int .i64 0, .int .i64 0, .int .i64 0, .slice none 0 0] := by
      rw [← hW1.out]
      have := RowAt.new (w.alloc (.cells #[.int .i64 T.hd.kind, .string (bs T.hd.text), .string (bs T.hd.type), .int .i64 T.hd.n, .int .i64 T.hd.fr, .int .i64 T.hd.to_, .int .i64 T.hd.at_, .int .i64 T.hd.tat, .slice a0 n cap0] 44)) 44 #[.int .i64 0, .string ⟨#[]⟩, .string ⟨#[]⟩, .int .i64 0, .int .i64 0, .int .i64 0, .int .i64 0, .int .i64 0, .slice none 0 0]
      rw [World.size_alloc] at this
      exact this.alloc _
    have R3 : RowAt W1 (w.heap.size + 2) 82 #[.pointer (some ⟨w.heap.size, 0, none⟩)] := by
      rw [← hW1.out]
      have := RowAt.new ((w.alloc (.cells #[.int .i64 T.hd.kind, .string (bs T.hd.text), .string (bs T.hd.type), .int .i64 T.hd.n, .int .i64 T.hd.fr, .int .i64 T.hd.to_, .int .i64 T.hd.at_, .int .i64 T.hd.tat, .slice a0 n cap0] 44)).alloc (.cells #[.int .i64 0, .string ⟨#[]⟩, .string ⟨#[]⟩, .int .i64 0, .int .i64 0, .int .i64 0, .int .i64 0, .int .i64 0, .slice none 0 0] 44)) 82 #[.pointer (some ⟨w.heap.size, 0, none⟩)]
      rw [World.size_alloc, World.size_alloc] at this
      exact this
    have hs : W1.heap.size = w.heap.size + 3 := by rw [← hW1.out]; simp
    exact {
      own := ⟨rfl, .inr ⟨w.heap.size + 2, 1, _, rfl, Nat.le_refl _, R3, Nat.le_refl _, by unfold maxLen; omega, rfl, rfl⟩⟩
      apart := List.pairwise_singleton _ _
      holds := fun p hp => by
        obtain rfl := List.mem_singleton.1 hp
        exact ⟨⟨Nat.le_refl _, ⟨_, R1, Nat.le_refl _⟩, Cells.row R1, HK.out⟩, by show w.heap.size ≠ _; omega⟩
      wand := Wand.first (by omega)
      below := by rw [← hW1.out]; exact (((Below.refl _ w).alloc (Nat.le_refl _) _).alloc (by simp) _).alloc (by simp; omega) _
      size := by omega
      res := R2
      few := by rw [cntS_one]; exact hm })
  clear HK
  go_enter Try.func56, Try.ntmps56
  go_wp2_with fail
  rw [hW1.out]
  go_loopw [3] (fun u wr => ∃ S, Hid (CInv f w T S u wr)) (fun u wr => left f w T u wr)
  case atStart => exact ⟨_, hC0⟩
  case round =>
    obtain ⟨S, hC, hL⟩ := left_spec (by obtain ⟨S, h⟩ := hrel; exact ⟨S, h.out⟩)
    have HL := Lib.hid hL
    clear hrel hL
    rcases List.eq_nil_or_concat S with rfl | ⟨S0, p, rfl⟩
    · have HC := Lib.hid hC
      have ho := hC.own
      obtain ⟨ao, m', cap, hu⟩ := own_slice ho
      have hm0 : m' = 0 := by
        rcases ho.2 with ⟨e, -⟩ | ⟨g, cp, cur, e, -⟩
        · rw [hu] at e; cases e; rfl
        · rw [hu] at e; cases e; rfl
      subst hm0
      subst hu
      obtain ⟨F, kv', hF, hFn, hcs, hsep⟩ := hC.wand.last
      obtain ⟨ak, ck, hkv, -⟩ := hsep.kids.get
      have R := Lib.hid hC.res
      have Hout : Hid (F.Nodup ∧ (∀ N ∈ F, w.heap.size + 2 ≤ N) ∧ SepAt wr (mapL f T.kids) kv' F) := Lib.hid ⟨hF, hFn, hsep⟩
      have hB := Lib.hid hC.below
      subst hkv
      obtain ⟨km, hkm⟩ : ∃ km, Hid ((mapL f T.kids).length = km) := ⟨_, Lib.hid rfl⟩
      rw [hkm.out] at Hout hcs
      obtain ⟨d0, d1, d2, d3, d4, d5, d6, d7, d8⟩ := hcs
      simp only [Nat.zero_add] at d1 d2 d3 d4 d5 d6 d7 d8
      obtain ⟨h2, hh2⟩ : ∃ h2, Hid (f T.hd = h2) := ⟨_, Lib.hid rfl⟩
      rw [hh2.out] at d0 d1 d2 d3 d4 d5 d6 d7
      have z0 := R.out.frozen 0
      have z1 := R.out.frozen 1
      have z2 := R.out.frozen 2
      have z3 := R.out.frozen 3
      have z4 := R.out.frozen 4
      have z5 := R.out.frozen 5
      have z6 := R.out.frozen 6
      have z7 := R.out.frozen 7
      have z8 := R.out.frozen 8
      have r0 := R.out.cell (j := 0) rfl
      have r1 := R.out.cell (j := 1) rfl
      have r2 := R.out.cell (j := 2) rfl
      have r3 := R.out.cell (j := 3) rfl
      have r4 := R.out.cell (j := 4) rfl
      have r5 := R.out.cell (j := 5) rfl
      have r6 := R.out.cell (j := 6) rfl
      have r7 := R.out.cell (j := 7) rfl
      have r8 := R.out.cell (j := 8) rfl
      clear ho hC hF hFn hsep
      go_wp2_with fail
      have HE : Hid (∀ W9 : World, RowAt W9 (w.heap.size + 1) 44 (h2.vals (.slice ak km ck)) → Upd wr W9 (w.heap.size + 1) 0 → ChgIs f w T (.returned (h2.agg (.slice ak km ck))) W9) := Lib.hid (fun W9 R9 U9 => ⟨.slice ak km ck, F, by rw [hh2.out], Hout.out.2.2.keep fun b hb => U9.other b (by have := Hout.out.2.1 b hb; omega), Hout.out.1, fun N hN => by have := Hout.out.2.1 N hN; omega, hB.out.trans ((U9.below w.heap.size (by omega)))⟩)
      have R9 := ((((((((R.out.set 0 (.int .i64 h2.kind)).set 1 (.string (bs h2.text))).set 2 (.string (bs h2.type))).set 3 (.int .i64 h2.n)).set 4 (.int .i64 h2.fr)).set 5 (.int .i64 h2.to_)).set 6 (.int .i64 h2.at_)).set 7 (.int .i64 h2.tat)).set 8 (.slice ak km ck)
      have U9 := ((((((((Upd.set wr (w.heap.size + 1) 0 0 (by omega) (.int .i64 h2.kind)).trans (Upd.set _ (w.heap.size + 1) 0 1 (by omega) (.string (bs h2.text)))).trans (Upd.set _ (w.heap.size + 1) 0 2 (by omega) (.string (bs h2.type)))).trans (Upd.set _ (w.heap.size + 1) 0 3 (by omega) (.int .i64 h2.n))).trans (Upd.set _ (w.heap.size + 1) 0 4 (by omega) (.int .i64 h2.fr))).trans (Upd.set _ (w.heap.size + 1) 0 5 (by omega) (.int .i64 h2.to_))).trans (Upd.set _ (w.heap.size + 1) 0 6 (by omega) (.int .i64 h2.at_))).trans (Upd.set _ (w.heap.size + 1) 0 7 (by omega) (.int .i64 h2.tat))).trans (Upd.set _ (w.heap.size + 1) 0 8 (by omega) (.slice ak km ck))
      simp only [Nat.zero_add] at U9
      simp only [List.setIfInBounds_toArray, List.set_cons_zero, List.set_cons_succ] at R9
      obtain ⟨W9, hW9⟩ : ∃ W9, W9 = (((((((((wr.setCell ⟨w.heap.size + 1, 0, none⟩ (.int .i64 h2.kind)).setCell ⟨w.heap.size + 1, 1, none⟩ (.string (bs h2.text))).setCell ⟨w.heap.size + 1, 2, none⟩ (.string (bs h2.type))).setCell ⟨w.heap.size + 1, 3, none⟩ (.int .i64 h2.n)).setCell ⟨w.heap.size + 1, 4, none⟩ (.int .i64 h2.fr)).setCell ⟨w.heap.size + 1, 5, none⟩ (.int .i64 h2.to_)).setCell ⟨w.heap.size + 1, 6, none⟩ (.int .i64 h2.at_)).setCell ⟨w.heap.size + 1, 7, none⟩ (.int .i64 h2.tat)).setCell ⟨w.heap.size + 1, 8, none⟩ (.slice ak km ck)) := ⟨_, rfl⟩
      rw [← hW9] at R9 U9 ⊢
      clear hW9
      refine bodyPost_ret (results_cell_row rfl _ _ (w.heap.size + 1) 44 (h2.vals (.slice ak km ck)) (0, 0) _ rfl R9 Try.underlying44 rfl rfl) rfl ?_
      exact HE.out _ R9 U9
    · obtain ⟨wo, hwo⟩ : ∃ wo, wo = wr := ⟨_, rfl⟩
      subst hwo
      rw [List.concat_eq_append] at hC HL
      have hlen : (S0 ++ [p]).length = S0.length + 1 := by simp
      have ho := hC.own
      rw [ptrs_app, ptrs_one, hlen] at ho
      obtain ⟨m, hmS⟩ : ∃ m, Hid (S0.length = m) := ⟨_, Lib.hid rfl⟩
      rw [hmS.out] at ho
      obtain ⟨g, cap, cur, hu, hg1, hg2, hg3, hg4, hg5, hg6⟩ : ∃ g cap cur, u3 = .slice (some ⟨g, 0, none⟩) (m + 1) cap ∧ w.heap.size + 2 ≤ g ∧ wo.heap[g]? = some (.cells cur 82 (0, 0)) ∧ m + 1 ≤ cap ∧ cap ≤ maxLen ∧ cur.size = cap * 1 ∧ cur.toList.take ((m + 1) * 1) = ptrs S0 ++ [.pointer (some ⟨p.b, p.off, none⟩)] := by
        rcases ho.2 with ⟨-, h0⟩ | h
        · omega
        · exact h
      subst hu
      have hcnt : cntS (S0 ++ [p]) ≤ 2000000 := hC.few
      have hcs2 := cntS_app S0 [p]
      rw [cntS_one] at hcs2
      have hsl := cntS_len S0
      rw [hmS.out] at hsl
      have cg : wo.cell? ⟨g, m, none⟩ = some (.pointer (some ⟨p.b, p.off, none⟩)) := by
        have h1 : (ptrs S0 ++ [Value.pointer (some ⟨p.b, p.off, none⟩)])[m]? = some (.pointer (some ⟨p.b, p.off, none⟩)) := by
          rw [List.getElem?_append_right (by rw [ptrs_len, hmS.out]; exact Nat.le_refl _), ptrs_len, hmS.out, Nat.sub_self]; rfl
        rw [← hg6, List.getElem?_take_of_lt (by omega)] at h1
        simp [World.cell?, hg2]
        simpa using h1
      have HP := Lib.hid hC.holds
      have hHp := (hC.holds p (by simp)).1
      have hpn := (hC.holds p (by simp)).2
      obtain ⟨ps, ak, ck, hps, hkv, hc1, hc2, hr⟩ := hHp.2.2.2.rows
      obtain ⟨d0, d1, d2, d3, d4, d5, d6, d7, d8⟩ := hHp.2.2.1
      rw [hkv] at d8
      have hk2 := hHp.2.2.2
      have hmaxl := hg4
      unfold maxLen at hmaxl
      have p0 : (m : Int) < (m : Int) + 1 := by omega
      have p1 : (m : Int) < (cap : Int) := by omega
      have p2 : (0 : Int) ≤ (m : Int) := by omega
      have OwnPop := Lib.hid (own_pop (m := m) (by omega) ho)
      have HC := Lib.hid hC
      have Hps := Lib.hid hps
      have Hr := Lib.hid hr
      have Hhp := Lib.hid hHp
      clear ho hC hps hr hHp hg6 hk2
      have hpk : Hid (∀ q ∈ ps, KidsAt w q.1.kids q.2) := Lib.hid (fun q hq => by
        obtain ⟨k, hk⟩ := List.getElem?_of_mem hq
        obtain ⟨b, off, -, -, h⟩ := Hr.out k q hk
        exact h)
      have hpl : ps.length + 1 ≤ p.t.cnt := by
        have h1 := cntL_len p.t.kids
        rw [cnt_kids, ← Hps.out]
        rw [← Hps.out, List.length_map] at h1
        omega
      have hcl : cntL p.t.kids + 1 = p.t.cnt := (cnt_kids _).symm
      have Clone := Lib.hid (Clone_any w wo ak ck ps HC.out.below (RowP.below Hr.out HC.out.below) hpk.out hc1 hc2 (by omega))
      have hbs := HC.out.below.size
      have hpb : p.b < wo.heap.size := Hhp.out.2.1.lt
      go_wp2_with fail
      refine Clone.out.mono ?_
      rintro e wc ⟨v2, rfl, hO2, hb2⟩
      obtain ⟨N, hnr⟩ := newRow_own hO2
      obtain ⟨a2, c2, rfl, hc3, hc4⟩ := hnr.slice
      have RWc : Hid (Rw wc p.b (p.off + 9)) := Lib.hid (Hhp.out.2.1.same (hb2.block _ hpb))
      have CSc : Hid (Cells wc p.b p.off p.t.hd p.kv) := Lib.hid (Hhp.out.2.2.1.later hb2)
      have z8 := RWc.out.frozen (p.off + 8)
      have e8 := CSc.out.c8
      rw [hkv] at e8
      have B2 := Lib.hid hb2
      have Hnr := Lib.hid hnr
      obtain ⟨W2, hW2⟩ : ∃ W2, Hid (wc.setCell ⟨p.b, p.off + 8, none⟩ (.slice a2 ps.length c2) = W2) := ⟨_, Lib.hid rfl⟩
      have U2 : Hid (Upd wc W2 p.b p.off) := Lib.hid (by rw [← hW2.out]; exact Upd.set wc p.b p.off 8 (by omega) _)
      have CS2 : Hid (Cells W2 p.b p.off p.t.hd (.slice a2 ps.length c2)) := Lib.hid (by
        obtain ⟨cs, hcs, hl⟩ := RWc.out
        have hlt := (Array.getElem?_eq_some_iff.1 hcs).1
        have h8 : W2.cell? ⟨p.b, p.off + 8, none⟩ = some (.slice a2 ps.length c2) := by rw [← hW2.out]; exact World.cell?_setCell_same _ _ _ e8
        have hj : ∀ j, j < 8 → W2.cell? ⟨p.b, p.off + j, none⟩ = wc.cell? ⟨p.b, p.off + j, none⟩ := fun j hj => by rw [← hW2.out]; exact World.cell?_setCell_other _ _ _ _ (by intro h; simp only [Addr.mk.injEq] at h; omega)
        have C := CSc.out
        exact ⟨(hj 0 (by omega)).trans C.c0, (hj 1 (by omega)).trans C.c1, (hj 2 (by omega)).trans C.c2, (hj 3 (by omega)).trans C.c3, (hj 4 (by omega)).trans C.c4, (hj 5 (by omega)).trans C.c5, (hj 6 (by omega)).trans C.c6, (hj 7 (by omega)).trans C.c7, h8⟩)
      have BW2 : Hid (Below w.heap.size w W2) := Lib.hid (HC.out.below.trans ((B2.out.mono hbs).trans (U2.out.below _ Hhp.out.1)))
      clear hO2 hb2 hnr
      go_upto_region 6 with fail
      rw [hW2.out]
      obtain ⟨W3, hW3⟩ : ∃ W3, Hid (W3 = W2) := ⟨_, Lib.hid rfl⟩
      have U3 : Hid (Upd W2 W3 p.b p.off) := Lib.hid (by rw [hW3.out]; exact Upd.refl _ _ _)
      have CS3 : Hid (Cells W3 p.b p.off (f p.t.hd) (.slice a2 ps.length c2)) := Lib.hid (by rw [hW3.out, HF.out]; exact CS2.out)
      rw [← hW3.out]
      have Uc3 := Lib.hid (U2.out.trans U3.out)
      have hgp : g ≠ p.b := by
        obtain ⟨cs, hcs, -⟩ := Hhp.out.2.1
        rintro rfl
        rw [hg2] at hcs
        cases hcs
      have hgl : g < wo.heap.size := (Array.getElem?_eq_some_iff.1 hg2).1
      have hKp : Hid (KeepP w wo [p] W3) := Lib.hid (fun b cs hb hwb => by
        have hbc := (B2.out.block b (Array.getElem?_eq_some_iff.1 hb).1).trans hb
        by_cases e : b = p.b
        · subst e
          obtain ⟨cs', e1, e2, e3⟩ := Uc3.out.row cs hbc
          exact ⟨cs', e1, e2, fun j hj => e3 j (hj p (by simp) rfl)⟩
        · exact ⟨cs, (Uc3.out.other b e).trans hbc, rfl, fun _ _ => rfl⟩)
      have Hnr3 : Hid (NewRow wo W3 ps (.slice a2 ps.length c2) N) := Lib.hid (Hnr.out.keep fun _ h2 => Uc3.out.other N (by omega))
      have O3 : Hid (W3.ownsRow (w.heap.size + 2) 82 1 (.slice (some ⟨g, 0, none⟩) m cap) m (ptrs S0)) := Lib.hid (by
        have h1 : ((ptrs S0 ++ [Value.pointer (some ⟨p.b, p.off, none⟩)]).take (m * 1)) = ptrs S0 := by
          rw [List.take_append_of_le_length (by rw [ptrs_len, hmS.out]; omega), List.take_of_length_le (by rw [ptrs_len, hmS.out]; omega)]
        have h2 := OwnPop.out
        rw [h1] at h2
        refine own_same h2 fun g' hg' => ?_
        obtain rfl : g = g' := Option.some.inj hg'
        exact (Uc3.out.other g hgp).trans (B2.out.block g hgl))
      have hs3 : Hid (wo.heap.size ≤ W3.heap.size) := Lib.hid (by rw [Uc3.out.size]; exact B2.out.size)
      have B3 : Hid (Below w.heap.size w W3) := Lib.hid (BW2.out.trans (U3.out.below _ Hhp.out.1))
      have Rw3 : Hid (Rw W3 p.b (p.off + 9)) := Lib.hid (Uc3.out.rw RWc.out)
      have q8 := CS3.out.c8
      obtain ⟨L, hL⟩ : ∃ L, Hid (ps.length = L) := ⟨_, Lib.hid rfl⟩
      rw [hL.out] at q8 hc3
      rw [hL.out] at Hnr3 CS3
      rw [hL.out] at hpl
      have hc4' := hc4
      unfold maxLen at hc4'
      have hcsz := HC.out.size
      clear z8 e8 d0 d1 d2 d3 d4 d5 d6 d7 d8 cg p0 p1 p2 Clone
      rw [hL.out]
      go_wp2_with fail
      go_loopw [3, 34] (fun u c w4 => ∃ i : Nat, c = .int .i64 i ∧ i ≤ L ∧ Hid (w4.ownsRow (w.heap.size + 2) 82 1 u (m + i) (ptrs S0 ++ ptrs (kidP N (ps.take i)))) ∧ Hid (Grw w.heap.size W3 w4)) (fun _ c _ => L - (intOf c).toNat)
      case atStart => exact ⟨0, rfl, by omega, Lib.hid (by simpa [kidP, ptrs] using O3.out), Lib.hid (Grw.refl _ _)⟩
      case round =>
        obtain ⟨i, rfl, hi, hO4, hG4⟩ := hrel
        have hs4 := hG4.out.1
        have hs3' := hs3.out
        by_cases hlt : i < L
        · obtain ⟨q, hq⟩ : ∃ q, Hid (ps[i]? = some q) := ⟨_, Lib.hid (List.getElem?_eq_getElem (by rw [hL.out]; exact hlt))⟩
          have hN : Hid (a2 = some ⟨N, 0, none⟩) := Lib.hid (by
            rcases Hnr3.out with ⟨h0, -⟩ | ⟨-, -, cp, e, -⟩
            · rw [h0] at hq; have := hq.out; simp at this
            · injection e)
          have hN2 := hN.out
          subst hN2
          have x8 : wr.cell? ⟨p.b, p.off + 8, none⟩ = some (.slice (some ⟨N, 0, none⟩) L c2) := by
            obtain ⟨cs, hcs, -⟩ := Rw3.out
            exact (cell_same ((hG4.out.2.2 _ cs hcs).trans hcs.symm) _).trans q8
          have p0 : (i : Int) < (L : Int) := by omega
          have p1 : (0 : Int) ≤ (i : Int) := by omega
          have Rb : Hid (RowAt (wr.alloc (.cells #[.pointer (some ⟨N, i * 9, none⟩)] 82)) wr.heap.size 82 #[.pointer (some ⟨N, i * 9, none⟩)]) := Lib.hid (RowAt.new wr 82 _)
          have GA := Lib.hid (Grw.alloc w.heap.size wr (.cells #[.pointer (some ⟨N, i * 9, none⟩)] 82) (by omega))
          have OA : Hid ((wr.alloc (.cells #[.pointer (some ⟨N, i * 9, none⟩)] 82)).ownsRow (w.heap.size + 2) 82 1 u3 (m + i) (ptrs S0 ++ ptrs (kidP N (ps.take i)))) := Lib.hid (own_same hO4.out fun g' hg' => by
            obtain ⟨cur', hc'⟩ := own_type hO4.out hg'
            exact Below.heap_alloc wr _ g' (Array.getElem?_eq_some_iff.1 hc').1)
          have Hks := Lib.hid (kidP_take_succ (N := N) hq.out)
          have Hnews : Hid (∀ (j : Nat) (u : Value), [Value.pointer (some ⟨N, i * 9, none⟩)][j]? = some u → (wr.alloc (.cells #[.pointer (some ⟨N, i * 9, none⟩)] 82)).cell? ⟨wr.heap.size, j, none⟩ = some u) := Lib.hid (fun j u hj => by
            have h0 : j = 0 := by have := (List.getElem?_eq_some_iff.1 hj).1; simp at this; omega
            subst h0
            obtain rfl := (Option.some.inj hj)
            exact Rb.out.cell rfl)
          have Hone : Hid (∀ u ∈ [Value.pointer (some ⟨N, i * 9, none⟩)], u.oneCell' = true) := Lib.hid (fun u hu => by
            obtain rfl := List.mem_singleton.1 hu
            rfl)
          go_wp2_with (at_builtin; refine wpList_append_el (W := wr.alloc (.cells #[.pointer (some ⟨N, i * 9, none⟩)] 82)) (base := w.heap.size + 2) (n := m + i) rfl _ _ rfl Try.underlying124 infoPtr rfl (by decide) (by decide) u3 (ptrs S0 ++ ptrs (kidP N (ps.take i))) [.pointer (some ⟨N, i * 9, none⟩)] rfl OA.out wr.heap.size rfl rfl Hnews.out Hone.out (by omega) (by simp; omega) ?_; intro v5 w5 hown5 hg5)
          have G5 := Lib.hid (Grw.own (B := w.heap.size) OA.out (by decide) (by omega) (by simp; omega) hg5)
          have O5 : Hid (w5.ownsRow (w.heap.size + 2) 82 1 v5 (m + (i + 1)) (ptrs S0 ++ ptrs (kidP N (ps.take (i + 1))))) := Lib.hid (by
            rw [Hks.out, ptrs_app, ← List.append_assoc]; exact hown5)
          clear hown5 hg5
          go_wp2_with fail
          exact ⟨⟨i + 1, by go_num, by omega, O5, Lib.hid (hG4.out.trans (GA.out.trans G5.out))⟩, by simp [intOf]; omega⟩
        · obtain rfl : i = L := by omega
          have hS' : Hid (CInv f w T (S0 ++ kidP N ps) u3 wr) := Lib.hid (by
            have hA : ∀ q ∈ S0, Apart q p := fun q hq => (List.pairwise_append.1 HC.out.apart).2.2 q hq p (by simp)
            have hH : ∀ q ∈ S0, HoldsP w wo q := fun q hq => (HP.out q (by simp [hq])).1
            have hnr : NewRow wo W3 ps (.slice a2 ps.length c2) N := by rw [hL.out]; exact Hnr3.out
            have hgk : ∀ b cs, W3.heap[b]? = some (.cells cs 44 (0, 0)) → w.heap.size ≤ b → wr.heap[b]? = some (.cells cs 44 (0, 0)) := fun b cs h _ => hG4.out.2.2 b cs h
            have hown := hO4.out
            rw [← hL.out, List.take_length, ← hmS.out, ← ptrs_app] at hown
            exact {
              own := by rw [List.length_append, kidP_len]; exact hown
              apart := step_apart hH (List.pairwise_append.1 HC.out.apart).1 hnr
              holds := fun q hq => by
                refine ⟨(step_holds hA hH hpk.out hbs hKp.out hnr q hq).grow hgk, ?_⟩
                rcases List.mem_append.1 hq with h | h
                · exact (HP.out q (by simp [h])).2
                · obtain ⟨k, r, h1, rfl⟩ := kidP_mem h
                  rcases hnr with ⟨h0, -⟩ | ⟨-, h2, -⟩
                  · rw [h0] at h1; simp at h1
                  · show N ≠ _; omega
              wand := (Wand.step HC.out.wand hA Hhp.out Hps.out hs3.out hbs hKp.out (by rw [hL.out]; exact CS3.out) hnr).grow hs4 hgk
              below := B3.out.trans hG4.out.2.1
              size := by omega
              res := hG4.out.2.2 _ _ ((Uc3.out.other _ (fun e => hpn e.symm)).trans ((B2.out.block _ (by omega)).trans HC.out.res))
              few := by rw [cntS_app, cntS_kidP, Hps.out]; omega })
          go_wp2_with fail
          refine ⟨⟨_, hS'⟩, ?_⟩
          have h1 := left_le hS'.out
          rw [cntS_app, cntS_kidP, Hps.out] at h1
          rw [← HL.out]
          omega
end Go.Proofs.Ytbnbmjdjkadgoaa.K
