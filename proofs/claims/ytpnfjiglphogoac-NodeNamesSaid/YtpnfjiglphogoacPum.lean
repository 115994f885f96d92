/-
  For the laws of node: a tree with another node in the place that a way leads to. No condition.
-/
import Derived.Test.YtpnfjiglphogoacFol
namespace Go.Proofs.Ytpnfjiglphogoac
open Go.RowKit Go.Shelf
set_option linter.unusedSimpArgs false
set_option linter.unusedVariables false

/-- The tree with x at the end of the way. -/
def putN : Nd → List Int → Nd → Nd
  | _, [], x => x
  | t, i :: L, x => .mk t.hd (match t.kids[i.toNat]? with
      | none => t.kids
      | some y => t.kids.set i.toNat (putN y L x))
theorem putN_step {t y x : Nd} {k : Nat} {L : List Int} (h : t.kids[k]? = some y) : putN t ((k : Int) :: L) x = .mk t.hd (t.kids.set k (putN y L x)) := by
  rw [putN, Int.toNat_natCast, h]
theorem flat_disj : ∀ {Fs : List (List Nat)} {i j : Nat} {A B : List Nat} {q : Nat}, Fs.flatten.Nodup → Fs[i]? = some A → Fs[j]? = some B → i ≠ j → q ∈ A → q ∈ B → False
  | [], i, j, A, B, q, _, h, _, _, _, _ => by simp at h
  | X :: Fs, i, j, A, B, q, hn, hi, hj, hij, hA, hB => by
    rw [List.flatten_cons, List.nodup_append] at hn
    obtain ⟨h1, h2, h3⟩ := hn
    have up : ∀ {k : Nat} {C : List Nat}, Fs[k]? = some C → q ∈ C → q ∈ Fs.flatten := fun hk hq => List.mem_flatten.2 ⟨_, List.mem_of_getElem? hk, hq⟩
    cases i with
    | zero =>
      obtain rfl := Option.some.inj hi
      cases j with
      | zero => exact hij rfl
      | succ j =>
        rw [List.getElem?_cons_succ] at hj
        exact h3 q hA q (up hj hB) rfl
    | succ i =>
      rw [List.getElem?_cons_succ] at hi
      cases j with
      | zero =>
        obtain rfl := Option.some.inj hj
        exact h3 q hB q (up hi hA) rfl
      | succ j =>
        rw [List.getElem?_cons_succ] at hj
        exact flat_disj h2 hi hj (by omega) hA hB
theorem flat_nodup : ∀ {Fs : List (List Nat)} {i : Nat} {A : List Nat}, Fs.flatten.Nodup → Fs[i]? = some A → A.Nodup
  | [], i, A, _, h => by simp at h
  | X :: Fs, i, A, hn, hi => by
    rw [List.flatten_cons, List.nodup_append] at hn
    cases i with
    | zero => obtain rfl := Option.some.inj hi; exact hn.1
    | succ i => rw [List.getElem?_cons_succ] at hi; exact flat_nodup hn.2.1 hi
/-- A row of kids that isn't empty, laid open. -/
theorem SepAt.open {W : World} {ks : List Nd} {v : Value} {F : List Nat} (h : SepAt W ks v F) {k : Nat} {y : Nd} (hk : ks[k]? = some y) :
    ∃ (N cap : Nat) (Fs : List (List Nat)), v = .slice (some ⟨N, 0, none⟩) ks.length cap ∧ ks.length ≤ cap ∧ cap ≤ maxLen ∧ Fs.length = ks.length ∧ F = N :: Fs.flatten ∧ Rw W N (ks.length * 9) ∧
        ∀ (k : Nat) (t : Nd) (Fk : List Nat), ks[k]? = some t → Fs[k]? = some Fk → ∃ kv, Cells W N (k * 9) t.hd kv ∧ SepAt W t.kids kv Fk := by
  obtain ⟨d, hd⟩ := h
  rcases hd.up with ⟨h0, -⟩ | ⟨N, cap, Fs, e, h1, h2, h3, h4, h5, hx⟩
  · rw [h0] at hk; simp at hk
  · exact ⟨N, cap, Fs, e, h1, h2, h3, h4, h5, fun k t Fk hk hF => by
      obtain ⟨kv, c, hs⟩ := hx k t Fk hk hF
      exact ⟨kv, c, d, hs⟩⟩
theorem path_mem {W : World} : ∀ {way : List Int} {b o : Nat} {t : Nd} {kv : Value} {F : List Nat} {b' o' : Nat} {x : Nd} {kv' : Value}, PathTo W b o t kv way b' o' x kv' → SepAt W t.kids kv F → (way = [] ∧ b' = b ∧ o' = o) ∨ b' ∈ F
  | [], b, o, t, kv, F, b', o', x, kv', ⟨e1, e2, e3, e4⟩, hs => .inl ⟨rfl, e1, e2⟩
  | i :: L, b, o, t, kv, F, b', o', x, kv', ⟨N, off, n, c, k, y, kvy, e1, e2, hk, hc, hky, hP⟩, hs => by
    right
    obtain ⟨N', cap, Fs, ev, h1, h2, h3, hF, h5, hx⟩ := hs.open hk
    rw [e1] at ev
    cases ev
    have hkl := (List.getElem?_eq_some_iff.1 hk).1
    obtain ⟨Fk, hFk⟩ : ∃ Fk, Fs[k]? = some Fk := ⟨_, List.getElem?_eq_getElem (by omega)⟩
    obtain ⟨kv2, c2, s2⟩ := hx k y Fk hk hFk
    rw [Nat.zero_add] at hc
    have ekv : kv2 = kvy := by have := c2.c8.symm.trans hc.c8; exact Option.some.inj this
    subst ekv
    rw [hF]
    rcases path_mem hP s2 with ⟨-, e, -⟩ | h
    · rw [e]; exact List.mem_cons_self
    · exact List.mem_cons_of_mem _ (List.mem_flatten.2 ⟨Fk, List.mem_of_getElem? hFk, h⟩)
theorem put_kids {W V : World} {b' o' : Nat} {x : Nd} {kvx : Value} (hcell : Cells V b' o' x.hd kvx) (hkx : KidsAt V x.kids kvx)
    (hrow : ∀ (cs : Array Value), W.heap[b']? = some (Obj.cells cs 24 (0, 0)) → ∃ cs', V.heap[b']? = some (Obj.cells cs' 24 (0, 0)) ∧ cs'.size = cs.size ∧ ∀ j, (j < o' ∨ o' + 9 ≤ j) → cs'[j]? = cs[j]?) :
    ∀ {way : List Int} {b o : Nat} {t : Nd} {kv : Value} {F : List Nat} {y : Nd} {kv' : Value}, PathTo W b o t kv way b' o' y kv' → SepAt W t.kids kv F → F.Nodup →
      (∀ q ∈ F, q ≠ b' → V.heap[q]? = W.heap[q]?) → (way ≠ [] → Cells V b o t.hd kv) → ∃ kv2, Cells V b o (putN t way x).hd kv2 ∧ KidsAt V (putN t way x).kids kv2
  | [], b, o, t, kv, F, y, kv', ⟨e1, e2, e3, e4⟩, hs, hn, ho, hr => by
    subst e1 e2
    exact ⟨kvx, hcell, hkx⟩
  | i :: L, b, o, t, kv, F, y, kv', ⟨N, off, n, c, k, y0, kvy, e1, e2, hk, hc, hky, hP⟩, hs, hn, ho, hr => by
    obtain ⟨N', cap, Fs, ev, h1, h2, h3, hF, h5, hx⟩ := hs.open hk
    have ev0 := ev
    rw [e1] at ev
    cases ev
    have hkl := (List.getElem?_eq_some_iff.1 hk).1
    obtain ⟨Fk, hFk⟩ : ∃ Fk, Fs[k]? = some Fk := ⟨_, List.getElem?_eq_getElem (by omega)⟩
    obtain ⟨kv2, c2, s2⟩ := hx k y0 Fk hk hFk
    rw [Nat.zero_add] at hc hP
    have ekv : kv2 = kvy := by have := c2.c8.symm.trans hc.c8; exact Option.some.inj this
    subst ekv
    rw [hF, List.nodup_cons] at hn
    obtain ⟨hN, hfl⟩ := hn
    have inF : ∀ {j : Nat} {A : List Nat} {q : Nat}, Fs[j]? = some A → q ∈ A → q ∈ Fs.flatten := fun hj hq => List.mem_flatten.2 ⟨_, List.mem_of_getElem? hj, hq⟩
    have hb' := path_mem hP s2
    have hNsame : ∀ j, j ≠ k → ∀ i, i < 9 → V.cell? ⟨N, j * 9 + i, none⟩ = W.cell? ⟨N, j * 9 + i, none⟩ := fun j hj i hi => by
      rcases hb' with ⟨-, e, e'⟩ | h
      · subst e
        obtain ⟨cs, hcs, -⟩ := h5
        obtain ⟨cs', hcs', -, hout⟩ := hrow cs hcs
        have := hout (j * 9 + i) (by rw [e']; omega)
        simp [World.cell?, hcs, hcs', this]
      · exact cell_same (ho N (by rw [hF]; exact List.mem_cons_self) (fun e => hN (by rw [e]; exact inF hFk h))) _
    obtain ⟨kv3, c3, k3⟩ := put_kids hcell hkx hrow hP s2 (flat_nodup hfl hFk)
      (fun q hq hne => ho q (by rw [hF]; exact List.mem_cons_of_mem _ (inF hFk hq)) hne)
      (fun hne => by
        rcases hb' with ⟨e, -⟩ | h
        · exact absurd e hne
        · exact c2.same fun i hi => cell_same (ho N (by rw [hF]; exact List.mem_cons_self) (fun e => hN (by rw [e]; exact inF hFk h))) _)
    rw [e2, putN_step hk]
    refine ⟨kv, hr (by simp), ?_⟩
    show KidsAt V (t.kids.set k (putN y0 L x)) kv
    have hlen : (t.kids.set k (putN y0 L x)).length = t.kids.length := List.length_set
    rw [ev0, ← hlen]
    refine KidsAt.mk (by omega) h2 fun j z hz => ?_
    rw [List.getElem?_set] at hz
    split at hz
    · rename_i hjk
      subst hjk
      obtain rfl := Option.some.inj hz
      exact ⟨N, 0, kv3, rfl, by rw [Nat.zero_add]; exact c3, k3⟩
    · rename_i hjk
      have hjl := (List.getElem?_eq_some_iff.1 hz).1
      obtain ⟨Fj, hFj⟩ : ∃ Fj, Fs[j]? = some Fj := ⟨_, List.getElem?_eq_getElem (by omega)⟩
      obtain ⟨kvj, cj, sj⟩ := hx j z Fj hz hFj
      refine ⟨N, 0, kvj, rfl, by rw [Nat.zero_add]; exact cj.same (hNsame j (fun e => hjk e.symm)), ?_⟩
      refine (sj.keep fun q hq => ho q (by rw [hF]; exact List.mem_cons_of_mem _ (inF hFj hq)) ?_).kids
      rintro rfl
      rcases hb' with ⟨-, e, -⟩ | h
      · exact hN (by rw [← e]; exact inF hFj hq)
      · exact flat_disj hfl hFk hFj hjk h hq
end Go.Proofs.Ytpnfjiglphogoac
