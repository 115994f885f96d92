/-
  For the laws on the parser: where a token stands, and of what a name is made. No program. No condition.
-/
import Derived.Test.YtbnbmjdjkadgoaaDoorXPt
import Derived.Test.YtbnbmjdjkadgoaaDoorDs
import Derived.Test.YtbnbmjdjkadgoaaDoorRows
import Derived.Deep.Slices
import Derived.ProofKit
import Derived.LaidMore
import Derived.OpenShut
import Derived.ShutString
import Derived.SliceStrings
import Derived.ChangeSlices
import Derived.Stop.Joined
import Derived.Lib.LaidTab
import Derived.Stop.LaidErr
namespace Go.Proofs.YtbnbmjdjkadgoaaDoor.X
set_option linter.unusedSimpArgs false
set_option linter.unusedVariables false
/-- A token of what is left at n: there it stands; a name is made of letters, digits and lines, and is something. -/
def TokIn (n : Nat) (l : List UInt8) (t : Tk) : Prop := ∃ k : Nat, t.at_ = ((n + k : Nat) : Int) ∧ k + t.text.length ≤ l.length ∧ (l.drop k).take t.text.length = t.text ∧ (t.kind = 1 → t.text ≠ [] ∧ ∀ c ∈ t.text, aln c = true)
theorem first_nm {l : List UInt8} (h : (first l).1 = 1) : (first l).2.1 = nameLen l ∧ 0 < nameLen l := by
  unfold first at h ⊢
  by_cases h1 : 0 < nameLen l
  · rw [if_pos h1] at h ⊢
    by_cases h2 : 20 < nameLen l
    · rw [if_pos h2] at h; cases h
    · rw [if_neg h2] at h ⊢
      split at h
      · cases h
      · rename_i h3
        rw [if_neg h3]
        exact ⟨rfl, h1⟩
  · rw [if_neg h1] at h
    by_cases h2 : 0 < numLen l
    · rw [if_pos h2] at h
      split at h <;> cases h
    · rw [if_neg h2] at h
      split at h <;> cases h
theorem name_chars (l : List UInt8) : ∀ c ∈ l.take (nameLen l), aln c = true := by
  intro c hc
  cases l with
  | nil => simp [nameLen] at hc
  | cons a r =>
    by_cases ha : ltr a = true
    · rw [show nameLen (a :: r) = (r.takeWhile aln).length + 1 by rw [nameLen, if_pos ha], List.take_succ_cons, take_while] at hc
      rcases List.mem_cons.1 hc with rfl | hc
      · unfold aln; rw [ha]; simp
      · exact List.all_eq_true.1 List.all_takeWhile c hc
    · rw [show nameLen (a :: r) = 0 by rw [nameLen, if_neg ha]] at hc
      simp at hc
theorem lex_in : ∀ (m n : Nat) (l : List UInt8), l.length ≤ m → (lexR n l).2.2 = 0 → ∀ t ∈ (lexR n l).1, TokIn n l t := by
  intro m
  induction m with
  | zero =>
    intro n l hl h
    obtain rfl : l = [] := List.eq_nil_of_length_eq_zero (by omega)
    rw [lexR]
    have e : sep [] = (0, true) := by rw [sep]
    rw [e]
    intro t ht
    simp at ht
    subst ht
    exact ⟨0, by simp, by simp, by simp, nofun⟩
  | succ m ih =>
    intro n l hl h
    rw [lexR] at h ⊢
    have hsl := sep_le l
    by_cases h1 : (sep l).2 = false
    · rw [if_pos h1] at h; cases h
    rw [if_neg h1] at h ⊢
    by_cases h2 : l.drop (sep l).1 = []
    · rw [if_pos h2]
      intro t ht
      simp at ht
      subst ht
      exact ⟨(sep l).1, by simp, by simp; omega, by simp, nofun⟩
    rw [if_neg h2] at h ⊢
    have hfc := first_cases (l.drop (sep l).1)
    by_cases h3 : (first (l.drop (sep l).1)).2.1 = 0
    · rw [if_pos h3] at h
      rcases hfc with hf | hf
      · omega
      · simp only at h; omega
    rw [if_neg h3] at h ⊢
    by_cases h4 : (lexR (n + (sep l).1 + (first (l.drop (sep l).1)).2.1) ((l.drop (sep l).1).drop (first (l.drop (sep l).1)).2.1)).2.2 ≠ 0
    · rw [if_pos h4] at h; exact absurd h h4
    rw [if_neg h4]
    have h4 := Classical.not_not.1 h4
    obtain ⟨f1, f2, f3, f4, f5⟩ := hfc.resolve_right (fun hf => h3 hf.1)
    rw [List.length_drop] at f3
    have hlen : ((l.drop (sep l).1).drop (first (l.drop (sep l).1)).2.1).length = l.length - (sep l).1 - (first (l.drop (sep l).1)).2.1 := by rw [List.length_drop, List.length_drop]
    have g := ih (n + (sep l).1 + (first (l.drop (sep l).1)).2.1) ((l.drop (sep l).1).drop (first (l.drop (sep l).1)).2.1) (by omega) h4
    have hn := fun e => @first_nm (l.drop (sep l).1) e
    have hch := name_chars (l.drop (sep l).1)
    intro t ht
    rcases List.mem_cons.1 ht with rfl | ht
    · refine ⟨(sep l).1, rfl, ?_, ?_, fun e => ?_⟩
      · simp only [List.length_take, List.length_drop]; omega
      · simp only [List.length_take, List.length_drop]
        rw [show min (first (l.drop (sep l).1)).2.1 (l.length - (sep l).1) = (first (l.drop (sep l).1)).2.1 by omega]
      · obtain ⟨e1, e2⟩ := hn e
        simp only
        rw [e1]
        refine ⟨fun e3 => ?_, hch⟩
        have := congrArg List.length e3
        rw [List.length_take, List.length_drop] at this
        simp at this
        omega
    · have g2 := g t ht
      obtain ⟨k, k1, k2, k3, k4⟩ := g2
      rw [hlen] at k2
      refine ⟨(sep l).1 + (first (l.drop (sep l).1)).2.1 + k, by rw [k1]; omega, by omega, ?_, k4⟩
      rw [List.drop_drop, List.drop_drop] at k3
      rw [Nat.add_assoc]
      exact k3
/-- A token of a text. -/
theorem tok_in {l : List UInt8} (h : (lexR 0 l).2.2 = 0) : ∀ t ∈ (lexR 0 l).1, TokIn 0 l t := lex_in l.length 0 l (Nat.le_refl _) h
end Go.Proofs.YtbnbmjdjkadgoaaDoor.X
/-
  For the laws of decls: no two entities have one id; each stands where its name stands; owners are there. No program. No condition.
-/
namespace Go.Proofs.YtbnbmjdjkadgoaaDoor.D
open Go.Proofs.YtbnbmjdjkadgoaaDoor.X (aln TokIn)
set_option linter.unusedSimpArgs false
set_option linter.unusedVariables false

theorem val_dgt (n : Nat) : X.valOf (dgt n) = n := by
  unfold dgt
  induction n using Nat.strongRecOn with
  | _ n ih =>
    rw [Go.Lib.decDigits]
    split
    · rename_i h
      unfold X.valOf
      simp [UInt8.toNat_ofNat]
      omega
    · rename_i h
      have h1 := ih (n / 10) (by omega)
      unfold X.valOf at h1 ⊢
      rw [List.foldl_append, h1]
      simp [UInt8.toNat_ofNat]
      omega
theorem dgt_inj {a b : Nat} (h : dgt a = dgt b) : a = b := by rw [← val_dgt a, ← val_dgt b, h]
/-- A name. -/
def Nm (x : B8) : Prop := x ≠ [] ∧ ∀ c ∈ x, aln c = true
theorem Nm.no {x : B8} (h : Nm x) {c : UInt8} (hc : aln c = false) : c ∉ x := fun hm => by rw [h.2 c hm] at hc; cases hc
/-- Two texts cut at the first of a sign. -/
theorem cut_at {c : UInt8} : ∀ {x y d e : B8}, c ∉ x → c ∉ y → x ++ c :: d = y ++ c :: e → x = y ∧ d = e
  | [], [], d, e, _, _, h => ⟨rfl, by injection h⟩
  | [], b :: y, d, e, _, h2, h => by
    injection h with h3 h4
    exact absurd (by rw [h3]; simp) h2
  | a :: x, [], d, e, h1, _, h => by
    injection h with h3 h4
    exact absurd (by rw [← h3]; simp) h1
  | a :: x, b :: y, d, e, h1, h2, h => by
    injection h with h3 h4
    obtain ⟨h5, h6⟩ := cut_at (fun hm => h1 (by simp [hm])) (fun hm => h2 (by simp [hm])) h4
    exact ⟨by rw [h3, h5], h6⟩
theorem idF_inj {a b c d : B8} (ha : Nm a) (hb : Nm b) (h : idF a c = idF b d) : a = b ∧ c = d := by
  unfold idF at h
  rw [List.append_assoc, List.append_assoc] at h
  exact cut_at (ha.no (by decide)) (hb.no (by decide)) h
theorem idM_inj {a b c d : B8} (ha : Nm a) (hb : Nm b) (h : idM a c = idM b d) : a = b ∧ c = d := by
  unfold idM at h
  rw [List.append_assoc, List.append_assoc, List.append_assoc, List.append_assoc] at h
  obtain ⟨h1, h2⟩ := cut_at (ha.no (by decide)) (hb.no (by decide)) h
  exact ⟨h1, List.append_cancel_right h2⟩
theorem hash_idM {a b : B8} (ha : Nm a) (hb : Nm b) : (35 : UInt8) ∉ idM a b := by
  unfold idM
  have h1 := ha.no (show aln 35 = false by decide)
  have h2 := hb.no (show aln 35 = false by decide)
  simp [h1, h2]
theorem hash_idF {a b : B8} (ha : Nm a) (hb : Nm b) : (35 : UInt8) ∉ idF a b := by
  unfold idF
  have h1 := ha.no (show aln 35 = false by decide)
  have h2 := hb.no (show aln 35 = false by decide)
  simp [h1, h2]
theorem br_idF {a b : B8} (ha : Nm a) (hb : Nm b) : (40 : UInt8) ∉ idF a b := by
  unfold idF
  have h1 := ha.no (show aln 40 = false by decide)
  have h2 := hb.no (show aln 40 = false by decide)
  simp [h1, h2]
theorem br_idM (a b : B8) : (40 : UInt8) ∈ idM a b := by unfold idM; simp
theorem dot_idF (a b : B8) : (46 : UInt8) ∈ idF a b := by unfold idF; simp
theorem dot_idM (a b : B8) : (46 : UInt8) ∈ idM a b := by unfold idM; simp
theorem hash_idL (a : B8) (k : Nat) : (35 : UInt8) ∈ idL a k := by unfold idL; simp
theorem idL_inj {a b : B8} {j k : Nat} (ha : (35 : UInt8) ∉ a) (hb : (35 : UInt8) ∉ b) (h : idL a j = idL b k) : a = b ∧ j = k := by
  unfold idL at h
  rw [List.append_assoc, List.append_assoc] at h
  obtain ⟨h1, h2⟩ := cut_at ha hb h
  exact ⟨h1, dgt_inj h2⟩
/-- Of what form an entity is. -/
def Fm (e : En) : Prop := (e.kind = 1 ∧ e.owner = [] ∧ e.id = e.name ∧ Nm e.name) ∨ (e.kind = 2 ∧ e.id = idF e.owner e.name ∧ Nm e.owner ∧ Nm e.name) ∨ (e.kind = 3 ∧ e.id = idM e.owner e.name ∧ Nm e.owner ∧ Nm e.name) ∨
  (e.kind = 4 ∧ ∃ c m k, e.owner = idM c m ∧ Nm c ∧ Nm m ∧ e.id = idL e.owner k)
/-- It stands where its name stands. -/
def Pl (ss : List B8) (e : En) : Prop := ∃ (f a : Nat) (s : B8), e.file = f ∧ e.at_ = a ∧ ss[f]? = some s ∧ a + e.name.length ≤ s.length ∧ (s.drop a).take e.name.length = e.name
/-- What holds of a table. -/
structure Inv (ss : List B8) (out : List En) : Prop where
  ids : out.Pairwise fun a b => a.id ≠ b.id
  fm : ∀ e ∈ out, Fm e
  pl : ∀ e ∈ out, Pl ss e
  own4 : ∀ e ∈ out, e.kind = 4 → ∃ m ∈ out, m.kind = 3 ∧ m.id = e.owner
  own2 : ∀ e ∈ out, e.kind = 2 ∨ e.kind = 3 → ∃ m ∈ out, m.kind = 1 ∧ m.id = e.owner
theorem Inv.nil (ss : List B8) : Inv ss [] := ⟨List.Pairwise.nil, nofun, nofun, nofun, nofun⟩
theorem Inv.snoc {ss : List B8} {out : List En} {e : En} (h : Inv ss out) (hid : ∀ a ∈ out, a.id ≠ e.id) (hf : Fm e) (hp : Pl ss e) (h4 : e.kind = 4 → ∃ m ∈ out, m.kind = 3 ∧ m.id = e.owner) (h2 : e.kind = 2 ∨ e.kind = 3 → ∃ m ∈ out, m.kind = 1 ∧ m.id = e.owner) : Inv ss (out ++ [e]) := by
  refine ⟨?_, ?_, ?_, ?_, ?_⟩
  · rw [List.pairwise_append]
    exact ⟨h.ids, List.pairwise_singleton _ _, fun a ha b hb => by obtain rfl := List.mem_singleton.1 hb; exact hid a ha⟩
  all_goals
    intro a ha
    rcases List.mem_append.1 ha with ha | ha
  · exact h.fm a ha
  · obtain rfl := List.mem_singleton.1 ha; exact hf
  · exact h.pl a ha
  · obtain rfl := List.mem_singleton.1 ha; exact hp
  · intro hk; obtain ⟨m, h1, h2⟩ := h.own4 a ha hk; exact ⟨m, List.mem_append_left _ h1, h2⟩
  · obtain rfl := List.mem_singleton.1 ha; intro hk; obtain ⟨m, h1, h2⟩ := h4 hk; exact ⟨m, List.mem_append_left _ h1, h2⟩
  · intro hk; obtain ⟨m, h1, h2⟩ := h.own2 a ha hk; exact ⟨m, List.mem_append_left _ h1, h2⟩
  · obtain rfl := List.mem_singleton.1 ha; intro hk; obtain ⟨m, h1, h3⟩ := h2 hk; exact ⟨m, List.mem_append_left _ h1, h3⟩
theorem key_mem {out : List En} {a : En} (ha : a ∈ out) (hk : a.kind ≠ 4) : a.key ∈ keysOf out := List.mem_map.2 ⟨a, List.mem_filter.2 ⟨ha, by simpa using hk⟩, rfl⟩
theorem fresh_cls {out : List En} (hf : ∀ e ∈ out, Fm e) {x : B8} (hx : Nm x) (hk : (⟨1, [], x⟩ : Key) ∉ keysOf out) : ∀ a ∈ out, a.id ≠ x := by
  intro a ha h
  rcases hf a ha with ⟨k, o, i, n⟩ | ⟨k, i, o, n⟩ | ⟨k, i, o, n⟩ | ⟨k, c, m, j, o, n1, n2, i⟩
  · refine hk ?_
    have := key_mem ha (by rw [k]; decide)
    unfold En.key at this
    rw [k, o, ← i, h] at this
    exact this
  · exact hx.no (show aln 46 = false by decide) (by rw [← h, i]; exact dot_idF _ _)
  · exact hx.no (show aln 46 = false by decide) (by rw [← h, i]; exact dot_idM _ _)
  · exact hx.no (show aln 35 = false by decide) (by rw [← h, i]; exact hash_idL _ _)
theorem fresh_fld {out : List En} (hf : ∀ e ∈ out, Fm e) {c x : B8} (hc : Nm c) (hx : Nm x) (hk : (⟨2, c, x⟩ : Key) ∉ keysOf out) : ∀ a ∈ out, a.id ≠ idF c x := by
  intro a ha h
  rcases hf a ha with ⟨k, o, i, n⟩ | ⟨k, i, o, n⟩ | ⟨k, i, o, n⟩ | ⟨k, c', m, j, o, n1, n2, i⟩
  · exact n.no (show aln 46 = false by decide) (by rw [← i, h]; exact dot_idF _ _)
  · rw [i] at h
    obtain ⟨h1, h2⟩ := idF_inj o hc h
    refine hk ?_
    have := key_mem ha (by rw [k]; decide)
    unfold En.key at this
    rw [k, h1, h2] at this
    exact this
  · exact br_idF hc hx (by rw [← h, i]; exact br_idM _ _)
  · exact hash_idF hc hx (by rw [← h, i]; exact hash_idL _ _)
theorem fresh_met {out : List En} (hf : ∀ e ∈ out, Fm e) {c x : B8} (hc : Nm c) (hx : Nm x) (hk : (⟨3, c, x⟩ : Key) ∉ keysOf out) : ∀ a ∈ out, a.id ≠ idM c x := by
  intro a ha h
  rcases hf a ha with ⟨k, o, i, n⟩ | ⟨k, i, o, n⟩ | ⟨k, i, o, n⟩ | ⟨k, c', m, j, o, n1, n2, i⟩
  · exact n.no (show aln 46 = false by decide) (by rw [← i, h]; exact dot_idM _ _)
  · exact br_idF o n (by rw [← i, h]; exact br_idM _ _)
  · rw [i] at h
    obtain ⟨h1, h2⟩ := idM_inj o hc h
    refine hk ?_
    have := key_mem ha (by rw [k]; decide)
    unfold En.key at this
    rw [k, h1, h2] at this
    exact this
  · exact hash_idM hc hx (by rw [← h, i]; exact hash_idL _ _)
theorem fresh_loc {out : List En} (hf : ∀ e ∈ out, Fm e) {c x : B8} (hc : Nm c) (hx : Nm x) {i : Nat} (hk : ∀ e ∈ out, e.kind = 4 → e.owner = idM c x → ∃ k < i, e.id = idL (idM c x) k) : ∀ a ∈ out, a.id ≠ idL (idM c x) i := by
  intro a ha h
  have hh := hash_idL (idM c x) i
  rw [← h] at hh
  rcases hf a ha with ⟨k, o, j, n⟩ | ⟨k, j, o, n⟩ | ⟨k, j, o, n⟩ | ⟨k, c', m, j, o, n1, n2, d⟩
  · rw [j] at hh; exact n.no (show aln 35 = false by decide) hh
  · rw [j] at hh; exact hash_idF o n hh
  · rw [j] at hh; exact hash_idM o n hh
  · have h1 : a.owner = idM c x := by
      rw [d] at h
      exact (idL_inj (by rw [o]; exact hash_idM n1 n2) (hash_idM hc hx) h).1
    obtain ⟨q, hq, e⟩ := hk a ha k h1
    rw [e] at h
    have := (idL_inj (hash_idM hc hx) (hash_idM hc hx) h).2
    omega
/-- What a node that is declared says. -/
def NdOk (ss : List B8) (f : Nat) (k : Nd) : Prop := Nm k.hd.text ∧ ∃ (a : Nat) (s : B8), k.hd.at_ = a ∧ ss[f]? = some s ∧ a + k.hd.text.length ≤ s.length ∧ (s.drop a).take k.hd.text.length = k.hd.text
theorem NdOk.pl {ss : List B8} {f : Nat} {k : Nd} (h : NdOk ss f k) (kind : Int) (id owner : B8) (st : Bool) (ps : List B8) : Pl ss ⟨kind, id, k.hd.text, owner, k.hd.type, st, ps, (f : Nat), k.hd.at_⟩ := by
  obtain ⟨_, a, s, h1, h2, h3, h4⟩ := h
  exact ⟨f, a, s, rfl, h1, h2, h3, h4⟩
theorem runs_step {out : List En} {e : En} {tw : Bool} {l : List (En × Bool)} (h : (runs out ((e, tw) :: l)).2 = none) : step out e tw = false ∧ (runs (out ++ [e]) l).2 = none ∧ runs out ((e, tw) :: l) = runs (out ++ [e]) l := by
  rw [runs] at h
  split at h
  · cases h
  · rename_i hs
    refine ⟨by simpa using hs, h, ?_⟩
    rw [runs, if_neg hs]
theorem inv_locs {ss : List B8} {f : Nat} {c x : B8} (hc : Nm c) (hx : Nm x) : ∀ (l : List (Nd × Bool)) (i : Nat) (out : List En), Inv ss out → (∀ p ∈ l, NdOk ss f p.1) → (∃ m ∈ out, m.kind = 3 ∧ m.id = idM c x) → (∀ e ∈ out, e.kind = 4 → e.owner = idM c x → ∃ k < i, e.id = idL (idM c x) k) →
    (runs out (locs (f : Nat) (idM c x) i l)).2 = none → Inv ss (runs out (locs (f : Nat) (idM c x) i l)).1 ∧ ∀ e ∈ out, e ∈ (runs out (locs (f : Nat) (idM c x) i l)).1
  | [], i, out, h, _, _, _, _ => ⟨h, fun e he => he⟩
  | p :: l, i, out, h, hl, hm, hk, hr => by
    rw [locs, locE] at hr ⊢
    obtain ⟨h1, h2, h3⟩ := runs_step hr
    rw [h3]
    have hn := hl p (by simp)
    obtain ⟨m, m1, m2, m3⟩ := hm
    have hi : Inv ss (out ++ [ent 4 (f : Nat) p.1 (idL (idM c x) i) (idM c x)]) := h.snoc (fresh_loc h.fm hc hx hk) (.inr (.inr (.inr ⟨rfl, c, x, i, rfl, hc, hx, rfl⟩))) (hn.pl 4 _ _ false []) (fun _ => ⟨m, m1, m2, m3⟩) (fun hh => by
      rcases hh with hh | hh
      · exact absurd (show (4 : Int) = 2 from hh) (by decide)
      · exact absurd (show (4 : Int) = 3 from hh) (by decide))
    obtain ⟨g1, g2⟩ := inv_locs hc hx l (i + 1) _ hi (fun q hq => hl q (by simp [hq])) ⟨m, List.mem_append_left _ m1, m2, m3⟩ (fun e he h4 ho => by
      rcases List.mem_append.1 he with he | he
      · obtain ⟨k, k1, k2⟩ := hk e he h4 ho
        exact ⟨k, by omega, k2⟩
      · obtain rfl := List.mem_singleton.1 he
        exact ⟨i, by omega, rfl⟩) h2
    exact ⟨g1, fun e he => g2 e (List.mem_append_left _ he)⟩
theorem inv_mem {ss : List B8} {f : Nat} {c : B8} {k : Nd} (hc : Nm c) {out : List En} (h : Inv ss out) (hcl : ∃ m ∈ out, m.kind = 1 ∧ m.id = c) (hk : (kd k = 2 ∨ kd k = 3) → NdOk ss f k) (hl : ∀ p ∈ evN [] k, NdOk ss f p.1) (hr : (runs out (memEv (f : Nat) c k)).2 = none) :
    Inv ss (runs out (memEv (f : Nat) c k)).1 ∧ ∀ e ∈ out, e ∈ (runs out (memEv (f : Nat) c k)).1 := by
  unfold memEv at hr ⊢
  split
  · rename_i h2
    rw [if_pos h2] at hr
    obtain ⟨h1, h3, h4⟩ := runs_step hr
    rw [h4]
    have hn := hk (.inl h2)
    rw [step_not (show (fldE (f : Nat) c k).kind ≠ 4 by show (2 : Int) ≠ 4; decide)] at h1
    have hkey : (⟨2, c, k.hd.text⟩ : Key) ∉ keysOf out := of_decide_eq_false h1
    exact ⟨h.snoc (fresh_fld h.fm hc hn.1 hkey) (.inr (.inl ⟨rfl, rfl, hc, hn.1⟩)) (hn.pl 2 _ _ _ []) (fun hh => absurd hh (by show ¬ (2 : Int) = 4; decide)) (fun _ => hcl), fun e he => List.mem_append_left _ he⟩
  · rename_i h2
    rw [if_neg h2] at hr
    split
    · rename_i h3
      rw [if_pos h3] at hr
      obtain ⟨h1, h5, h4⟩ := runs_step hr
      rw [h4]
      have hn := hk (.inr h3)
      rw [step_not (show (metE (f : Nat) c k).kind ≠ 4 by show (3 : Int) ≠ 4; decide)] at h1
      have hkey : (⟨3, c, k.hd.text⟩ : Key) ∉ keysOf out := of_decide_eq_false h1
      have hi : Inv ss (out ++ [metE (f : Nat) c k]) := h.snoc (fresh_met h.fm hc hn.1 hkey) (.inr (.inr (.inl ⟨rfl, rfl, hc, hn.1⟩))) (hn.pl 3 _ _ _ _) (fun hh => absurd hh (by show ¬ (3 : Int) = 4; decide)) (fun _ => hcl)
      obtain ⟨g1, g2⟩ := inv_locs (f := f) hc hn.1 (evN [] k) 0 _ hi hl ⟨metE (f : Nat) c k, List.mem_append_right _ (by simp), rfl, rfl⟩ (fun e he h4 ho => by
        exfalso
        rcases List.mem_append.1 he with he | he
        · obtain ⟨m, m1, m2, m3⟩ := h.own4 e he h4
          rcases h.fm m m1 with ⟨q, _⟩ | ⟨q, _⟩ | ⟨q, i, o, n⟩ | ⟨q, _⟩
          · rw [m2] at q; exact absurd q (by decide)
          · rw [m2] at q; exact absurd q (by decide)
          · rw [i, ho] at m3
            obtain ⟨e1, e2⟩ := idM_inj o hc m3
            refine hkey ?_
            have := key_mem m1 (by rw [m2]; decide)
            unfold En.key at this
            rw [m2, e1, e2] at this
            exact this
          · rw [m2] at q; exact absurd q (by decide)
        · obtain rfl := List.mem_singleton.1 he
          exact absurd h4 (by show ¬ (3 : Int) = 4; decide)) h5
      exact ⟨g1, fun e he => g2 e (List.mem_append_left _ he)⟩
    · exact ⟨h, fun e he => he⟩
theorem aft_none {r : List En × Option En} {l : List (En × Bool)} (h : (aft r l).2 = none) : r.2 = none ∧ aft r l = runs r.1 l := by
  unfold aft at h ⊢
  cases hr : r.2 with
  | none => rw [hr] at h; exact ⟨rfl, rfl⟩
  | some e => rw [hr] at h; cases h
/-- What the nodes of a class say. -/
structure ClOk (ss : List B8) (f : Nat) (n : Nd) : Prop where
  self : NdOk ss f n
  mem : ∀ k ∈ n.kids, (kd k = 2 ∨ kd k = 3) → NdOk ss f k
  loc : ∀ k ∈ n.kids, ∀ p ∈ evN [] k, NdOk ss f p.1
theorem inv_mems {ss : List B8} {f : Nat} {c : B8} (hc : Nm c) : ∀ (ks : List Nd) (out : List En), Inv ss out → (∃ m ∈ out, m.kind = 1 ∧ m.id = c) → (∀ k ∈ ks, (kd k = 2 ∨ kd k = 3) → NdOk ss f k) → (∀ k ∈ ks, ∀ p ∈ evN [] k, NdOk ss f p.1) → (runs out (ks.flatMap (memEv (f : Nat) c))).2 = none →
    Inv ss (runs out (ks.flatMap (memEv (f : Nat) c))).1 ∧ ∀ e ∈ out, e ∈ (runs out (ks.flatMap (memEv (f : Nat) c))).1
  | [], out, h, _, _, _, _ => ⟨h, fun e he => he⟩
  | k :: ks, out, h, hcl, h1, h2, hr => by
    rw [List.flatMap_cons, runs_app] at hr ⊢
    obtain ⟨h3, h4⟩ := aft_none hr
    rw [h4] at hr ⊢
    obtain ⟨g1, g2⟩ := inv_mem (f := f) hc h hcl (h1 k (by simp)) (h2 k (by simp)) h3
    obtain ⟨m, m1, m2⟩ := hcl
    obtain ⟨g3, g4⟩ := inv_mems hc ks _ g1 ⟨m, g2 m m1, m2⟩ (fun x hx => h1 x (by simp [hx])) (fun x hx => h2 x (by simp [hx])) hr
    exact ⟨g3, fun e he => g4 e (g2 e he)⟩
theorem inv_cls {ss : List B8} {f : Nat} {n : Nd} (hn : ClOk ss f n) {out : List En} (h : Inv ss out) (hr : (runs out (clsEv (f : Nat) n)).2 = none) : Inv ss (runs out (clsEv (f : Nat) n)).1 := by
  unfold clsEv at hr ⊢
  split
  · rename_i hk
    rw [if_pos hk] at hr
    obtain ⟨h1, h3, h4⟩ := runs_step hr
    rw [h4]
    rw [step_not (show (clsE (f : Nat) n).kind ≠ 4 by show (1 : Int) ≠ 4; decide)] at h1
    have hkey : (⟨1, [], n.hd.text⟩ : Key) ∉ keysOf out := of_decide_eq_false h1
    have hi : Inv ss (out ++ [clsE (f : Nat) n]) := h.snoc (fresh_cls h.fm hn.self.1 hkey) (.inl ⟨rfl, rfl, rfl, hn.self.1⟩) (hn.self.pl 1 _ _ false []) (fun hh => absurd hh (by show ¬ (1 : Int) = 4; decide)) (fun hh => by
      rcases hh with hh | hh
      · exact absurd (show (1 : Int) = 2 from hh) (by decide)
      · exact absurd (show (1 : Int) = 3 from hh) (by decide))
    exact (inv_mems (f := f) hn.self.1 n.kids _ hi ⟨clsE (f : Nat) n, List.mem_append_right _ (by simp), rfl, rfl⟩ hn.mem hn.loc h3).1
  · exact h
theorem inv_fil {ss : List B8} {f : Nat} : ∀ (l : List Nd) (out : List En), (∀ n ∈ l, ClOk ss f n) → Inv ss out → (runs out (filEv (f : Nat) l)).2 = none → Inv ss (runs out (filEv (f : Nat) l)).1
  | [], out, _, h, _ => h
  | n :: l, out, hn, h, hr => by
    rw [filEv_cons, runs_app] at hr ⊢
    obtain ⟨h3, h4⟩ := aft_none hr
    rw [h4] at hr ⊢
    exact inv_fil l _ (fun x hx => hn x (by simp [hx])) (inv_cls (hn n (by simp)) h h3) hr
theorem inv_all {ss : List B8} : ∀ (fs : List (List Nd)) (f : Nat) (out : List En), (∀ (i : Nat) (l : List Nd), fs[i]? = some l → ∀ n ∈ l, ClOk ss (f + i) n) → Inv ss out → (runs out (allEv f fs)).2 = none → Inv ss (runs out (allEv f fs)).1
  | [], f, out, _, h, _ => h
  | l :: fs, f, out, hn, h, hr => by
    rw [allEv, runs_app] at hr ⊢
    obtain ⟨h3, h4⟩ := aft_none hr
    rw [h4] at hr ⊢
    refine inv_all fs (f + 1) _ (fun i l' hi n hnl => ?_) (inv_fil l out (hn 0 l rfl) h h3) hr
    have := hn (i + 1) l' (by simpa using hi) n hnl
    rw [show f + 1 + i = f + (i + 1) by omega]
    exact this
theorem find_id {out : List En} (h : out.Pairwise fun a b => a.id ≠ b.id) {e : En} (he : e ∈ out) : findE out e.id = some e := by
  unfold findE
  induction out with
  | nil => cases he
  | cons a out ih =>
    rw [List.pairwise_cons] at h
    rw [List.find?_cons]
    rcases List.mem_cons.1 he with rfl | he
    · simp
    · have := h.1 e he
      rw [show (a.id == e.id) = false by simpa using this]
      exact ih h.2 he
end Go.Proofs.YtbnbmjdjkadgoaaDoor.D
/-
  For the laws of decls: what the table of texts is. No program. Condition: the texts are few and short.
-/
namespace Go.Proofs.YtbnbmjdjkadgoaaDoor.D
open Go.Proofs.YtbnbmjdjkadgoaaDoor.X (aln TokIn)
set_option linter.unusedSimpArgs false
set_option linter.unusedVariables false
mutual
theorem evN_an {T : List X.Tk} (own : List B8) : ∀ t : Nd, X.AllN T t → ∀ p ∈ evN own t, X.AllN T p.1 ∧ isLoc p.1 = true
  | .mk _ ks, h, p, hp => by
    rw [evN] at hp
    rw [X.AllN] at h
    exact evK_an own ks h.2 p hp
theorem evK_an {T : List X.Tk} (own : List B8) : ∀ ks : List Nd, X.AllL T ks → ∀ p ∈ evK own ks, X.AllN T p.1 ∧ isLoc p.1 = true
  | [], _, p, hp => by rw [evK] at hp; cases hp
  | k :: ks, h, p, hp => by
    rw [evK] at hp
    rw [X.AllL] at h
    rcases List.mem_append.1 hp with hp | hp
    · split at hp
      · rename_i hl
        obtain rfl := List.mem_singleton.1 hp
        exact ⟨h.1, hl⟩
      · cases hp
    · rcases List.mem_append.1 hp with hp | hp
      · exact evN_an own k h.1 p hp
      · exact evK_an _ ks h.2 p hp
end
theorem nd_ok {ss : List B8} {f : Nat} {s : B8} {T : List X.Tk} (hs : ss[f]? = some s) (hT : ∀ t ∈ T, TokIn 0 s t) {k : Nd} (h : X.AllN T k) (hk : X.declK k.hd.kind = true) : NdOk ss f k := by
  obtain ⟨t, ht, h1, h2, h3⟩ := (X.an_hd h).2 hk
  obtain ⟨a, k1, k2, k3, k4⟩ := hT t ht
  have hn := k4 h1
  rw [← h2] at k2 k3 hn
  exact ⟨hn, a, s, by rw [h3, k1, Nat.zero_add], hs, k2, k3⟩
theorem cl_ok {ss : List B8} {f : Nat} {s : B8} (hs : ss[f]? = some s) : ∀ n ∈ (X.fileR s).1, ClOk ss f n := fun n hn => by
  rcases X.file_tok s with ⟨_, h⟩ | ⟨h0, h, hk⟩
  · rw [h] at hn; cases hn
  · have hT := X.tok_in h0
    have ha := X.an_mem h hn
    refine ⟨nd_ok hs hT ha (by rw [hk n hn]; rfl), fun k hkk h2 => nd_ok hs hT (X.an_mem (X.an_kids ha) hkk) ?_, fun k hkk p hp => ?_⟩
    · unfold kd at h2
      unfold X.declK
      rcases h2 with h2 | h2 <;> rw [h2] <;> rfl
    · obtain ⟨h5, h6⟩ := evN_an [] k (X.an_mem (X.an_kids ha) hkk) p hp
      refine nd_ok hs hT h5 ?_
      unfold isLoc kd at h6
      unfold X.declK
      rw [Bool.or_eq_true] at h6
      rcases h6 with h6 | h6 <;> rw [h6] <;> simp
/-- The table of texts. -/
theorem tab_inv {ss : List B8} (h : (table (filesR ss)).2 = none) : Inv ss (table (filesR ss)).1 := by
  unfold table at h ⊢
  refine inv_all (filesR ss) 0 [] (fun i l hl n hn => ?_) (Inv.nil ss) h
  unfold filesR at hl
  rw [List.getElem?_map] at hl
  cases hs : ss[i]? with
  | none => rw [hs] at hl; cases hl
  | some s =>
    rw [hs] at hl
    obtain rfl := Option.some.inj hl
    rw [Nat.zero_add]
    exact cl_ok hs n hn
theorem runs_some {e : En} : ∀ {l : List (En × Bool)} {out : List En}, (runs out l).2 = some e → ∃ tw, (e, tw) ∈ l
  | [], out, h => by cases h
  | (x, tw) :: l, out, h => by
    rw [runs] at h
    split at h
    · obtain rfl := Option.some.inj h
      exact ⟨tw, by simp⟩
    · obtain ⟨tw2, h2⟩ := runs_some h
      exact ⟨tw2, by simp [h2]⟩
theorem locs_file (file : Int) (owner : B8) : ∀ (l : List (Nd × Bool)) (i : Nat), ∀ p ∈ locs file owner i l, p.1.file = file
  | [], i, p, hp => by cases hp
  | x :: l, i, p, hp => by
    rw [locs] at hp
    rcases List.mem_cons.1 hp with rfl | hp
    · rfl
    · exact locs_file file owner l (i + 1) p hp
theorem cls_file (file : Int) (n : Nd) : ∀ p ∈ clsEv file n, p.1.file = file := by
  intro p hp
  unfold clsEv at hp
  split at hp
  · rcases List.mem_cons.1 hp with rfl | hp
    · rfl
    · obtain ⟨k, _, hp⟩ := List.mem_flatMap.1 hp
      unfold memEv at hp
      split at hp
      · obtain rfl := List.mem_singleton.1 hp; rfl
      · split at hp
        · rcases List.mem_cons.1 hp with rfl | hp
          · rfl
          · exact locs_file _ _ _ _ p hp
        · cases hp
  · cases hp
theorem all_file : ∀ (fs : List (List Nd)) (f : Nat), ∀ p ∈ allEv f fs, ∃ i : Nat, p.1.file = i ∧ f ≤ i ∧ i < f + fs.length
  | [], f, p, hp => by cases hp
  | l :: fs, f, p, hp => by
    rw [allEv] at hp
    rcases List.mem_append.1 hp with hp | hp
    · obtain ⟨n, _, hp⟩ := List.mem_flatMap.1 hp
      exact ⟨f, cls_file _ n p hp, Nat.le_refl _, by rw [List.length_cons]; omega⟩
    · obtain ⟨i, h1, h2, h3⟩ := all_file fs (f + 1) p hp
      exact ⟨i, h1, by omega, by rw [List.length_cons]; omega⟩
theorem tab_file {ss : List B8} {e : En} (h : (table (filesR ss)).2 = some e) : 0 ≤ e.file ∧ e.file < ss.length := by
  obtain ⟨tw, h1⟩ := runs_some h
  obtain ⟨i, h2, _, h3⟩ := all_file _ 0 _ h1
  have h4 : (filesR ss).length = ss.length := List.length_map _
  rw [h4] at h3
  have h5 : e.file = i := h2
  omega
theorem tab_len {ss : List B8} (h : okTexts ss = true) : (table (filesR ss)).1.length ≤ 10000 := by
  have h1 := files_total h
  have hb : ∀ (fs : List (List Nd)) (f : Nat), (allEv f fs).length ≤ total fs := by
    intro fs
    induction fs with
    | nil => intro f; exact Nat.zero_le _
    | cons l fs ih =>
      intro f
      rw [allEv, List.length_append, total_cons]
      have h2 := ih (f + 1)
      have h3 : ∀ l : List Nd, (filEv (f : Nat) l).length ≤ cntL l := by
        intro l
        induction l with
        | nil => exact Nat.zero_le _
        | cons n l ih2 =>
          rw [filEv_cons, List.length_append, cntL]
          have := clsEv_len (f : Nat) n
          omega
      have := h3 l
      omega
  have hr : ∀ (l : List (En × Bool)) (out : List En), (runs out l).1.length ≤ out.length + l.length := by
    intro l
    induction l with
    | nil => intro out; exact Nat.le_refl _
    | cons x l ih =>
      intro out
      obtain ⟨e, tw⟩ := x
      rw [runs]
      split
      · simp
      · have := ih (out ++ [e])
        rw [List.length_append, List.length_singleton] at this
        rw [List.length_cons]
        omega
  have h2 := hr (allEv 0 (filesR ss)) []
  have h3 := hb (filesR ss) 0
  unfold table
  simp at h2
  omega
end Go.Proofs.YtbnbmjdjkadgoaaDoor.D
/-
  For the laws of decls: the walk of DeclsOne. Condition: the table of the powers of ten holds them.
-/
namespace Go.Proofs.YtbnbmjdjkadgoaaDoor.D
open Go.RowKit Go.Shelf Go.Maps Go.WideMaps
set_option linter.unusedSimpArgs false
set_option linter.unusedVariables false
theorem ens_slice {W : World} {v : Value} {l : List En} (h : EnsAt W v l) : ∃ a c, v = .slice a l.length c := by obtain ⟨a, c, e, _⟩ := h; exact ⟨a, c, e⟩
theorem strs_slice {W : World} {v : Value} {l : List B8} (h : StrsAt W v l) : ∃ a c, v = .slice a l.length c := by obtain ⟨a, c, e, _⟩ := h; exact ⟨a, c, e⟩
theorem locs_params (file : Int) (owner : B8) : ∀ (l : List (Nd × Bool)) (i : Nat), ∀ p ∈ locs file owner i l, p.1.params.length ≤ 0
  | [], i, p, hp => by cases hp
  | x :: l, i, p, hp => by
    rw [locs] at hp
    rcases List.mem_cons.1 hp with rfl | hp
    · exact Nat.le_refl _
    · exact locs_params file owner l (i + 1) p hp
theorem cls_params (file : Int) (n : Nd) : ∀ p ∈ clsEv file n, p.1.params.length ≤ n.cnt := by
  intro p hp
  unfold clsEv at hp
  split at hp
  · rcases List.mem_cons.1 hp with rfl | hp
    · exact Nat.zero_le _
    · obtain ⟨k, hk, hp⟩ := List.mem_flatMap.1 hp
      have h1 := cntL_mem hk
      have h2 := cnt_kids n
      have h3 := cnt_kids k
      have h4 := cntL_len k.kids
      unfold memEv at hp
      split at hp
      · obtain rfl := List.mem_singleton.1 hp; exact Nat.zero_le _
      · split at hp
        · rcases List.mem_cons.1 hp with rfl | hp
          · show (prm k).length ≤ _
            unfold prm
            rw [List.length_map]
            have := List.length_filter_le (fun x => kd x == 4) k.kids
            omega
          · have := locs_params _ _ _ _ p hp
            omega
        · cases hp
  · cases hp
theorem all_params : ∀ (fs : List (List Nd)) (f : Nat), ∀ p ∈ allEv f fs, p.1.params.length ≤ total fs
  | [], f, p, hp => by cases hp
  | l :: fs, f, p, hp => by
    rw [allEv] at hp
    rw [total_cons]
    rcases List.mem_append.1 hp with hp | hp
    · obtain ⟨n, hn, hp⟩ := List.mem_flatMap.1 hp
      have h1 := cls_params _ n p hp
      have h2 := cntL_mem hn
      omega
    · have := all_params fs (f + 1) p hp
      omega
theorem runs_mem {e : En} : ∀ {l : List (En × Bool)} {out : List En}, e ∈ (runs out l).1 → e ∈ out ∨ ∃ tw, (e, tw) ∈ l
  | [], out, h => .inl h
  | (x, tw) :: l, out, h => by
    rw [runs] at h
    split at h
    · exact .inl h
    · rcases runs_mem h with h | ⟨tw2, h⟩
      · rcases List.mem_append.1 h with h | h
        · exact .inl h
        · obtain rfl := List.mem_singleton.1 h
          exact .inr ⟨tw, by simp⟩
      · exact .inr ⟨tw2, by simp [h]⟩
theorem tab_params {ss : List B8} (hok : okTexts ss = true) : ∀ e ∈ (table (filesR ss)).1, e.params.length ≤ 100000000 := fun e he => by
  rcases runs_mem he with h | ⟨tw, h⟩
  · cases h
  · have h1 := all_params _ 0 _ h
    have h2 := files_total hok
    have h3 : e.params.length ≤ total (filesR ss) := h1
    omega
set_option maxRecDepth 100000 in
set_option maxHeartbeats 64000000 in
theorem One_law (v : Value) (ss : List B8) (w : World) (h : StrsAt w v ss) (hp : Pow w) : Calls Tryd.prog 4 #[v] w fun e w' => e = .returned (.bool true) ∧ Below w.heap.size w w' := by
  have HSS := Lib.hid h
  obtain ⟨sa, sc, rfl, hsl, hsc, hsx⟩ := h
  have HSX := Lib.hid hsx
  obtain ⟨n, hn⟩ : ∃ n, Hid (ss.length = n) := ⟨_, Lib.hid rfl⟩
  rw [hn.out] at HSS hsl ⊢
  unfold maxLen at hsc
  have HPow := Lib.hid hp
  clear hsx hp
  go_enter Tryd.func4, Tryd.ntmps4
  go_wp2_with fail
  refine (awake_any w HPow.out).mono ?_
  rintro e w1 ⟨rfl, b1⟩
  have B1 := Lib.hid b1
  have S1 := Lib.hid (HSS.out.below b1)
  clear b1
  go_wp2_with fail
  refine (parsed_any _ ss w1 S1.out).mono ?_
  rintro e w2 ⟨hpr, b2⟩
  have B2 := Lib.hid (B1.out.trans (b2.mono B1.out.size))
  unfold ParsedIs at hpr
  by_cases hok : okTexts ss = true
  · rw [if_pos hok] at hpr
    obtain ⟨u, fs, rfl, hown, hfs⟩ := hpr
    have HF := hown.files
    rw [hfs] at HF
    have HOK := Lib.hid hok
    have CT := Lib.hid (Table_any (filesR ss) u w2 HF Pn Pn.ok (files_P hok) (Nat.le_trans (files_total hok) (by omega)) (pow_below HPow.out B2.out))
    clear hown hfs HF b2 hok
    obtain ⟨R, hR⟩ : ∃ R, Hid (table (filesR ss) = R) := ⟨_, Lib.hid rfl⟩
    rw [hR.out] at CT
    go_wp2_with fail
    refine CT.out.mono ?_
    rintro e w3 ⟨ht, b3⟩
    have B3 := Lib.hid (B2.out.trans (b3.mono B2.out.size))
    clear b3 CT
    obtain ⟨E, y⟩ := R
    cases y with
    | some x =>
      obtain rfl := ht
      have hx := tab_file (ss := ss) (e := x) (by rw [hR.out])
      rw [hn.out] at hx
      obtain ⟨hx1, hx2⟩ := hx
      go_upto_region 8 with fail
      refine X.wp_gen (fun V => RowAt V w3.heap.size 30 #[.int .i64 150, .int .i64 x.file, .int .i64 x.at_] ∧ Below w3.heap.size w3 V) ⟨RowAt.new w3 30 _, (Below.refl _ _).alloc (Nat.le_refl _) _⟩ ?_
      rintro V ⟨rv, bv_⟩
      have m0 : V.cell? ⟨w3.heap.size, 0, none⟩ = some (.int .i64 150) := rv.cell rfl
      have m1 : V.cell? ⟨w3.heap.size, 1, none⟩ = some (.int .i64 x.file) := rv.cell rfl
      have BV := Lib.hid (B3.out.trans (bv_.mono B3.out.size))
      have g1 : decide (x.file ≥ 0) = true := decide_eq_true hx1
      have g2 : decide (x.file < (n : Int)) = true := decide_eq_true hx2
      clear rv bv_
      go_wp2_with fail
      go_ret
      exact ⟨rfl, BV.out⟩
    | none =>
      obtain ⟨v3, ps3, rfl, own3, hps3⟩ := ht
      have hps3' : ps3.map (·.1) = E := hps3
      have HE0 : EnsAt w3 v3 E := by rw [← hps3']; exact own3.at_
      obtain ⟨va, vc, rfl⟩ := ens_slice HE0
      have HINV : Hid (Inv ss E) := Lib.hid (by have h9 := tab_inv (ss := ss) (by rw [hR.out]); rw [hR.out] at h9; exact h9)
      have HPA : Hid (∀ e ∈ E, e.params.length ≤ 100000000) := Lib.hid (by have h9 := tab_params HOK.out; rw [hR.out] at h9; exact h9)
      have hEl : E.length ≤ 10000 := by have h9 := tab_len HOK.out; rw [hR.out] at h9; exact h9
      have HE := Lib.hid HE0
      obtain ⟨ln, hln⟩ : ∃ x, Hid (E.length = x) := ⟨_, Lib.hid rfl⟩
      rw [hln.out] at hEl HE ⊢
      clear own3 hps3 hps3' HE0
      go_upto_region 8 with fail
      refine X.wp_gen (fun V => RowAt V w3.heap.size 30 #[.int .i64 0, .int .i64 0, .int .i64 0] ∧ Below w3.heap.size w3 V) ⟨RowAt.new w3 30 _, (Below.refl _ _).alloc (Nat.le_refl _) _⟩ ?_
      rintro V ⟨rv, bv_⟩
      have m0 : V.cell? ⟨w3.heap.size, 0, none⟩ = some (.int .i64 0) := rv.cell rfl
      have HEV := Lib.hid (HE.out.below bv_)
      have BV := Lib.hid (B3.out.trans (bv_.mono B3.out.size))
      clear rv bv_
      go_wp2_with fail
      go_loopw [8] (fun c wr => ∃ k : Nat, c = .int .i64 k ∧ k ≤ ln ∧ Hid (Below V.heap.size V wr)) (fun c _ => ln - (intOf c).toNat)
      case atStart => exact ⟨0, rfl, by omega, Lib.hid (Below.refl _ _)⟩
      case round =>
        clear m0
        obtain ⟨k, rfl, hk, hB⟩ := hrel
        have hEr := Lib.hid (HEV.out.below hB.out)
        have BR := Lib.hid (BV.out.trans (hB.out.mono BV.out.size))
        by_cases hlt : k < ln
        · obtain ⟨u, hu⟩ : ∃ x, E[k]? = some x := ⟨_, List.getElem?_eq_getElem (by rw [hln.out]; exact hlt)⟩
          obtain ⟨va', vc', hv', _, hvcm, hvx⟩ := hEr.out
          obtain ⟨b, off, pv, hva, cs, hst⟩ := hvx k u hu
          obtain ⟨rfl, -, rfl⟩ : va = va' ∧ ln = E.length ∧ vc = vc' := by injection hv' with h1 h2 h3; exact ⟨h1, h2, h3⟩
          subst hva
          obtain ⟨pa, pc, rfl⟩ := strs_slice hst
          have HST := Lib.hid hst
          have HU := Lib.hid (List.mem_of_getElem? hu)
          obtain ⟨pn, hpn⟩ : ∃ x, Hid (u.params.length = x) := ⟨_, Lib.hid rfl⟩
          rw [hpn.out] at cs HST
          obtain ⟨d0, d1, d2, d3, d4, d5, d6, d7, d8⟩ := cs
          have i1 : (0 : Int) ≤ (k : Int) := by omega
          have i2 : (k : Int) < (ln : Int) := by omega
          obtain ⟨q9, hq9⟩ : ∃ x, Hid (wr.heap.size = x) := ⟨_, Lib.hid rfl⟩
          clear hv' hvx hst hu
          go_upto_region 14 with fail
          refine YtbnbmjdjkadgoaaDoor.X.wp_gen (fun X => RowAt X q9 34 #[.int .i64 u.kind, .string (bs u.id), .string (bs u.name), .string (bs u.owner), .string (bs u.type), .bool u.stat, .slice pa pn pc, .int .i64 u.file, .int .i64 u.at_] ∧ Below wr.heap.size wr X) ⟨X.row_new hq9.out.symm, (Below.refl _ _).alloc (Nat.le_refl _) _⟩ ?_
          rw [hq9.out]
          rintro Y ⟨r9, by_⟩
          have bY : Below wr.heap.size wr Y := by rw [hq9.out]; exact by_
          have R9 := Lib.hid r9
          have EY := Lib.hid (hEr.out.below bY)
          have SY := Lib.hid (HST.out.below bY)
          have BY := Lib.hid (BR.out.trans (bY.mono BR.out.size))
          have BVY := Lib.hid (hB.out.trans (bY.mono hB.out.size))
          have CF : Hid (Calls Tryd.prog 10 #[.slice (some ⟨b, off, none⟩) ln vc, .string (bs u.id)] Y fun e w' => FindIs (some u) e w' ∧ Below Y.heap.size Y w') := Lib.hid (by
            have h9 := Find_any Y _ E EY.out HPA.out (bs u.id)
            rw [tl_bs, find_id HINV.out.ids HU.out] at h9
            exact h9)
          have c0 : Y.cell? ⟨q9, 0, none⟩ = some (.int .i64 u.kind) := r9.cell rfl
          have c1 : Y.cell? ⟨q9, 1, none⟩ = some (.string (bs u.id)) := r9.cell rfl
          have c2 : Y.cell? ⟨q9, 2, none⟩ = some (.string (bs u.name)) := r9.cell rfl
          have c3 : Y.cell? ⟨q9, 3, none⟩ = some (.string (bs u.owner)) := r9.cell rfl
          have c4 : Y.cell? ⟨q9, 4, none⟩ = some (.string (bs u.type)) := r9.cell rfl
          have c5 : Y.cell? ⟨q9, 5, none⟩ = some (.bool u.stat) := r9.cell rfl
          have c6 : Y.cell? ⟨q9, 6, none⟩ = some (.slice pa pn pc) := r9.cell rfl
          have c7 : Y.cell? ⟨q9, 7, none⟩ = some (.int .i64 u.file) := r9.cell rfl
          have c8 : Y.cell? ⟨q9, 8, none⟩ = some (.int .i64 u.at_) := r9.cell rfl
          clear d0 d1 d2 d3 d4 d5 d6 d7 d8 r9 by_ bY
          go_wp2_with fail
          refine CF.out.mono ?_
          rintro e w4 ⟨⟨pv4, rfl, hs4⟩, b4⟩
          obtain ⟨qa, qc, hpv4⟩ := strs_slice hs4
          have hpv4' : pv4 = .slice qa pn qc := by rw [← hpn.out]; exact hpv4
          subst hpv4'
          have R4 := Lib.hid (R9.out.later b4)
          have E4 := Lib.hid (EY.out.below b4)
          have SA4 := Lib.hid (SY.out.below b4)
          have SB4 := Lib.hid (show StrsAt w4 (.slice qa pn qc) u.params from hs4)
          have B4 := Lib.hid (BY.out.trans (b4.mono BY.out.size))
          have BV4 := Lib.hid (BVY.out.trans (b4.mono BVY.out.size))
          clear b4 hs4 hpv4 c0 c1 c2 c3 c4 c5 c6 c7 c8 CF
          simp only [Option.getD_some, Option.isSome_some]
          go_upto_region 15 with fail
          refine YtbnbmjdjkadgoaaDoor.X.wp_gen (fun X => RowAt X w4.heap.size 34 #[.int .i64 u.kind, .string (bs u.id), .string (bs u.name), .string (bs u.owner), .string (bs u.type), .bool u.stat, .slice qa pn qc, .int .i64 u.file, .int .i64 u.at_] ∧ Below w4.heap.size w4 X) ⟨RowAt.new w4 34 _, (Below.refl _ _).alloc (Nat.le_refl _) _⟩ ?_
          rintro Z ⟨r10, bz⟩
          have R10 := Lib.hid r10
          have RZ := Lib.hid (R4.out.later bz)
          have EZ := Lib.hid (E4.out.below bz)
          have BZ := Lib.hid (B4.out.trans (bz.mono B4.out.size))
          have BVZ := Lib.hid (BV4.out.trans (bz.mono BV4.out.size))
          have C1 : Hid (Calls Tryd.prog 13 #[.agg #[.int .i64 u.kind, .string (bs u.id), .string (bs u.name), .string (bs u.owner), .string (bs u.type), .bool u.stat, .slice qa pn qc, .int .i64 u.file, .int .i64 u.at_], .agg #[.int .i64 u.kind, .string (bs u.id), .string (bs u.name), .string (bs u.owner), .string (bs u.type), .bool u.stat, .slice pa pn pc, .int .i64 u.file, .int .i64 u.at_]] Z fun e w' => e = .returned (.bool true) ∧ Below Z.heap.size Z w') := Lib.hid ((One_any Z u u (.slice qa pn qc) (.slice pa pn pc) (SB4.out.below bz) (SA4.out.below bz)).mono fun e w' hh => ⟨by
            have h9 := hh.1.bool
            rw [decide_eq_true rfl] at h9
            exact h9, hh.2⟩)
          obtain ⟨f, at0, s, hf1, hf2, hf3, hf4, hf5⟩ := HINV.out.pl u HU.out
          have hfn : f < n := by rw [← hn.out]; exact (List.getElem?_eq_some_iff.1 hf3).1
          have HF5 := Lib.hid hf5
          have HF3 := Lib.hid hf3
          have a0 : Z.cell? ⟨q9, 0, none⟩ = some (.int .i64 u.kind) := RZ.out.cell rfl
          have a1 : Z.cell? ⟨q9, 1, none⟩ = some (.string (bs u.id)) := RZ.out.cell rfl
          have a2 : Z.cell? ⟨q9, 2, none⟩ = some (.string (bs u.name)) := RZ.out.cell rfl
          have a3 : Z.cell? ⟨q9, 3, none⟩ = some (.string (bs u.owner)) := RZ.out.cell rfl
          have a4 : Z.cell? ⟨q9, 4, none⟩ = some (.string (bs u.type)) := RZ.out.cell rfl
          have a5 : Z.cell? ⟨q9, 5, none⟩ = some (.bool u.stat) := RZ.out.cell rfl
          have a6 : Z.cell? ⟨q9, 6, none⟩ = some (.slice pa pn pc) := RZ.out.cell rfl
          have a7 : Z.cell? ⟨q9, 7, none⟩ = some (.int .i64 u.file) := RZ.out.cell rfl
          have a8 : Z.cell? ⟨q9, 8, none⟩ = some (.int .i64 u.at_) := RZ.out.cell rfl
          have x0 : Z.cell? ⟨w4.heap.size, 0, none⟩ = some (.int .i64 u.kind) := r10.cell rfl
          have x1 : Z.cell? ⟨w4.heap.size, 1, none⟩ = some (.string (bs u.id)) := r10.cell rfl
          have x2 : Z.cell? ⟨w4.heap.size, 2, none⟩ = some (.string (bs u.name)) := r10.cell rfl
          have x3 : Z.cell? ⟨w4.heap.size, 3, none⟩ = some (.string (bs u.owner)) := r10.cell rfl
          have x4 : Z.cell? ⟨w4.heap.size, 4, none⟩ = some (.string (bs u.type)) := r10.cell rfl
          have x5 : Z.cell? ⟨w4.heap.size, 5, none⟩ = some (.bool u.stat) := r10.cell rfl
          have x6 : Z.cell? ⟨w4.heap.size, 6, none⟩ = some (.slice qa pn qc) := r10.cell rfl
          have x7 : Z.cell? ⟨w4.heap.size, 7, none⟩ = some (.int .i64 u.file) := r10.cell rfl
          have x8 : Z.cell? ⟨w4.heap.size, 8, none⟩ = some (.int .i64 u.at_) := r10.cell rfl
          rw [hf1] at a7 x7
          rw [hf2] at a8 x8
          have j1 : decide ((f : Int) < 0) = false := decide_eq_false (by omega)
          have j2 : decide ((f : Int) ≥ (n : Int)) = false := decide_eq_false (by omega)
          have j2' : decide (n ≤ f) = false := decide_eq_false (by omega)
          rw [hf1, hf2] at C1
          have hf1' := hf1
          have hf2' := hf2
          clear hf1 hf2 hf3 hf5 r10 bz
          have hf1 := Lib.hid hf1'
          have hf2 := Lib.hid hf2'
          clear hf1' hf2'
          go_wp2_with fail
          refine C1.out.mono ?_
          rintro e w5 ⟨rfl, b5⟩
          have R5 := RZ.out.later b5
          have E5 := Lib.hid (EZ.out.below b5)
          have B5 := Lib.hid (BZ.out.trans (b5.mono BZ.out.size))
          have BV5 := Lib.hid (BVZ.out.trans (b5.mono BVZ.out.size))
          obtain ⟨nm, hnm⟩ : ∃ x, Hid (bs u.name = x) := ⟨_, Lib.hid rfl⟩
          obtain ⟨tS, htS⟩ : ∃ x, Hid (bs s = x) := ⟨_, Lib.hid rfl⟩
          have hnl : u.name.length = nm.size := by rw [← hnm.out, bs_size]
          have htl : s.length = tS.size := by rw [← htS.out, bs_size]
          have hext : tS.extract at0 (at0 + nm.size) = nm := by
            have h9 := HF5.out
            rw [hnl] at h9
            rw [← htS.out, ← hnm.out]
            apply ByteArray.ext
            apply Array.ext'
            simp only [ByteArray.data_extract, Array.toList_extract, List.extract_eq_take_drop]
            rw [show at0 + (bs u.name).size - at0 = (bs u.name).size by omega, bs_size, hnl]
            exact h9
          obtain ⟨tb, to_, hsa, htc⟩ := HSX.out f s HF3.out
          subst hsa
          rw [htS.out] at htc
          have t0' : w5.cell? ⟨tb, to_ + f, none⟩ = some (.string tS) := (B5.out.cell (p := ⟨tb, to_ + f, none⟩) (World.block_lt_of_cell? w _ htc)).trans htc
          rw [hf1.out, hf2.out, hnm.out] at R5
          rw [hnl, htl] at hf4
          have HSZ := Lib.hid hf4
          have HTS : Hid (tS.size ≤ 1500) := Lib.hid (by
            have h9 := HOK.out
            unfold okTexts at h9
            rw [Bool.and_eq_true, List.all_eq_true] at h9
            have h8 := of_decide_eq_true (h9.2 s (List.mem_of_getElem? HF3.out))
            omega)
          have k1 : (0 : Int) ≤ (f : Int) := by omega
          have k2 : (f : Int) < (n : Int) := by omega
          have HR5 := Lib.hid R5
          have e0 : w5.cell? ⟨q9, 0, none⟩ = some (.int .i64 u.kind) := R5.cell rfl
          have e1 : w5.cell? ⟨q9, 1, none⟩ = some (.string (bs u.id)) := R5.cell rfl
          have e2 : w5.cell? ⟨q9, 2, none⟩ = some (.string nm) := R5.cell rfl
          have e3 : w5.cell? ⟨q9, 3, none⟩ = some (.string (bs u.owner)) := R5.cell rfl
          have e4 : w5.cell? ⟨q9, 4, none⟩ = some (.string (bs u.type)) := R5.cell rfl
          have e5 : w5.cell? ⟨q9, 5, none⟩ = some (.bool u.stat) := R5.cell rfl
          have e6 : w5.cell? ⟨q9, 6, none⟩ = some (.slice pa pn pc) := R5.cell rfl
          have e7 : w5.cell? ⟨q9, 7, none⟩ = some (.int .i64 (f : Int)) := R5.cell rfl
          have e8 : w5.cell? ⟨q9, 8, none⟩ = some (.int .i64 (at0 : Int)) := R5.cell rfl
          clear b5 hnl htl htc R5 a0 a1 a2 a3 a4 a5 a6 a7 a8 x0 x1 x2 x3 x4 x5 x6 x7 x8
          go_upto_region 18 with fail
          have l1 : decide ((at0 : Int) < 0) = false := decide_eq_false (by omega)
          have hsz : at0 + nm.size ≤ tS.size := hf4
          have hts : tS.size ≤ 1500 := HTS.out
          have l2 : IntKind.i64.wrap ((at0 : Int) + (nm.size : Int)) = (at0 : Int) + (nm.size : Int) := Go.IntWalk.i64_in _ (by omega)
          have l3 : decide (tS.size < at0 + nm.size) = false := decide_eq_false (by omega)
          have l3' : decide ((at0 : Int) + (nm.size : Int) > (tS.size : Int)) = false := decide_eq_false (by omega)
          have l4 : (0 : Int) ≤ (at0 : Int) := by omega
          have l5 : (at0 : Int) ≤ (at0 : Int) + (nm.size : Int) := by omega
          have l6 : (at0 : Int) + (nm.size : Int) ≤ (tS.size : Int) := by omega
          have l7 : ((at0 : Int) + (nm.size : Int)).toNat = at0 + nm.size := by omega
          go_quiet (fail)
          clear l1 l2 l3 l3' l4 l5 l6 l7 hext hsz hts
          have e0' := HR5.out
          go_upto_region 20 with fail
          refine YtbnbmjdjkadgoaaDoor.X.wp_gen (fun X => Below w5.heap.size w5 X) (below_draws (Below.refl _ _) _) ?_
          intro X bX
          have RX := HR5.out.later bX
          have EX := Lib.hid (E5.out.below bX)
          have BX := Lib.hid (B5.out.trans (bX.mono B5.out.size))
          have BVX := Lib.hid (BV5.out.trans (bX.mono BV5.out.size))
          have y0 : X.cell? ⟨q9, 0, none⟩ = some (.int .i64 u.kind) := RX.cell rfl
          have y3 : X.cell? ⟨q9, 3, none⟩ = some (.string (bs u.owner)) := RX.cell rfl
          have HRX := Lib.hid RX
          clear e0 e1 e2 e3 e4 e5 e6 e7 e8 e0' bX RX t0'
          by_cases h1 : u.kind = 1
          · have ho : u.owner = [] := by
              rcases HINV.out.fm u HU.out with ⟨q, o, _⟩ | ⟨q, _⟩ | ⟨q, _⟩ | ⟨q, _⟩
              · exact o
              · rw [h1] at q; exact absurd q (by decide)
              · rw [h1] at q; exact absurd q (by decide)
              · rw [h1] at q; exact absurd q (by decide)
            have y3' : X.cell? ⟨q9, 3, none⟩ = some (.string ⟨#[]⟩) := by rw [y3, ho]
            have g1 : (u.kind == 1) = true := by simpa using h1
            clear y3 h1 ho
            go_wp2_with fail
            go_roundw
            case rel => exact ⟨k + 1, by go_num, by omega, BVX⟩
            case measure => simp [intOf]; omega
          · have g1 : (u.kind == 1) = false := by rw [beq_eq_false_iff_ne]; exact h1
            obtain ⟨mo, hmo, hmk⟩ : ∃ m, (m ∈ E ∧ m.id = u.owner) ∧ ((u.kind = 4 ∧ m.kind = 3) ∨ (u.kind ≠ 4 ∧ m.kind = 1)) := by
              rcases HINV.out.fm u HU.out with ⟨q, _⟩ | ⟨q, _⟩ | ⟨q, _⟩ | ⟨q, _⟩
              · exact absurd q h1
              · obtain ⟨m, m1, m2, m3⟩ := HINV.out.own2 u HU.out (.inl q)
                exact ⟨m, ⟨m1, m3⟩, .inr ⟨by rw [q]; decide, m2⟩⟩
              · obtain ⟨m, m1, m2, m3⟩ := HINV.out.own2 u HU.out (.inr q)
                exact ⟨m, ⟨m1, m3⟩, .inr ⟨by rw [q]; decide, m2⟩⟩
              · obtain ⟨m, m1, m2, m3⟩ := HINV.out.own4 u HU.out q
                exact ⟨m, ⟨m1, m3⟩, .inl ⟨q, m2⟩⟩
            have CO : Hid (Calls Tryd.prog 10 #[.slice (some ⟨b, off, none⟩) ln vc, .string (bs u.owner)] X fun e w' => FindIs (some mo) e w' ∧ Below X.heap.size X w') := Lib.hid (by
              have h9 := Find_any X _ E EX.out HPA.out (bs u.owner)
              rw [tl_bs, ← hmo.2, find_id HINV.out.ids hmo.1] at h9
              rw [← hmo.2]
              exact h9)
            clear h1 hmo
            go_wp2_with fail
            refine CO.out.mono ?_
            rintro e w6 ⟨⟨pv6, rfl, hs6⟩, b6⟩
            obtain ⟨ma, mc, hpv6⟩ := strs_slice hs6
            obtain ⟨mn, hmn⟩ : ∃ x, Hid (mo.params.length = x) := ⟨_, Lib.hid rfl⟩
            have hpv6' : pv6 = .slice ma mn mc := by rw [← hmn.out]; exact hpv6
            subst hpv6'
            have R6 := Lib.hid (HRX.out.later b6)
            have B6 := Lib.hid (BX.out.trans (b6.mono BX.out.size))
            have BV6 := Lib.hid (BVX.out.trans (b6.mono BVX.out.size))
            clear b6 hs6 hpv6 y0 y3
            simp only [Option.getD_some, Option.isSome_some]
            go_upto_region 24 with fail
            refine YtbnbmjdjkadgoaaDoor.X.wp_gen (fun Y => RowAt Y w6.heap.size 34 #[.int .i64 mo.kind, .string (bs mo.id), .string (bs mo.name), .string (bs mo.owner), .string (bs mo.type), .bool mo.stat, .slice ma mn mc, .int .i64 mo.file, .int .i64 mo.at_] ∧ Below w6.heap.size w6 Y) ⟨RowAt.new w6 34 _, (Below.refl _ _).alloc (Nat.le_refl _) _⟩ ?_
            rintro Y7 ⟨r7, b7⟩
            have RY := R6.out.later b7
            have B7 := Lib.hid (B6.out.trans (b7.mono B6.out.size))
            have BV7 := Lib.hid (BV6.out.trans (b7.mono BV6.out.size))
            have y0 : Y7.cell? ⟨q9, 0, none⟩ = some (.int .i64 u.kind) := RY.cell rfl
            have z0 : Y7.cell? ⟨w6.heap.size, 0, none⟩ = some (.int .i64 mo.kind) := r7.cell rfl
            clear r7 b7 RY
            rcases hmk with ⟨h4, h3⟩ | ⟨h4, h3⟩
            · rw [h4] at y0
              rw [h3] at z0
              clear h4 h3 g1
              go_wp2_with fail
              go_roundw
              case rel => exact ⟨k + 1, by go_num, by omega, BV7⟩
              case measure => simp [intOf]; omega
            · have g4 : (u.kind == 4) = false := by rw [beq_eq_false_iff_ne]; exact h4
              have g5 : (u.kind != 4) = true := by simp [h4]
              rw [h3] at z0
              clear h4 h3
              go_wp2_with fail
              go_roundw
              case rel => exact ⟨k + 1, by go_num, by omega, BV7⟩
              case measure => simp [intOf]; omega
        · obtain rfl : k = ln := by omega
          go_wp2_with fail
          go_ret
          exact ⟨rfl, BR.out⟩
  · rw [if_neg hok] at hpr
    obtain rfl := hpr
    clear hok b2
    go_wp2_with fail
    go_ret
    exact ⟨rfl, B2.out⟩
end Go.Proofs.YtbnbmjdjkadgoaaDoor.D
/-
  For the laws of decls: what the rows' listed variables give: the table of the powers of ten holds them; a world in which all of them read as listed; what an argument of texts holds. No condition.
-/
namespace Go.Proofs.YtbnbmjdjkadgoaaDoor.D
open Go.ChangeShapes Go.WideShapes Go.ChangeAt Go.RowKit Go.Deep
open Go.ChangeMaps (open_string)
set_option linter.unusedVariables false

theorem own : ownKnob Tryd.prog.godebug = none := by kernel_rfl
theorem laidOut : laidOutB Tryd.prog = true := by kernel_rfl
theorem cellsOf9 : Tryd.prog.cellsOf 9 = 1 := by kernel_rfl
theorem gPowType : (Tryd.prog.globals[0]?).map (·.type) = some 116 := by kernel_rfl
theorem powD : (Rows.laid_internal_strconv_uint64pow10 : DataW Unit) = Lib.tabData .u64 Lib.pow10Tab := by kernel_rfl
theorem door_met (os : Os) (args : Array Value) : laidMetH Tryd.prog Rows.declsOneRow.laid ((World.doorLaid Tryd.prog 62 os).forCall (fun _ _ => 0) ⟨#[], args, []⟩).memory :=
  laidMetH_of_parts3 (fuel := 8) (laidMet_of_run' 8 (by kernel_rfl) (by kernel_rfl)) (by kernel_rfl) (by kernel_rfl)
theorem pow_of_laid {W : World} (h : laidMetH Tryd.prog Rows.declsOneRow.laid W) : Pow W := by
  rw [MakeChecks.laidMetH_plain _ _ _ (by kernel_rfl)] at h
  have h1 := laidMet.tail h
  have h2 := laidMet.tail h1
  have h3 : laidMet Tryd.prog [("internal/strconv.uint64pow10", Lib.tabData .u64 Lib.pow10Tab)] W := by
    rw [← powD]; exact h2
  exact Lib.tabIs_of_head gPow gPowType Tryd.underlying116 Tryd.underlying107 (by kernel_rfl) (by kernel_rfl) h3
section
variable {H : Type} {enc : TypeId × Value → H} {W : World} {sp : Nat → Bool} {r : Reach} {b0 : Nat} {v : Value} {d : DataW H} {p : List MemPlace}
theorem addr_of_cell {W : World} {a : Addr} {x : Value} (h : W.cell? (a.add 0) = some x) : ∃ b off, a = ⟨b, off, none⟩ ∧ b < W.heap.size := by
  obtain ⟨blk, off, el⟩ := a
  obtain rfl : el = none := by simpa [Addr.add] using World.cell?_spot h
  exact ⟨blk, off, rfl, World.block_lt_of_cell? W _ h⟩
set_option maxRecDepth 100000 in
theorem strs_of_arg (hv : Value.okWide Tryd.prog W r b0 22 v) (h : DataW.Trod enc Tryd.prog W 0 sp true 22 v d p) : ∃ ss : List B8, StrsAt W v ss := by
  obtain ⟨a1, len, cap, rfl⟩ := okWide_slice Tryd.underlying22 hv
  obtain ⟨fuel, hf⟩ := h
  rcases Go.ChangeShapes.open_strings Tryd.underlying22 Tryd.underlying9 cellsOf9 hf with ⟨hcs, hx⟩ | ⟨a, len', cap', ss, hcs, _, hl, hm, hz, hx, hcell, hws⟩
  · simp [Value.cells] at hcs
    obtain ⟨rfl, rfl, rfl⟩ := hcs
    exact ⟨[], StrsAt.nil W⟩
  · simp [Value.cells] at hcs
    obtain ⟨rfl, rfl, rfl⟩ := hcs
    have hlz : len ≤ ss.length := by rw [hz]; split <;> omega
    have hlen : ((ss.take len).map tl).length = len := by rw [List.length_map, List.length_take]; omega
    refine ⟨(ss.take len).map tl, some a, cap, by rw [hlen], by omega, by omega, fun j x hj => ?_⟩
    have hj2 : j < len := by
      have := (List.getElem?_eq_some_iff.1 hj).1
      omega
    obtain ⟨blk, off, rfl, hblk⟩ := addr_of_cell (hcell 0 (by omega))
    refine ⟨blk, off, rfl, ?_⟩
    have hc := hcell j (by omega)
    rw [List.getElem?_map, List.getElem?_take_of_lt hj2, List.getElem?_eq_getElem (by omega)] at hj
    have hj3 : tl ss[j] = x := by simpa using hj
    rw [← add_flat, hc, ← hj3, show bs (tl ss[j]) = ss[j] from YtbnbmjdjkadgoaaDoor.X.bs_tl ss[j]]
    simp [List.getD_eq_getElem?_getD, List.getElem?_eq_getElem (show j < ss.length by omega)]
end
end Go.Proofs.YtbnbmjdjkadgoaaDoor.D
