/-
  For the laws of span: two rows of edits that do not meet, as one row: rows alone, no program. No condition.
-/
import Derived.Test.YtpekbakidhfliaaBothm
import Derived.Test.YtpekbakidhfliaaBytm
import Derived.Test.YtpekbakidhfliaaInv
namespace Go.Proofs.Ytpekbakidhfliaa
open Go.RowKit Go.Shelf

/-- Two edits that neither meet nor touch. -/
def apart (p q : Ed) : Prop := p.to < q.fr ∨ q.to < p.fr
def Apart (a b : List Ed) : Prop := ∀ p ∈ a, ∀ q ∈ b, apart p q
theorem Apart.tail {a b : List Ed} {p : Ed} (h : Apart (p :: a) b) : Apart a b := fun x hx => h x (List.mem_cons_of_mem _ hx)
theorem Apart.tail2 {a b : List Ed} {q : Ed} (h : Apart a (q :: b)) : Apart a b := fun x hx y hy => h x hx y (List.mem_cons_of_mem _ hy)
/-- X is a and b, each in its own order. -/
inductive Mix : List Ed → List Ed → List Ed → Prop
  | nil : Mix [] [] []
  | left {a b X : List Ed} (p : Ed) : Mix a b X → Mix (p :: a) b (p :: X)
  | right {a b X : List Ed} (q : Ed) : Mix a b X → Mix a (q :: b) (q :: X)
theorem mix_l : ∀ (a : List Ed), Mix a [] a
  | [] => .nil
  | p :: a => .left p (mix_l a)
theorem mix_r : ∀ (b : List Ed), Mix [] b b
  | [] => .nil
  | q :: b => .right q (mix_r b)
theorem mix_mem {a b X : List Ed} (h : Mix a b X) (y : Ed) : y ∈ X ↔ y ∈ a ∨ y ∈ b := by
  induction h with
  | nil => simp
  | left p _ ih => rw [List.mem_cons, List.mem_cons, ih, or_assoc]
  | right q _ ih => rw [List.mem_cons, List.mem_cons, ih, or_left_comm]
theorem ok_less {n d e : Int} : ∀ {L : List Ed}, Ok n d L → e ≤ d → Ok n e L
  | [], h, he => by unfold Ok at *; omega
  | x :: L, h, he => ⟨by have := h.1; omega, h.2⟩
theorem ok_le {n d : Int} : ∀ {L : List Ed}, Ok n d L → d ≤ n
  | [], h => h
  | x :: L, h => by have h1 := h.1; have h2 := h.2.1; have h3 := h.2.2.1; omega
theorem mix_ok {n : Int} {a b X : List Ed} (h : Mix a b X) : ∀ {d : Int}, Ok n d X → Ok n d a ∧ Ok n d b := by
  induction h with
  | nil => exact fun h => ⟨h, h⟩
  | left p _ ih =>
    intro d hX
    obtain ⟨h1, h2, h3, h4⟩ := hX
    obtain ⟨i1, i2⟩ := ih h4
    exact ⟨⟨h1, h2, h3, i1⟩, ok_less i2 (by omega)⟩
  | right q _ ih =>
    intro d hX
    obtain ⟨h1, h2, h3, h4⟩ := hX
    obtain ⟨i1, i2⟩ := ih h4
    exact ⟨ok_less i1 (by omega), ⟨h1, h2, h3, i2⟩⟩
theorem mix_ex {n : Int} : ∀ (N : Nat) (a b : List Ed) (d : Int), a.length + b.length ≤ N → Ok n d a → Ok n d b → StrictF a → StrictF b → Apart a b → ∃ X, Mix a b X ∧ Ok n d X ∧ StrictF X
  | N, [], b, d, _, _, hb, _, sb, _ => ⟨b, mix_r b, hb, sb⟩
  | N, p :: a, [], d, _, ha, _, sa, _, _ => ⟨p :: a, mix_l _, ha, sa⟩
  | 0, p :: a, q :: b, d, hN, _, _, _, _, _ => by simp at hN
  | N + 1, p :: a, q :: b, d, hN, ha, hb, sa, sb, hap => by
    have hpq := hap p List.mem_cons_self q List.mem_cons_self
    have ha0 := ha
    have hb0 := hb
    obtain ⟨a1, a2, a3, a4⟩ := ha
    obtain ⟨b1, b2, b3, b4⟩ := hb
    obtain ⟨sa1, sa2⟩ := List.pairwise_cons.1 sa
    obtain ⟨sb1, sb2⟩ := List.pairwise_cons.1 sb
    simp only [List.length_cons] at hN
    unfold apart at hpq
    by_cases c : p.fr < q.fr
    · obtain ⟨X, m, o, s⟩ := mix_ex N a (q :: b) p.to (by simp; omega) a4 ⟨by omega, b2, b3, b4⟩ sa2 sb hap.tail
      refine ⟨p :: X, .left p m, ⟨a1, a2, a3, o⟩, List.pairwise_cons.2 ⟨fun y hy => ?_, s⟩⟩
      rcases (mix_mem m y).1 hy with h | h
      · exact sa1 y h
      · rcases List.mem_cons.1 h with rfl | h
        · exact c
        · have := sb1 y h; omega
    · obtain ⟨X, m, o, s⟩ := mix_ex N (p :: a) b q.to (by simp; omega) ⟨by omega, a2, a3, a4⟩ b4 sa sb2 hap.tail2
      refine ⟨q :: X, .right q m, ⟨b1, b2, b3, o⟩, List.pairwise_cons.2 ⟨fun y hy => ?_, s⟩⟩
      rcases (mix_mem m y).1 hy with h | h
      · rcases List.mem_cons.1 h with rfl | h
        · omega
        · have := sa1 y h; omega
      · exact sb1 y h
theorem chk_of {n : Int} : ∀ {L : List Ed} {d : Int} {p : Option Ed}, Ok n d L → StrictF L → 0 ≤ d → (∀ q, p = some q → q.to ≤ d ∧ ∀ y ∈ L, q.fr < y.fr) → chkB n p L = true
  | [], _, p, _, _, _, _ => by cases p <;> rfl
  | e :: L, d, p, h, s, hd, hp => by
    obtain ⟨h1, h2, h3, h4⟩ := h
    obtain ⟨s1, s2⟩ := List.pairwise_cons.1 s
    have ih := chk_of (p := some e) h4 s2 (by omega) (fun q hq => by cases hq; exact ⟨Int.le_refl _, s1⟩)
    cases p with
    | none =>
      simp only [chkB, okB, Bool.and_eq_true, decide_eq_true_eq]
      exact ⟨⟨⟨by omega, h2⟩, h3⟩, ih⟩
    | some q =>
      obtain ⟨k1, k2⟩ := hp q rfl
      simp only [chkB, okB, nxB, Bool.and_eq_true, decide_eq_true_eq]
      exact ⟨⟨⟨⟨by omega, h2⟩, h3⟩, by omega, k2 e List.mem_cons_self⟩, ih⟩
/-- Both rows as one, whichever is named first. -/
theorem both_mix {n : Int} {a b X M : List Ed} (hn : n ≤ far) (hm : Mix a b X) (ho : Ok n 0 X) (hs : StrictF X) (hM : SrtOf (a ++ b) M ∨ SrtOf (b ++ a) M) : dd none M = X ∧ chkB far none (dd none M) = true := by
  have hmem : ∀ y, y ∈ M ↔ y ∈ X := fun y => by
    rw [mix_mem hm]
    rcases hM with hM | hM
    · rw [(srt_perm hM).mem_iff, List.mem_append]
    · rw [(srt_perm hM).mem_iff, List.mem_append]; exact Or.comm
  have hw : M.Pairwise (fun x y => x.fr ≤ y.fr) := by rcases hM with hM | hM <;> exact srt_weak hM
  have hd := (dd_strict (p := none) hw (fun x hx y hy => strictF_inj hs x ((hmem x).1 hx) y ((hmem y).1 hy)) (fun q hq => by cases hq)).1
  have e : dd none M = X := (strictF_eq hs (strictF_weak hd) (strictF_nodup hd) (fun y => by rw [dd_mem, hmem])).symm
  refine ⟨e, ?_⟩
  rw [e]
  exact chk_more hn (chk_of ho hs (Int.le_refl _) (fun q hq => by cases hq))
/-- Where a byte stands that none takes away. -/
def mvv (b : Int) (a : List Ed) (x : Int) : Int := (mv b a x).getD 0
def mvd (b0 : Int) (a b : List Ed) : List Ed := b.map fun e => ⟨mvv b0 a e.fr, mvv b0 a e.to, e.tx⟩
def Free (a : List Ed) (x : Int) : Prop := ∀ p ∈ a, x < p.fr ∨ p.to ≤ x
theorem mv_free : ∀ {a : List Ed} {b x : Int}, Free a x → mv b a x = some (mvv b a x)
  | [], _, _, _ => rfl
  | p :: a, b, x, h => by
    have h1 := h p List.mem_cons_self
    have ih := mv_free (a := a) (b := b + gr p) (x := x) (fun y hy => h y (List.mem_cons_of_mem _ hy))
    unfold mvv at *
    rw [mv]
    by_cases c1 : x < p.fr
    · rw [if_pos c1]; rfl
    · rw [if_neg c1, if_neg (by omega)]
      exact ih
theorem free_of {n d : Int} {a b : List Ed} (hap : Apart a b) (hb : Ok n d b) {q : Ed} (hq : q ∈ b) : Free a q.fr ∧ Free a q.to := by
  have := ok_mem hb q hq
  exact ⟨fun p hp => by have := hap p hp q hq; unfold apart at this; omega, fun p hp => by have := hap p hp q hq; unfold apart at this; omega⟩
theorem free_tail {a : List Ed} {p : Ed} {x : Int} (h : Free (p :: a) x) : Free a x := fun y hy => h y (List.mem_cons_of_mem _ hy)
/-- The bytes up to e stand as they are, if no edit comes before e. -/
theorem app_split {t : By} {L : List Ed} {d e : Nat} (hde : d ≤ e) (hL : ∀ x ∈ L.head?, (e : Int) ≤ x.fr) : app t d L = (t.drop d).take (e - d) ++ app t e L := by
  have key : ∀ k, e ≤ k → (t.drop d).take (k - d) = (t.drop d).take (e - d) ++ (t.drop e).take (k - e) := fun k hk => by
    have h1 : k - d = (e - d) + (k - e) := by omega
    rw [h1, List.take_add, List.drop_drop]
    congr 3; omega
  cases L with
  | nil =>
    rw [app, app]
    conv => lhs; rw [← List.take_append_drop (e - d) (t.drop d)]
    rw [List.drop_drop]
    congr 2; omega
  | cons x L =>
    have := hL x rfl
    rw [app, app, key x.fr.toNat (by omega), List.append_assoc, List.append_assoc, List.append_assoc]
theorem mvd_skip {b0 : Int} {a b : List Ed} {p : Ed} (hp : p.fr ≤ p.to) (hb : ∀ q ∈ b, p.to ≤ q.fr ∧ q.fr ≤ q.to) : mvd b0 (p :: a) b = mvd (b0 + gr p) a b := by
  unfold mvd
  refine List.map_congr_left fun q hq => ?_
  obtain ⟨h1, h2⟩ := hb q hq
  unfold mvv
  rw [mv, mv, if_neg (by omega), if_neg (by omega), if_neg (by omega), if_neg (by omega)]
theorem mvv_low {b0 : Int} {a : List Ed} {x : Int} (h : ∀ p ∈ a.head?, x < p.fr) : mvv b0 a x = x + b0 := by
  unfold mvv
  cases a with
  | nil => rfl
  | cons p a => rw [mv, if_pos (h p rfl)]; rfl
/-- The edits of both at once are those of a, and then those of b where they stand then. -/
theorem app_mix {t s : By} {a b X : List Ed} (hm : Mix a b X) : ∀ (d c : Nat), Ok t.length d X → Apart a b → s.drop c = app t d a → c ≤ s.length → app s c (mvd ((c : Int) - d) a b) = app t d X := by
  induction hm with
  | nil => intro d c _ _ h _; rw [mvd, List.map_nil, app]; exact h
  | @left a b X p hm ih =>
    intro d c ho hap h hc
    obtain ⟨h1, h2, h3, h4⟩ := ho
    obtain ⟨oa, ob⟩ := mix_ok hm h4
    obtain ⟨f, hf⟩ := Int.eq_ofNat_of_zero_le (show 0 ≤ p.fr by omega)
    obtain ⟨g, hg⟩ := Int.eq_ofNat_of_zero_le (show 0 ≤ p.to by omega)
    rw [app, hf, hg] at h
    simp only [Int.toNat_natCast] at h
    have hlen : ((t.drop d).take (f - d) ++ p.tx).length = (f - d) + p.tx.length := by
      rw [List.length_append, List.length_take, List.length_drop]; omega
    obtain ⟨c', hc'⟩ : ∃ c', c' = c + ((f - d) + p.tx.length) := ⟨_, rfl⟩
    have hd' : s.drop c' = app t g a := by
      rw [hc', ← List.drop_drop, h, ← hlen, List.drop_left]
    have hcl : c' ≤ s.length := by
      have := congrArg List.length h
      rw [List.length_append, hlen, List.length_drop] at this
      omega
    have hrest := ih g c' (by rw [← hg]; exact h4) hap.tail hd' hcl
    have e1 : mvd ((c : Int) - d) (p :: a) b = mvd ((c' : Int) - g) a b := by
      rw [mvd_skip h2 (fun q hq => by have := ok_mem ob q hq; omega)]
      congr 1
      unfold gr
      omega
    rw [e1, app_split (e := c') (by omega), hrest]
    · rw [app, hf, hg, Int.toNat_natCast, Int.toNat_natCast, h, show c' - c = (f - d) + p.tx.length by omega, ← hlen, List.take_left]
    · intro x hx
      unfold mvd at hx
      cases b with
      | nil => cases hx
      | cons q b =>
        rw [List.map_cons, List.head?_cons, Option.mem_def, Option.some.injEq] at hx
        subst hx
        have hfree := (free_of hap.tail ob (q := q) List.mem_cons_self).1
        have := mv_low a t.length p.to _ _ _ oa (by have := ok_mem ob q List.mem_cons_self; omega) (mv_free (b := (c' : Int) - g) hfree)
        show (c' : Int) ≤ mvv _ a q.fr
        omega
  | @right a b X q hm ih =>
    intro d c ho hap h hc
    obtain ⟨h1, h2, h3, h4⟩ := ho
    obtain ⟨oa, ob⟩ := mix_ok hm h4
    obtain ⟨f, hf⟩ := Int.eq_ofNat_of_zero_le (show 0 ≤ q.fr by omega)
    obtain ⟨g, hg⟩ := Int.eq_ofNat_of_zero_le (show 0 ≤ q.to by omega)
    have hhead : ∀ p ∈ a.head?, q.to < p.fr := fun p hp => by
      have hp' := List.mem_of_mem_head? hp
      have k1 := ok_mem oa p hp'
      have k2 := hap p hp' q List.mem_cons_self
      unfold apart at k2
      omega
    have m1 : mvv ((c : Int) - d) a q.fr = ((c + (f - d) : Nat) : Int) := by
      rw [mvv_low (fun p hp => by have := hhead p hp; omega)]; omega
    have m2 : mvv ((c : Int) - d) a q.to = ((c + (g - d) : Nat) : Int) := by
      rw [mvv_low hhead]; omega
    have hsp := app_split (t := t) (L := a) (d := d) (e := g) (by omega) (fun p hp => by have := hhead p hp; omega)
    have hlen : ((t.drop d).take (g - d)).length = g - d := by rw [List.length_take, List.length_drop]; omega
    have hd' : s.drop (c + (g - d)) = app t g a := by
      rw [← List.drop_drop, h, hsp]
      exact List.drop_left' hlen
    have hcl : c + (g - d) ≤ s.length := by
      have := congrArg List.length h
      rw [hsp, List.length_append, hlen, List.length_drop] at this
      omega
    have hrest := ih g (c + (g - d)) (by rw [← hg]; exact h4) hap.tail2 hd' hcl
    have e1 : ((c + (g - d) : Nat) : Int) - g = (c : Int) - d := by omega
    rw [e1] at hrest
    show app s c (⟨mvv ((c : Int) - d) a q.fr, mvv ((c : Int) - d) a q.to, q.tx⟩ :: mvd ((c : Int) - d) a b) = _
    rw [m1, m2, app, app]
    simp only [Int.toNat_natCast, hf, hg]
    rw [hrest, h, hsp, List.take_append_of_le_length (by rw [hlen]; omega), List.take_take, show c + (f - d) - c = f - d by omega, Nat.min_eq_left (by omega)]
theorem chk_mvd {t : By} {a : List Ed} (ha : Ok t.length 0 a) : ∀ {b : List Ed} {p : Option Ed}, chkB t.length p b = true → Apart a b → (∀ q, p = some q → 0 ≤ q.fr ∧ q.fr ≤ q.to ∧ Free a q.fr ∧ Free a q.to) →
    chkB (app t 0 a).length (p.map fun e => ⟨mvv 0 a e.fr, mvv 0 a e.to, e.tx⟩) (mvd 0 a b) = true
  | [], p, _, _, _ => by cases p <;> rfl
  | e :: L, p, h, hap, hp => by
    have hokB : 0 ≤ e.fr ∧ e.fr ≤ e.to ∧ e.to ≤ t.length := by
      cases p <;> simp only [chkB, okB, Bool.and_eq_true, decide_eq_true_eq] at h <;> omega
    have hfree : Free a e.fr ∧ Free a e.to := ⟨fun p hp => by have := hap p hp e List.mem_cons_self; unfold apart at this; omega, fun p hp => by have := hap p hp e List.mem_cons_self; unfold apart at this; omega⟩
    have htail : chkB t.length (some e) L = true := by
      cases p <;> simp only [chkB, Bool.and_eq_true] at h <;> exact h.2
    have ih := chk_mvd ha htail hap.tail2 (fun q hq => by cases hq; exact ⟨hokB.1, hokB.2.1, hfree.1, hfree.2⟩)
    have mono : ∀ x y, 0 ≤ x → Free a x → Free a y → x ≤ y → mvv 0 a x ≤ mvv 0 a y ∧ (x < y → mvv 0 a x < mvv 0 a y) := fun x y hx f1 f2 hxy => by
      have h3 : x < y → mvv 0 a x < mvv 0 a y := fun h => mv_mono a t.length 0 0 x y _ _ ha hx h (mv_free f1) (mv_free f2)
      rcases Int.lt_or_eq_of_le hxy with h | h
      · exact ⟨by have := h3 h; omega, h3⟩
      · subst h; exact ⟨Int.le_refl _, h3⟩
    have hlow := mv_low a t.length 0 0 e.fr _ ha hokB.1 (mv_free hfree.1)
    have hend : mvv 0 a e.to ≤ (app t 0 a).length := by
      have hl := at_end ha
      have hfe : Free a (t.length : Int) := fun p hp => .inr (ok_mem ha p hp).2.2
      have := (mono e.to t.length (by omega) hfree.2 hfe (by omega)).1
      unfold mvv at this
      rw [hl] at this
      unfold mvv
      simpa using this
    have hm := (mono e.fr e.to hokB.1 hfree.1 hfree.2 hokB.2.1).1
    show chkB _ _ (⟨mvv 0 a e.fr, mvv 0 a e.to, e.tx⟩ :: mvd 0 a L) = true
    cases p with
    | none =>
      simp only [Option.map_none, chkB, okB, Bool.and_eq_true, decide_eq_true_eq]
      exact ⟨⟨⟨by omega, hm⟩, hend⟩, ih⟩
    | some q =>
      obtain ⟨k1, k2, k3, k4⟩ := hp q rfl
      have hn : q.to ≤ e.fr ∧ q.fr < e.fr := by
        simp only [chkB, nxB, Bool.and_eq_true, decide_eq_true_eq] at h
        exact h.1.2
      simp only [Option.map_some, chkB, okB, nxB, Bool.and_eq_true, decide_eq_true_eq]
      exact ⟨⟨⟨⟨by omega, hm⟩, hend⟩, (mono q.to e.fr (by omega) k4 hfree.1 hn.1).1, (mono q.fr e.fr k1 k3 hfree.1 (by omega)).2 hn.2⟩, ih⟩
end Go.Proofs.Ytpekbakidhfliaa
