/-
  For the laws of fallback: trees, by the document: Put, Get, Sort, Paths, Same. Condition: at most 100,000 files.
-/
import Derived.StillTailTactics
import Derived.Laws.Cover1
import Derived.Test.YtbekbllffphfeaaGreatDoorTPaths
import Derived.BigQuiet
import Derived.Test.YtbekbllffphfeaaGreatDoorFz
namespace Go.Proofs.YtbekbllffphfeaaGreatDoor.T
open Go.RowKit Go.Shelf
set_option linter.unusedSimpArgs false
set_option linter.unusedVariables false

theorem bs_ne {a b : List UInt8} (h : a ≠ b) : bs a ≠ bs b := fun e => h (by have := congrArg tl e; rwa [tl_bs, tl_bs] at this)
theorem paths_len (zs : List By) : (pathsOf zs).length ≤ zs.length := by
  have h1 := Lib.compact_length_le (sortB zs)
  have h2 : (sortB zs).length = zs.length := List.length_mergeSort zs
  exact Nat.le_trans h1 (Nat.le_of_eq h2)
theorem less_not : ∀ {a b : By}, b < a → Op.bytesLess a b = false
  | [], b, h => absurd h (List.not_lt_nil b)
  | x :: a, [], _ => rfl
  | x :: a, y :: b, h => by
    rw [Op.bytesLess]
    rcases List.cons_lt_cons_iff.1 h with h1 | ⟨h1, h2⟩
    · have e1 : decide (x < y) = false := decide_eq_false (by rw [UInt8.lt_iff_toNat_lt] at h1 ⊢; omega)
      have e2 : (x == y) = false := beq_eq_false_iff_ne.2 (fun e => by rw [e, UInt8.lt_iff_toNat_lt] at h1; omega)
      rw [e1, e2]; rfl
    · subst h1
      have e1 : decide (y < y) = false := decide_eq_false (by rw [UInt8.lt_iff_toNat_lt]; omega)
      rw [e1, less_not h2]; simp
theorem fl_new1 (W : World) (f : Fl) (t : TypeId) : ∀ j u, (rowF f)[j]? = some u → (W.alloc (.cells #[.string (bs f.path), .string (bs f.text)] t)).cell? ((⟨W.heap.size, 0, none⟩ : Addr).add j) = some u := by
  intro j u hj
  have h := World.alloc_heap_new W (.cells #[.string (bs f.path), .string (bs f.text)] t)
  rw [add_flat, Nat.zero_add, Lib.cell_of_heap h]
  simpa [rowF] using hj
theorem wpList_append_fls {w : World} {ops : Array Oper} {rest : List Oper} {o : Oper} {a : Act} {Q : Exit → Act → World → Prop} (hgd : o.guard = none) (s x : Operand)
    (ho : o.op = .call { callee := .builtin .append, args := #[s, x], argTypes := #[33, 33] }) (base : Nat)
    (v vx : Value) (n : Nat) (xs : List Value) (L : List Fl) (hs : a.eval s = v) (hown : w.ownsRow base 48 2 v n xs) (hx : a.eval x = vx) (hst : Fls w vx L)
    (hn : n + L.length ≤ 1000000) (hbase : base ≤ w.heap.size)
    (h : ∀ v' w', w'.ownsRow base 48 2 v' (n + L.length) (xs ++ fv L) → Below base w w' → wpList Tryz.prog ops Q rest (a.put o.dst v') w') : wpList Tryz.prog ops Q (o :: rest) a w := by
  obtain ⟨i0, hi, hz0, hz1, hz2⟩ := info_parts infoFl
  have hrow : ∀ {w' : World}, w.grownBy w' v.ownBlock → Below base w w' := fun hg =>
    (Below.refl base w).grown hg hbase fun k e => (hown.lt k e).1
  obtain ⟨ad, cap, rfl, hc, hm, hv⟩ := hst
  cases ad with
  | none =>
    have hy : L = [] := by
      cases L with
      | nil => rfl
      | cons y L =>
        obtain ⟨b, off, e, _⟩ := hv 0 y rfl
        cases e
    subst hy
    refine wpList_plain hgd fun K hK => ?_
    have hrun : (Builtin.append_ #[33, 33] o.type #[v, .slice none 0 cap]).run Tryz.prog w = .ok v w := by
      rcases hown.2 with ⟨rfl, rfl⟩ | ⟨g, cp, cur, rfl, _, _, hnc, _⟩
      · simp [Builtin.append_, run_underlying Tryz.underlying33, sizeOf, typeInfo, hi, Builtin.lenOf, Builtin.firstCells]
      · simp [Builtin.append_, run_underlying Tryz.underlying33, sizeOf, typeInfo, hi, Builtin.lenOf, Builtin.firstCells, hnc, storeCells]
    have hx' : a.eval x = .slice none 0 cap := hx
    unfold Oper.wp
    simp [execOp, ho, resolve, invoke, builtin, hs, hx', hrun, Result.andThen]
    exact hK _ _ (h v w (by simpa [fv] using hown) (Below.refl _ _))
  | some p =>
    refine wpList_append_own w hgd s x 33 ho base 48 i0 (.agg #[.string ⟨#[]⟩, .string ⟨#[]⟩]) 2 32 Tryz.underlying33 hi hz0 hz1 hz2 rfl (by decide) v n xs hs hown p L.length cap (fv L) hx (fv_len L) ?_ ?_ (by unfold maxLen; omega) (by omega) hbase ?_
    · intro j u hj
      have hjl := (List.getElem?_eq_some_iff.1 hj).1
      rw [fv_len] at hjl
      obtain ⟨y, hy⟩ : ∃ y, L[j / 2]? = some y := ⟨_, List.getElem?_eq_getElem (by omega)⟩
      obtain ⟨b, off, e, _, c0, c1⟩ := hv (j / 2) y hy
      cases e
      obtain ⟨g0, g1⟩ := fv_get hy
      rw [add_flat]
      rcases Nat.mod_two_eq_zero_or_one j with hj2 | hj2
      · have ej : j / 2 * 2 = j := by omega
        rw [ej] at c0 g0
        rw [hj] at g0
        rw [c0, g0]
      · have ej : j / 2 * 2 + 1 = j := by omega
        rw [Nat.add_assoc, ej] at c1
        rw [ej, hj] at g1
        rw [c1, g1]
    · intro u hu
      obtain ⟨f, _, hf⟩ := List.mem_flatMap.1 hu
      simp only [rowF, List.mem_cons, List.not_mem_nil, or_false] at hf
      rcases hf with rfl | rfl <;> rfl
    · intro v' w' h1 h2 _
      exact h v' w' h1 (hrow h2)
/-- One file more, in the place of the one of its path; d: it is there already. -/
def putR (p t : By) : List Fl → Bool → List Fl
  | [], d => if d then [] else [⟨p, t⟩]
  | f :: r, d => (if decide (p ≤ f.path) && !d then [⟨p, t⟩] else []) ++ ((if decide (f.path = p) then [] else [f]) ++ putR p t r (d || decide (p ≤ f.path)))
theorem putR_true (p t : By) (L : List Fl) : putR p t L true = remF L p := by
  induction L with
  | nil => rfl
  | cons f r ih =>
    rw [putR, Bool.true_or, ih]
    unfold remF
    rw [List.filter_cons]
    by_cases h : f.path = p <;> simp [h]
theorem putR_false_le {p t : By} {f : Fl} {r : List Fl} (h : p ≤ f.path) : putR p t (f :: r) false = ⟨p, t⟩ :: remF (f :: r) p := by
  rw [putR, decide_eq_true h, Bool.or_true, putR_true]
  unfold remF
  rw [List.filter_cons]
  by_cases h : f.path = p <;> simp [h]
theorem putR_false_lt {p t : By} {f : Fl} {r : List Fl} (h : f.path < p) : putR p t (f :: r) false = f :: putR p t r false := by
  have h1 : ¬ p ≤ f.path := fun e => List.lt_irrefl _ (lt_of_le_lt e h)
  have h2 : ¬ f.path = p := fun e => by rw [e] at h; exact List.lt_irrefl _ h
  rw [putR, decide_eq_false h1, decide_eq_false h2]
  rfl
theorem putR_mem {p t : By} {x : Fl} : ∀ {L : List Fl} {d : Bool}, x ∈ putR p t L d → x = ⟨p, t⟩ ∨ x ∈ L
  | [], d, h => by
    rw [putR] at h
    cases d <;> simp at h
    exact .inl h
  | f :: r, d, h => by
    rw [putR, List.mem_append, List.mem_append] at h
    rcases h with h | h | h
    · split at h
      · exact .inl (List.mem_singleton.1 h)
      · simp at h
    · split at h
      · simp at h
      · exact .inr (by rw [List.mem_singleton.1 h]; exact List.mem_cons_self)
    · rcases putR_mem h with h | h
      · exact .inl h
      · exact .inr (List.mem_cons_of_mem _ h)
theorem lt_or_le (a b : By) : a < b ∨ b ≤ a := by
  by_cases h : a < b
  · exact .inl h
  · exact .inr (List.not_lt.1 h)
theorem putR_rising {p t : By} : ∀ {L : List Fl}, Rising L → Rising (putR p t L false)
  | [], _ => List.pairwise_singleton _ _
  | f :: r, h => by
    obtain ⟨h1, h2⟩ := List.pairwise_cons.1 h
    rcases lt_or_le f.path p with hl | hl
    · rw [putR_false_lt hl]
      refine List.pairwise_cons.2 ⟨fun x hx => ?_, putR_rising h2⟩
      rcases putR_mem hx with rfl | hx
      · exact hl
      · exact h1 x hx
    · rw [putR_false_le hl]
      refine List.pairwise_cons.2 ⟨fun x hx => ?_, rising_rem h p⟩
      unfold remF at hx
      rw [List.mem_filter] at hx
      have hne : x.path ≠ p := by simpa using hx.2
      have hle : p ≤ x.path := by
        rcases List.mem_cons.1 hx.1 with rfl | hx
        · exact hl
        · exact List.le_trans hl (List.le_of_lt (h1 x hx))
      exact lt_of_le_ne hle (fun e => hne e.symm)
theorem putR_get {p t : By} (q : By) : ∀ {L : List Fl}, Rising L → getT (putR p t L false) q = if p = q then some t else getT L q
  | [], _ => rfl
  | f :: r, h => by
    obtain ⟨h1, h2⟩ := List.pairwise_cons.1 h
    rcases lt_or_le f.path p with hl | hl
    · rw [putR_false_lt hl, getT, putR_get q h2, getT]
      have hne : ¬ f.path = p := fun e => by rw [e] at hl; exact List.lt_irrefl _ hl
      by_cases e : p = q
      · subst e; rw [if_pos rfl, if_neg hne]; simp
      · rw [if_neg e, if_neg e]
    · rw [putR_false_le hl, getT, get_rem]
      by_cases e : p = q
      · rw [if_pos e, if_pos e]
      · rw [if_neg e, if_neg e, if_neg (fun h => e h.symm)]
theorem putR_sort (L : List Fl) (p t : By) : putR p t (sortF L) false = putF L p t := by
  refine rising_ext (putR_rising (rising_sort _)) (rising_sort _) fun q => ?_
  rw [putR_get q (rising_sort _), get_put, get_sort]
theorem putR_next {L : List Fl} {k : Nat} {x : Fl} (h : L[k]? = some x) : putR x.path x.text (sortF (L.take k)) false = sortF (L.take (k + 1)) := by
  rw [putR_sort, putF, List.take_add_one, h]
  rfl
theorem putR_len (p t : By) : ∀ (L : List Fl) (d : Bool), (putR p t L d).length ≤ L.length * 2 + 1
  | [], d => by cases d <;> simp [putR]
  | f :: r, d => by
    rw [putR, List.length_append, List.length_append]
    have := putR_len p t r (d || decide (p ≤ f.path))
    have h1 : (if decide (p ≤ f.path) && !d then [(⟨p, t⟩ : Fl)] else []).length ≤ 1 := by split <;> simp
    have h2 : (if decide (f.path = p) then [] else [f]).length ≤ 1 := by split <;> simp
    rw [List.length_cons]
    omega
theorem less_of : ∀ {a b : By}, a < b → Op.bytesLess a b = true
  | a, [], h => absurd h (List.not_lt_nil a)
  | [], y :: b, _ => rfl
  | x :: a, y :: b, h => by
    rw [Op.bytesLess]
    rcases List.cons_lt_cons_iff.1 h with h1 | ⟨h1, h2⟩
    · have e1 : decide (x < y) = true := decide_eq_true h1
      rw [e1]; rfl
    · subst h1
      rw [less_of h2]; simp
theorem less_self : ∀ (a : By), Op.bytesLess a a = false
  | [] => rfl
  | x :: a => by rw [Op.bytesLess, less_self a]; simp
theorem less_iff (a b : By) : Op.bytesLess a b = decide (a < b) := by
  rcases lt_or_le a b with h | h
  · rw [decide_eq_true h, less_of h]
  · rw [decide_eq_false (fun e => List.lt_irrefl _ (lt_of_le_lt h e))]
    rcases List.le_iff_lt_or_eq.1 h with h | rfl
    · exact less_not h
    · exact less_self _
theorem step_app {A : List Fl} {p t : By} {L : List Fl} {k : Nat} {x : Fl} {d : Bool} (hx : L[k]? = some x) : A ++ putR p t (L.drop k) d = (A ++ (if decide (p ≤ x.path) && !d then [⟨p, t⟩] else []) ++ (if decide (x.path = p) then [] else [x])) ++ putR p t (L.drop (k + 1)) (d || decide (p ≤ x.path)) := by
  obtain ⟨h1, rfl⟩ := List.getElem?_eq_some_iff.1 hx
  rw [List.drop_eq_getElem_cons h1, putR]
  simp only [List.append_assoc]
set_option maxRecDepth 100000 in
set_option maxHeartbeats 8000000 in
theorem RefPut_any (v : Value) (L : List Fl) (p t : By) (w : World) (h1 : Fls w v L) (hL : L.length ≤ 100000) : Calls Tryz.prog 71 #[v, .string (bs p), .string (bs t)] w fun e w' => (∃ v', e = .returned v' ∧ Fls w' v' (putR p t L false)) ∧ Below w.heap.size w w' := by
  obtain ⟨a, cap, rfl, hc, hm, hat⟩ := h1
  have Hat := Lib.hid hat; clear hat
  unfold maxLen at hm
  obtain ⟨i0, hi0, hz0, hz1, hz2⟩ := info_parts infoFl
  obtain ⟨R, hR⟩ : ∃ R, Hid (putR p t L false = R) := ⟨_, Lib.hid rfl⟩
  rw [hR.out]
  go_enter Tryz.func71, Tryz.ntmps71
  go_wp2_with fail
  go_loopw [7, 8, 9] (fun u d c wr => ∃ (k : Nat) (A : List Fl) (b : Bool), c = .int .i64 k ∧ k ≤ L.length ∧ d = .bool b ∧ A.length ≤ 2 * k ∧ Hid (A ++ putR p t (L.drop k) b = R) ∧ Hid (wr.ownsRow w.heap.size 48 2 u A.length (fv A)) ∧ Hid (Below w.heap.size w wr)) (fun _ _ c _ => L.length - (intOf c).toNat)
  case atStart => exact ⟨0, [], false, rfl, by omega, rfl, by simp, hR, Lib.hid (World.ownsRow_nil _ _ _ _), Lib.hid (Below.refl _ _)⟩
  case round =>
    obtain ⟨k, A, d, rfl, hk, rfl, hA, hg, hown, hB⟩ := hrel
    have hbs := hB.out.size
    by_cases hlt : k < L.length
    · obtain ⟨x, hx⟩ : ∃ x, L[k]? = some x := ⟨_, List.getElem?_eq_getElem hlt⟩
      obtain ⟨b, off, rfl, hbl, hl0, hl1⟩ := Hat.out k x hx
      have c0 : wr.cell? ⟨b, off + k * 2, none⟩ = some (.string (bs x.path)) := (hB.out.cell (p := ⟨b, off + k * 2, none⟩) hbl).trans hl0
      have c1 : wr.cell? ⟨b, off + k * 2 + 1, none⟩ = some (.string (bs x.text)) := (hB.out.cell (p := ⟨b, off + k * 2 + 1, none⟩) hbl).trans hl1
      have hg2 := hg.out
      rw [step_app hx] at hg2
      have q0 : Op.bytesLess (bs x.path).toList (bs p).toList = decide (x.path < p) := by rw [Lib.toList_data, Lib.toList_data]; exact less_iff _ _
      have q1 : Op.bytesLess x.path p = decide (x.path < p) := less_iff _ _
      have H0 := Lib.hid hl0
      have H1 := Lib.hid hl1
      clear hl0 hl1 hx
      rcases lt_or_le x.path p with hlo | hlo
      · have n1 : ¬ p ≤ x.path := fun e => List.lt_irrefl _ (lt_of_le_lt e hlo)
        have n2 : ¬ x.path = p := fun e => by rw [e] at hlo; exact List.lt_irrefl _ hlo
        rw [decide_eq_true hlo] at q0 q1
        rw [decide_eq_false n1, decide_eq_false n2] at hg2
        have Hg : Hid ((A ++ [x]) ++ putR p t (L.drop (k + 1)) d = R) := Lib.hid (by rw [← hg2]; simp)
        have f1 : (x.path == p) = false := beq_eq_false_iff_ne.2 n2
        clear hg2 hlo n1
        go_wp2_with (at_builtin; refine wpList_append_own _ rfl _ _ 33 rfl w.heap.size 48 i0 (.agg #[.string ⟨#[]⟩, .string ⟨#[]⟩]) 2 32 Tryz.underlying33 hi0 hz0 hz1 hz2 rfl (by decide) _ _ _ rfl (hown.out.alloc _) ⟨wr.heap.size, 0, none⟩ 1 1 (rowF x) rfl rfl (fl_new1 wr x _) (by simp [rowF, Value.oneCell']) (by unfold maxLen; omega) (by omega) (by simp; omega) ?_; intro v' w2 hown' hgrow _)
        have hB2 := Lib.hid ((hB.out.alloc hbs (.cells #[.string (bs x.path), .string (bs x.text)] 48)).grown hgrow (by simp; omega) (fun k hk => (hown.out.lt k hk).1))
        have ho2 : Hid (w2.ownsRow w.heap.size 48 2 v' (A ++ [x]).length (fv (A ++ [x]))) := Lib.hid (by
          rw [fv_append, List.length_append]
          simpa [fv] using hown')
        exact ⟨⟨k + 1, A ++ [x], d, by go_num, by omega, rfl, by simp; omega, Hg, ho2, hB2⟩, by simp [intOf]; omega⟩
      · have n1 : ¬ x.path < p := fun e => List.lt_irrefl _ (lt_of_le_lt hlo e)
        rw [decide_eq_false n1] at q0 q1
        rw [decide_eq_true hlo] at hg2
        cases d with
        | true =>
          by_cases he : x.path = p
          · rw [decide_eq_true he] at hg2
            have Hg : Hid (A ++ putR p t (L.drop (k + 1)) true = R) := Lib.hid (by rw [← hg2]; simp)
            have f1 : (x.path == p) = true := beq_iff_eq.2 he
            clear hg2 hlo n1 he
            go_wp2_with fail
            exact ⟨⟨k + 1, A, true, by go_num, by omega, rfl, by omega, Hg, hown, hB⟩, by simp [intOf]; omega⟩
          · rw [decide_eq_false he] at hg2
            have Hg : Hid ((A ++ [x]) ++ putR p t (L.drop (k + 1)) true = R) := Lib.hid (by rw [← hg2]; simp)
            have f1 : (x.path == p) = false := beq_eq_false_iff_ne.2 he
            clear hg2 hlo n1
            go_wp2_with (at_builtin; refine wpList_append_own _ rfl _ _ 33 rfl w.heap.size 48 i0 (.agg #[.string ⟨#[]⟩, .string ⟨#[]⟩]) 2 32 Tryz.underlying33 hi0 hz0 hz1 hz2 rfl (by decide) _ _ _ rfl (hown.out.alloc _) ⟨wr.heap.size, 0, none⟩ 1 1 (rowF x) rfl rfl (fl_new1 wr x _) (by simp [rowF, Value.oneCell']) (by unfold maxLen; omega) (by omega) (by simp; omega) ?_; intro v' w2 hown' hgrow _)
            have hB2 := Lib.hid ((hB.out.alloc hbs (.cells #[.string (bs x.path), .string (bs x.text)] 48)).grown hgrow (by simp; omega) (fun k hk => (hown.out.lt k hk).1))
            have ho2 : Hid (w2.ownsRow w.heap.size 48 2 v' (A ++ [x]).length (fv (A ++ [x]))) := Lib.hid (by
              rw [fv_append, List.length_append]
              simpa [fv] using hown')
            exact ⟨⟨k + 1, A ++ [x], true, by go_num, by omega, rfl, by simp; omega, Hg, ho2, hB2⟩, by simp [intOf]; omega⟩
        | false =>
          have hf : ∀ j u, (rowF ⟨p, t⟩)[j]? = some u → (wr.alloc (.cells #[.string (bs p), .string (bs t)] 48)).cell? ((⟨wr.heap.size, 0, none⟩ : Addr).add j) = some u := fl_new1 wr ⟨p, t⟩ 48
          have Hf := Lib.hid hf
          have Hlo := Lib.hid hlo
          clear hf hlo n1
          by_cases he : x.path = p
          · rw [decide_eq_true he] at hg2
            have Hg : Hid ((A ++ [⟨p, t⟩]) ++ putR p t (L.drop (k + 1)) true = R) := Lib.hid (by rw [← hg2]; simp)
            have f1 : (x.path == p) = true := beq_iff_eq.2 he
            clear hg2 he
            go_wp2_with (at_builtin; refine wpList_append_own _ rfl _ _ 33 rfl w.heap.size 48 i0 (.agg #[.string ⟨#[]⟩, .string ⟨#[]⟩]) 2 32 Tryz.underlying33 hi0 hz0 hz1 hz2 rfl (by decide) _ _ _ rfl (hown.out.alloc _) ⟨wr.heap.size, 0, none⟩ 1 1 (rowF ⟨p, t⟩) rfl rfl Hf.out (by simp [rowF, Value.oneCell']) (by unfold maxLen; omega) (by omega) (by simp; omega) ?_; intro v' w2 hown' hgrow _; have hB2 := Lib.hid ((hB.out.alloc hbs (.cells #[.string (bs p), .string (bs t)] 48)).grown hgrow (by simp; omega) (fun k hk => (hown.out.lt k hk).1)); have d0 : w2.cell? ⟨b, off + k * 2, none⟩ = some (.string (bs x.path)) := (hB2.out.cell (p := ⟨b, off + k * 2, none⟩) hbl).trans H0.out)
            have ho2 : Hid (w2.ownsRow w.heap.size 48 2 v' (A ++ ([⟨p, t⟩] : List Fl)).length (fv (A ++ ([⟨p, t⟩] : List Fl)))) := Lib.hid (by
              rw [fv_append, List.length_append]
              simpa [fv, rowF] using hown')
            exact ⟨⟨k + 1, A ++ [⟨p, t⟩], true, by go_num, by omega, rfl, by simp; omega, Hg, ho2, hB2⟩, by simp [intOf]; omega⟩
          · rw [decide_eq_false he] at hg2
            obtain ⟨B, hBe⟩ : ∃ B : List Fl, Hid (A ++ [⟨p, t⟩] = B) := ⟨_, Lib.hid rfl⟩
            have hBl : B.length ≤ 2 * k + 1 := by rw [← hBe.out]; simp; omega
            have Hg : Hid ((B ++ [x]) ++ putR p t (L.drop (k + 1)) true = R) := Lib.hid (by rw [← hg2, ← hBe.out]; simp)
            have f1 : (x.path == p) = false := beq_eq_false_iff_ne.2 he
            clear hg2
            go_wp2_with (at_builtin; first | (refine wpList_append_own _ rfl _ _ 33 rfl w.heap.size 48 i0 (.agg #[.string ⟨#[]⟩, .string ⟨#[]⟩]) 2 32 Tryz.underlying33 hi0 hz0 hz1 hz2 rfl (by decide) _ _ _ rfl (hown.out.alloc _) ⟨wr.heap.size, 0, none⟩ 1 1 (rowF ⟨p, t⟩) rfl rfl Hf.out (by simp [rowF, Value.oneCell']) (by unfold maxLen; omega) (by omega) (by simp; omega) ?_; intro v' w2 hown' hgrow _; have hB2 := Lib.hid ((hB.out.alloc hbs (.cells #[.string (bs p), .string (bs t)] 48)).grown hgrow (by simp; omega) (fun k hk => (hown.out.lt k hk).1)); have hb2s := hB2.out.size; have d0 : w2.cell? ⟨b, off + k * 2, none⟩ = some (.string (bs x.path)) := (hB2.out.cell (p := ⟨b, off + k * 2, none⟩) hbl).trans H0.out; have d1 : w2.cell? ⟨b, off + k * 2 + 1, none⟩ = some (.string (bs x.text)) := (hB2.out.cell (p := ⟨b, off + k * 2 + 1, none⟩) hbl).trans H1.out; have ho2 : Hid (w2.ownsRow w.heap.size 48 2 v' B.length (fv B)) := Lib.hid (by rw [← hBe.out, fv_append, List.length_append]; simpa [fv, rowF] using hown'); clear hown' hgrow c0 c1) | (refine wpList_append_own _ rfl _ _ 33 rfl w.heap.size 48 i0 (.agg #[.string ⟨#[]⟩, .string ⟨#[]⟩]) 2 32 Tryz.underlying33 hi0 hz0 hz1 hz2 rfl (by decide) _ _ _ rfl (ho2.out.alloc _) ⟨w2.heap.size, 0, none⟩ 1 1 (rowF x) rfl rfl (fl_new1 w2 x _) (by simp [rowF, Value.oneCell']) (by unfold maxLen; omega) (by omega) (by simp; omega) ?_; intro v3 w3 hown3 hgrow3 _))
            have hB3 := Lib.hid ((hB2.out.alloc hb2s (.cells #[.string (bs x.path), .string (bs x.text)] 48)).grown hgrow3 (by simp; omega) (fun k hk => (ho2.out.lt k hk).1))
            have ho3 : Hid (w3.ownsRow w.heap.size 48 2 v3 (B ++ [x]).length (fv (B ++ [x]))) := Lib.hid (by
              rw [fv_append, List.length_append]
              simpa [fv] using hown3)
            exact ⟨⟨k + 1, B ++ [x], true, by go_num, by omega, rfl, by simp; omega, Hg, ho3, hB3⟩, by simp [intOf]; omega⟩
    · obtain rfl : k = L.length := by omega
      have hg2 := hg.out
      rw [List.drop_length] at hg2
      cases d with
      | true =>
        obtain rfl : A = R := by rw [← hg2]; simp [putR]
        go_wp2_with fail
        go_ret
        exact ⟨⟨_, rfl, own_fls hown.out⟩, hB.out⟩
      | false =>
        obtain rfl : A ++ [⟨p, t⟩] = R := by rw [← hg2]; simp [putR]
        have hf : ∀ j u, (rowF ⟨p, t⟩)[j]? = some u → (wr.alloc (.cells #[.string (bs p), .string (bs t)] 48)).cell? ((⟨wr.heap.size, 0, none⟩ : Addr).add j) = some u := fl_new1 wr ⟨p, t⟩ 48
        have Hf := Lib.hid hf
        clear hf hg2
        go_wp2_with (at_builtin; refine wpList_append_own _ rfl _ _ 33 rfl w.heap.size 48 i0 (.agg #[.string ⟨#[]⟩, .string ⟨#[]⟩]) 2 32 Tryz.underlying33 hi0 hz0 hz1 hz2 rfl (by decide) _ _ _ rfl (hown.out.alloc _) ⟨wr.heap.size, 0, none⟩ 1 1 (rowF ⟨p, t⟩) rfl rfl Hf.out (by simp [rowF, Value.oneCell']) (by unfold maxLen; omega) (by omega) (by simp; omega) ?_; intro v' w2 hown' hgrow _)
        have hB2 := Lib.hid ((hB.out.alloc hbs (.cells #[.string (bs p), .string (bs t)] 48)).grown hgrow (by simp; omega) (fun k hk => (hown.out.lt k hk).1))
        have ho2 : Hid (w2.ownsRow w.heap.size 48 2 v' (A ++ ([⟨p, t⟩] : List Fl)).length (fv (A ++ ([⟨p, t⟩] : List Fl)))) := Lib.hid (by
          rw [fv_append, List.length_append]
          simpa [fv, rowF] using hown')
        clear hown' hgrow
        go_wp2_with fail
        go_ret
        exact ⟨⟨_, rfl, own_fls ho2.out⟩, hB2.out⟩
set_option maxRecDepth 100000 in
set_option maxHeartbeats 8000000 in
theorem RefGet_any (v : Value) (L : List Fl) (q : ByteArray) (w : World) (h1 : Fls w v L) : Calls Tryz.prog 34 #[v, .string q] w fun e w' => e = .returned (match getT L (tl q) with | some t => .tuple #[.string (bs t), .bool true] | none => .tuple #[.string ⟨#[]⟩, .bool false]) ∧ Below w.heap.size w w' := by
  obtain ⟨a, cap, rfl, hc, hm, hat⟩ := h1
  have Hat := Lib.hid hat; clear hat
  unfold maxLen at hm
  obtain ⟨r, hr⟩ : ∃ r, Hid (getT L (tl q) = r) := ⟨_, Lib.hid rfl⟩
  rw [hr.out]
  go_enter Tryz.func34, Tryz.ntmps34
  go_wp2_with fail
  go_loopw [6] (fun c wr => ∃ k : Nat, c = .int .i64 k ∧ k ≤ L.length ∧ Hid (Below w.heap.size w wr) ∧ Hid (getT (L.drop k) (tl q) = r)) (fun c _ => L.length - (intOf c).toNat)
  case atStart => exact ⟨0, rfl, by omega, Lib.hid (Below.refl _ _), hr⟩
  case round =>
    obtain ⟨k, rfl, hk, hB, hg⟩ := hrel
    have hbs := hB.out.size
    by_cases hlt : k < L.length
    · obtain ⟨x, hx⟩ : ∃ x, L[k]? = some x := ⟨_, List.getElem?_eq_getElem hlt⟩
      obtain ⟨b, off, rfl, hbl, hl0, hl1⟩ := Hat.out k x hx
      have c0 : wr.cell? ⟨b, off + k * 2, none⟩ = some (.string (bs x.path)) := (hB.out.cell (p := ⟨b, off + k * 2, none⟩) hbl).trans hl0
      have c1 : wr.cell? ⟨b, off + k * 2 + 1, none⟩ = some (.string (bs x.text)) := (hB.out.cell (p := ⟨b, off + k * 2 + 1, none⟩) hbl).trans hl1
      have hd : L.drop k = x :: L.drop (k + 1) := by
        obtain ⟨hk, rfl⟩ := List.getElem?_eq_some_iff.1 hx
        exact List.drop_eq_getElem_cons hk
      have hg2 := hg.out
      rw [hd, getT] at hg2
      have f := bs_beq q x.path
      clear hl0 hl1 hx hd
      by_cases he : x.path = tl q
      · rw [decide_eq_true he] at f
        rw [if_pos he] at hg2
        subst hg2
        clear he
        go_wp2_with fail
        go_ret2
        exact ⟨rfl, hB.out⟩
      · rw [decide_eq_false he] at f
        rw [if_neg he] at hg2
        have Hg2 := Lib.hid hg2
        clear he hg2
        go_wp2_with fail
        exact ⟨⟨k + 1, by go_num, by omega, hB, Hg2⟩, by simp [intOf]; omega⟩
    · obtain rfl : k = L.length := by omega
      have hg2 := hg.out
      rw [List.drop_length] at hg2
      obtain rfl : none = r := hg2
      go_wp2_with fail
      go_ret2
      exact ⟨rfl, hB.out⟩
theorem sort_len (L : List Fl) : (sortF L).length ≤ L.length := by
  have h := paths_len (L.map Fl.path)
  rw [List.length_map] at h
  rw [sortF, List.length_map]; exact h
theorem fls_nil (W : World) : Fls W (.slice none 0 0) [] := ⟨none, 0, rfl, Nat.le_refl _, Nat.zero_le _, by simp⟩
theorem str_new1 (W : World) (x : ByteArray) (t : TypeId) : ∀ j u, ([.string x] : List Value)[j]? = some u → (W.alloc (.cells #[.string x] t)).cell? ((⟨W.heap.size, 0, none⟩ : Addr).add j) = some u := by
  intro j u hj
  have h := World.alloc_heap_new W (.cells #[.string x] t)
  rw [add_flat, Nat.zero_add, Lib.cell_of_heap h]
  simpa using hj
set_option maxRecDepth 100000 in
set_option maxHeartbeats 8000000 in
theorem RefSort_any (v : Value) (L : List Fl) (w : World) (h1 : Fls w v L) (hL : L.length ≤ 100000) : Calls Tryz.prog 54 #[v] w fun e w' => (∃ v', e = .returned v' ∧ Fls w' v' (sortF L)) ∧ Below w.heap.size w w' := by
  obtain ⟨a, cap, rfl, hc, hm, hat⟩ := h1
  have Hat := Lib.hid hat; clear hat
  unfold maxLen at hm
  go_enter Tryz.func54, Tryz.ntmps54
  go_wp2_with fail
  go_loopw [3, 4] (fun u c wr => ∃ (k : Nat), c = .int .i64 k ∧ k ≤ L.length ∧ Hid (Fls wr u (sortF (L.take k))) ∧ Hid (Below w.heap.size w wr)) (fun _ c _ => L.length - (intOf c).toNat)
  case atStart => exact ⟨0, rfl, by omega, Lib.hid (by rw [List.take_zero, show sortF [] = [] by simp [sortF, paths_nil]]; exact fls_nil _), Lib.hid (Below.refl _ _)⟩
  case round =>
    obtain ⟨k, rfl, hk, hfl, hB⟩ := hrel
    have hbs := hB.out.size
    by_cases hlt : k < L.length
    · obtain ⟨x, hx⟩ : ∃ x, L[k]? = some x := ⟨_, List.getElem?_eq_getElem hlt⟩
      obtain ⟨b, off, rfl, hbl, hl0, hl1⟩ := Hat.out k x hx
      have c0 : wr.cell? ⟨b, off + k * 2, none⟩ = some (.string (bs x.path)) := (hB.out.cell (p := ⟨b, off + k * 2, none⟩) hbl).trans hl0
      have c1 : wr.cell? ⟨b, off + k * 2 + 1, none⟩ = some (.string (bs x.text)) := (hB.out.cell (p := ⟨b, off + k * 2 + 1, none⟩) hbl).trans hl1
      have hlen : (sortF (L.take k)).length ≤ 100000 := Nat.le_trans (sort_len _) (by rw [List.length_take]; omega)
      have Hlen := Lib.hid hlen
      have Hnx := Lib.hid (putR_next hx)
      clear hl0 hl1 hx hlen
      go_wp2_with fail
      go_still_tail 11, (by kernel_rfl)
      change wpList _ _ _ _ _ wr.drew
      have hfl2 : Hid (Fls wr.drew u3 (sortF (L.take k))) := hfl
      have hB2 : Hid (Below w.heap.size w wr.drew) := Lib.hid (below_drew hB.out)
      obtain ⟨V, hV⟩ : ∃ V, Hid (wr.drew = V) := ⟨_, Lib.hid rfl⟩
      rw [hV.out] at hfl2 hB2 ⊢
      go_wp2_with fail
      refine (RefPut_any _ (sortF (L.take k)) x.path x.text V hfl2.out Hlen.out).mono ?_
      rw [Hnx.out]
      rintro e w2 ⟨⟨v2, rfl, hv2⟩, hb2⟩
      have Hv2 := Lib.hid hv2
      have hB3 : Hid (Below w.heap.size w w2) := Lib.hid (hB2.out.trans (hb2.mono hB2.out.size))
      clear hv2 hb2
      go_wp2_with fail
      exact ⟨⟨k + 1, by go_num, by omega, Hv2, hB3⟩, by simp [intOf]; omega⟩
    · obtain rfl : k = L.length := by omega
      rw [List.take_length] at hfl
      go_wp2_with fail
      go_ret
      exact ⟨⟨_, rfl, hfl.out⟩, hB.out⟩
theorem ps_sort (L : List Fl) : ps (sortF L) = pathsOf (ps L) := by
  unfold sortF ps
  rw [List.map_map]
  exact List.map_id _
set_option maxRecDepth 100000 in
set_option maxHeartbeats 8000000 in
theorem RefPaths_any (v : Value) (LL : List (List Fl)) (w : World) (h1 : Fss w v LL) (hL : LL.flatten.length ≤ 100000) : Calls Tryz.prog 33 #[v] w fun e w' => ∃ v', e = .returned v' ∧ Strs w' v' (pathsOf (ps LL.flatten)) ∧ Below w.heap.size w w' := by
  obtain ⟨a, cap, rfl, hc, hm, hat⟩ := h1
  have Hat := Lib.hid hat; clear hat
  have hbd : ∀ k, (LL.take k).flatten.length ≤ 100000 := fun k => by
    have e : LL.flatten = (LL.take k).flatten ++ (LL.drop k).flatten := by rw [← List.flatten_append, List.take_append_drop]
    rw [e, List.length_append] at hL; omega
  have Hbd := Lib.hid hbd; clear hbd
  have HL := Lib.hid hL; clear hL
  obtain ⟨i0, hi0, hz0, hz1, hz2⟩ := info_parts infoStr
  unfold maxLen at hm
  go_enter Tryz.func33, Tryz.ntmps33
  go_wp2_with fail
  go_loopw [3, 4] (fun o c wr => ∃ k : Nat, c = .int .i64 k ∧ k ≤ LL.length ∧ Hid (wr.ownsRow w.heap.size 48 2 o (LL.take k).flatten.length (fv (LL.take k).flatten)) ∧ Hid (Below w.heap.size w wr)) (fun _ c _ => LL.length - (intOf c).toNat)
  case atStart => exact ⟨0, rfl, by omega, Lib.hid (World.ownsRow_nil _ _ _ _), Lib.hid (Below.refl _ _)⟩
  case round =>
    obtain ⟨k, rfl, hk, hown, hB⟩ := hrel
    have hbs := hB.out.size
    by_cases hlt : k < LL.length
    · obtain ⟨L, hx⟩ : ∃ x, LL[k]? = some x := ⟨_, List.getElem?_eq_getElem hlt⟩
      obtain ⟨b, off, u, rfl, hbl, hl0, hfl⟩ := Hat.out k L hx
      have c0 : wr.cell? ⟨b, off + k, none⟩ = some u := (hB.out.cell (p := ⟨b, off + k, none⟩) hbl).trans hl0
      have hfr := hfl.below hB.out
      have htk : (LL.take (k + 1)).flatten = (LL.take k).flatten ++ L := by rw [List.take_add_one, hx]; simp
      have hS1 : (LL.take k).flatten.length + L.length ≤ 1000000 := by
        have := Hbd.out (k + 1)
        rw [htk, List.length_append] at this; omega
      have Htk := Lib.hid htk
      have Hfr := Lib.hid hfr
      have HS1 := Lib.hid hS1
      clear hfl hfr htk hx hl0 hS1
      go_wp2_with (at_builtin; refine wpList_append_fls rfl _ _ rfl w.heap.size _ _ _ _ L rfl hown.out rfl Hfr.out HS1.out hbs ?_; intro v' w4 hown' hb4)
      have ho2 : Hid (w4.ownsRow w.heap.size 48 2 v' (LL.take (k + 1)).flatten.length (fv (LL.take (k + 1)).flatten)) := Lib.hid (by
        rw [Htk.out, fv_append, List.length_append]; exact hown')
      exact ⟨⟨k + 1, by go_num, by omega, ho2, Lib.hid (hB.out.trans hb4)⟩, by simp [intOf]; omega⟩
    · obtain rfl : k = LL.length := by omega
      rw [List.take_length] at hown
      obtain ⟨S, hS⟩ : ∃ S, Hid (sortF LL.flatten = S) := ⟨_, Lib.hid rfl⟩
      have hSl : S.length ≤ 100000 := by rw [← hS.out]; exact Nat.le_trans (sort_len _) HL.out
      have hps : Hid (pathsOf (ps LL.flatten) = ps S) := Lib.hid (by rw [← hS.out, ps_sort])
      have Hf := Lib.hid (own_fls hown.out)
      clear hown
      go_wp2_with fail
      refine (RefSort_any _ LL.flatten wr Hf.out HL.out).mono ?_
      rw [hS.out]
      rintro e w2 ⟨⟨v2, rfl, hv2⟩, hb2⟩
      have hB2 : Hid (Below w.heap.size w w2) := Lib.hid (hB.out.trans (hb2.mono hB.out.size))
      obtain ⟨a2, cap2, rfl, hc2, hm2, hat2⟩ := hv2
      have Hat2 := Lib.hid hat2
      unfold maxLen at hm2
      clear hat2 hb2
      go_wp2_with fail
      go_loopw [6, 7] (fun o c wi => ∃ j : Nat, c = .int .i64 j ∧ j ≤ S.length ∧ Hid (wi.ownsRow w2.heap.size 9 1 o (ps (S.take j)).length (strV (ps (S.take j)))) ∧ Hid (Below w2.heap.size w2 wi)) (fun _ c _ => S.length - (intOf c).toNat)
      case atStart => exact ⟨0, rfl, by omega, Lib.hid (World.ownsRow_nil _ _ _ _), Lib.hid (Below.refl _ _)⟩
      case round =>
        obtain ⟨j, rfl, hj, howj, hBw⟩ := hrel
        have hbsw := hBw.out.size
        have hlen : (ps (S.take j)).length ≤ 100000 := by rw [ps, List.length_map, List.length_take]; omega
        by_cases hjl : j < S.length
        · obtain ⟨x, hx⟩ : ∃ x, S[j]? = some x := ⟨_, List.getElem?_eq_getElem hjl⟩
          obtain ⟨b2, off2, rfl, hbl2, hl0, -⟩ := Hat2.out j x hx
          have c0 : wr.cell? ⟨b2, off2 + j * 2, none⟩ = some (.string (bs x.path)) := (hBw.out.cell (p := ⟨b2, off2 + j * 2, none⟩) hbl2).trans hl0
          have hn : Hid (ps (S.take (j + 1)) = ps (S.take j) ++ [x.path]) := Lib.hid (by rw [List.take_add_one, hx]; simp [ps])
          clear hl0 hx
          obtain ⟨Z, hZ⟩ : ∃ Z, Hid (ps (S.take j) = Z) := ⟨_, Lib.hid rfl⟩
          rw [hZ.out] at howj hlen hn
          go_wp2_with (at_builtin; refine wpList_append_own _ rfl _ _ 55 rfl w2.heap.size 9 i0 (.string ⟨#[]⟩) 1 16 Tryz.underlying55 hi0 hz0 hz1 hz2 rfl (by decide) _ _ _ rfl (howj.out.alloc _) ⟨wr.heap.size, 0, none⟩ 1 1 [.string (bs x.path)] rfl rfl (str_new1 wr (bs x.path) _) (by simp [Value.oneCell']) (by unfold maxLen; omega) (by omega) (by simp; omega) ?_; intro v' w3 hown' hgrow _)
          have hB3 := (hBw.out.alloc hbsw (.cells #[.string (bs x.path)] 9)).grown hgrow (by simp; omega) (fun k hk => (howj.out.lt k hk).1)
          have ho2 : Hid (w3.ownsRow w2.heap.size 9 1 v' (ps (S.take (j + 1))).length (strV (ps (S.take (j + 1))))) := Lib.hid (by
            rw [hn.out, List.length_append, strV, List.map_append]
            exact hown')
          exact ⟨⟨j + 1, by go_num, by omega, ho2, Lib.hid hB3⟩, by simp [intOf]; omega⟩
        · obtain rfl : j = S.length := by omega
          rw [List.take_length] at howj
          go_wp2_with fail
          go_ret
          exact ⟨_, rfl, by rw [hps.out]; exact own_strs howj.out, hB2.out.trans (hBw.out.mono hB2.out.size)⟩
theorem drop_same {A B : List Fl} {k : Nat} {x y : Fl} (hx : A[k]? = some x) (hy : B[k]? = some y) : decide (A.drop k = B.drop k) = (decide (x = y) && decide (A.drop (k + 1) = B.drop (k + 1))) := by
  obtain ⟨h1, rfl⟩ := List.getElem?_eq_some_iff.1 hx
  obtain ⟨h2, rfl⟩ := List.getElem?_eq_some_iff.1 hy
  rw [List.drop_eq_getElem_cons h1, List.drop_eq_getElem_cons h2, Bool.eq_iff_iff]
  simp only [List.cons.injEq, Bool.and_eq_true, decide_eq_true_eq]
theorem same_len {A B : List Fl} (h : A.length ≠ B.length) : decide (A = B) = false := decide_eq_false (fun e => h (by rw [e]))
set_option maxRecDepth 100000 in
set_option maxHeartbeats 8000000 in
theorem RefSame_any (u v : Value) (A B : List Fl) (w : World) (h1 : Fls w u A) (h2 : Fls w v B) : Calls Tryz.prog 16 #[u, v] w fun e w' => e = .returned (.bool (decide (A = B))) ∧ Below w.heap.size w w' := by
  obtain ⟨a, cap, rfl, hc, hm, hat⟩ := h1
  obtain ⟨a2, cap2, rfl, hc2, hm2, hat2⟩ := h2
  have Hat := Lib.hid hat; clear hat
  have Hat2 := Lib.hid hat2; clear hat2
  unfold maxLen at hm hm2
  obtain ⟨r, hr⟩ : ∃ r, Hid (decide (A = B) = r) := ⟨_, Lib.hid rfl⟩
  rw [hr.out]
  rcases Decidable.em (¬ A.length = B.length) with hl | hl'
  · have hr2 := hr.out
    rw [same_len hl] at hr2
    subst hr2
    have f0 : ((A.length : Int) == (B.length : Int)) = false := beq_eq_false_iff_ne.2 (by omega)
    go_enter Tryz.func16, Tryz.ntmps16
    go_wp2_with fail
    go_ret
    exact ⟨rfl, Below.refl _ _⟩
  have hl : A.length = B.length := Decidable.not_not.1 hl'
  clear hl'
  have f0 : ((A.length : Int) == (B.length : Int)) = true := beq_iff_eq.2 (by omega)
  have hab : A.length ≤ B.length := by omega
  have Hl := Lib.hid hl
  clear hl
  go_enter Tryz.func16, Tryz.ntmps16
  go_wp2_with fail
  go_loopw [5] (fun c wr => ∃ k : Nat, c = .int .i64 k ∧ k ≤ A.length ∧ Hid (decide (A.drop k = B.drop k) = r) ∧ ∃ q, Hid (wr = w.drewN q)) (fun c _ => A.length - (intOf c).toNat)
  case atStart => exact ⟨0, rfl, by omega, hr, 0, Lib.hid rfl⟩
  case round =>
    obtain ⟨k, rfl, hk, hg, q, hq⟩ := hrel
    by_cases hlt : k < A.length
    · obtain ⟨x, hx⟩ : ∃ x, A[k]? = some x := ⟨_, List.getElem?_eq_getElem hlt⟩
      obtain ⟨y, hy⟩ : ∃ y, B[k]? = some y := ⟨_, List.getElem?_eq_getElem (by omega)⟩
      obtain ⟨b, off, rfl, hbl, hl0, hl1⟩ := Hat.out k x hx
      obtain ⟨b2, off2, rfl, hbl2, hl2, hl3⟩ := Hat2.out k y hy
      have c0 : wr.cell? ⟨b, off + k * 2, none⟩ = some (.string (bs x.path)) := by rw [hq.out]; exact hl0
      have c1 : wr.cell? ⟨b, off + k * 2 + 1, none⟩ = some (.string (bs x.text)) := by rw [hq.out]; exact hl1
      have c2 : wr.cell? ⟨b2, off2 + k * 2, none⟩ = some (.string (bs y.path)) := by rw [hq.out]; exact hl2
      have c3 : wr.cell? ⟨b2, off2 + k * 2 + 1, none⟩ = some (.string (bs y.text)) := by rw [hq.out]; exact hl3
      have p0 : (0 : Int) ≤ (k : Int) := by omega
      have p1 : (k : Int) < (A.length : Int) := by omega
      have p2 : (k : Int) < (cap : Int) := by omega
      have p3 : (k : Int) < (cap2 : Int) := by omega
      have p4 : (k : Int) < (B.length : Int) := by omega
      have hg2 := hg.out
      rw [drop_same hx hy] at hg2
      clear hl0 hl1 hl2 hl3 hx hy
      by_cases e : x = y
      · subst e
        have Hg2 : Hid (decide (A.drop (k + 1) = B.drop (k + 1)) = r) := Lib.hid (by rw [← hg2]; simp)
        clear hg2
        go_wp2_with fail
        go_quiet (fail)
        go_wp2_with fail
        exact ⟨⟨k + 1, by go_num, by omega, Hg2, q + nq, Lib.hid (by rw [hq.out]; exact World.drewN_drewN w q nq)⟩, by simp [intOf]; omega⟩
      · rw [decide_eq_false e, Bool.false_and] at hg2
        subst hg2
        obtain ⟨xp, xt⟩ := x
        obtain ⟨yp, yt⟩ := y
        dsimp only at c0 c1 c2 c3
        by_cases e1 : xp = yp
        · subst e1
          have e2 : ¬ xt = yt := fun h => e (by rw [h])
          clear e
          go_wp2_with fail
          go_quiet (fail)
          go_wp2_with fail
          go_ret
          exact ⟨rfl, by rw [hq.out]; exact below_draws (below_draws (Below.refl _ _) _) _⟩
        · have e2 : bs xp ≠ bs yp := bs_ne e1
          clear e
          go_wp2_with fail
          go_quiet (fail)
          go_wp2_with fail
          go_ret
          exact ⟨rfl, by rw [hq.out]; exact below_draws (below_draws (Below.refl _ _) _) _⟩
    · obtain rfl : k = A.length := by omega
      have hg2 := hg.out
      rw [List.drop_length, Hl.out, List.drop_length] at hg2
      obtain rfl : true = r := by rw [← hg2]; rfl
      go_wp2_with fail
      go_ret
      exact ⟨rfl, by rw [hq.out]; exact below_draws (Below.refl _ _) _⟩
end Go.Proofs.YtbekbllffphfeaaGreatDoor.T
/-
  For the laws of fallback: few files, the conflicts' equality, and three trees as one, by the document. Condition: texts of at most 2,599 bytes; at most 50,000 files in all.
-/
namespace Go.Proofs.YtbekbllffphfeaaGreatDoor
open Go.RowKit Go.Shelf
set_option linter.unusedSimpArgs false
set_option linter.unusedVariables false

def sumB : List T.Fl → Nat
  | [] => 0
  | f :: L => f.text.length + f.path.length + sumB L
def fewB (L : List T.Fl) : Bool := decide (L.length ≤ 10) && decide (sumB L ≤ 2500)
theorem sumB_next {L : List T.Fl} {k : Nat} {x : T.Fl} (h : L[k]? = some x) : sumB (L.take (k + 1)) = sumB (L.take k) + (x.text.length + x.path.length) := by
  rw [List.take_add_one, h]
  show sumB (L.take k ++ [x]) = _
  generalize L.take k = A
  induction A with
  | nil => simp [sumB]
  | cons y A ih => simp only [List.cons_append, sumB, ih]; omega
theorem sumB_take (L : List T.Fl) (k : Nat) : sumB (L.take k) ≤ sumB L := by
  induction L generalizing k with
  | nil => simp [sumB]
  | cons y A ih =>
    cases k with
    | zero => simp [sumB]
    | succ k => simp only [List.take_succ_cons, sumB]; have := ih k; omega
theorem sumB_mem {L : List T.Fl} {f : T.Fl} (h : f ∈ L) : f.text.length + f.path.length ≤ sumB L := by
  induction L with
  | nil => cases h
  | cons y A ih =>
    rcases List.mem_cons.1 h with rfl | h
    · simp only [sumB]; omega
    · have := ih h; simp only [sumB]; omega
theorem fewB_bd {L : List T.Fl} (h : fewB L = true) : L.length ≤ 10 ∧ ∀ f ∈ L, f.text.length ≤ 2500 := by
  simp only [fewB, Bool.and_eq_true, decide_eq_true_eq] at h
  exact ⟨h.1, fun f hf => by have := sumB_mem hf; omega⟩
theorem w_sum {n T P : Nat} (h1 : n ≤ 2500) (h2 : T ≤ 1048576) (h3 : P ≤ 1048576) : wrap64 ((n : Int) + ((T : Int) + (P : Int))) = ((n + (T + P) : Nat) : Int) := by
  have e : ((n + (T + P) : Nat) : Int) = (n : Int) + ((T : Int) + (P : Int)) := by simp
  rw [e]
  exact Go.IntWalk.wrap64_in _ (by omega)
set_option maxRecDepth 100000 in
set_option maxHeartbeats 8000000 in
theorem Few_any (v : Value) (L : List T.Fl) (w : World) (h1 : T.Fls w v L) (hp : ∀ f ∈ L, f.path.length ≤ 1048576 ∧ f.text.length ≤ 1048576) : Calls Tryz.prog 13 #[v, .int .i64 10, .int .i64 2500] w fun e w' => e = .returned (.bool (fewB L)) ∧ Below w.heap.size w w' := by
  obtain ⟨a, cap, rfl, hc, hm, hat⟩ := h1
  have Hat := Lib.hid hat; clear hat
  have HP := Lib.hid hp; clear hp
  unfold maxLen at hm
  by_cases hs : L.length ≤ 10
  · have f0 : decide ((L.length : Int) > 10) = false := decide_eq_false (by omega)
    obtain ⟨r, hr⟩ : ∃ r, Hid (decide (sumB L ≤ 2500) = r) := ⟨_, Lib.hid rfl⟩
    have hf : Hid (fewB L = r) := Lib.hid (by rw [fewB, decide_eq_true hs, hr.out, Bool.true_and])
    rw [hf.out]
    go_enter Tryz.func13, Tryz.ntmps13
    go_wp2_with fail
    go_loopw [7, 8] (fun s c wr => ∃ k : Nat, c = .int .i64 k ∧ k ≤ L.length ∧ (∃ n : Nat, s = .int .i64 n ∧ Hid (sumB (L.take k) = n) ∧ n ≤ 2500) ∧ ∃ q, Hid (wr = w.drewN q)) (fun _ c _ => L.length - (intOf c).toNat)
    case atStart => exact ⟨0, rfl, by omega, ⟨0, rfl, Lib.hid rfl, by omega⟩, 0, Lib.hid rfl⟩
    case round =>
      obtain ⟨k, rfl, hk, ⟨n, rfl, hn, hn2⟩, q, hq⟩ := hrel
      by_cases hlt : k < L.length
      · obtain ⟨x, hx⟩ : ∃ x, L[k]? = some x := ⟨_, List.getElem?_eq_getElem hlt⟩
        obtain ⟨b, off, rfl, hbl, hl0, hl1⟩ := Hat.out k x hx
        have c0 : wr.cell? ⟨b, off + k * 2, none⟩ = some (.string (bs x.path)) := by rw [hq.out]; exact hl0
        have c1 : wr.cell? ⟨b, off + k * 2 + 1, none⟩ = some (.string (bs x.text)) := by rw [hq.out]; exact hl1
        have p0 : (0 : Int) ≤ (k : Int) := by omega
        have p1 : (k : Int) < (L.length : Int) := by omega
        have p2 : (k : Int) < (cap : Int) := by omega
        obtain ⟨m1, m2⟩ := HP.out x (List.mem_of_getElem? hx)
        obtain ⟨P, hP⟩ : ∃ P, x.path.length = P := ⟨_, rfl⟩
        obtain ⟨T, hT⟩ : ∃ P, x.text.length = P := ⟨_, rfl⟩
        rw [hP] at m1
        rw [hT] at m2
        have z0 : (bs x.path).size = P := by rw [bs_size, hP]
        have z1 : (bs x.text).size = T := by rw [bs_size, hT]
        have s1 : wrap64 ((T : Int) + (P : Int)) = ((T : Int) + (P : Int)) := Go.IntWalk.wrap64_in _ (by omega)
        have s2 : wrap64 ((n : Int) + ((T : Int) + (P : Int))) = ((n + (T + P) : Nat) : Int) := w_sum hn2 m2 m1
        have Hnx : Hid (sumB (L.take (k + 1)) = n + (T + P)) := Lib.hid (by rw [sumB_next hx, hn.out, hP, hT])
        clear hl0 hl1 hx
        obtain ⟨m, hm'⟩ : ∃ m, n + (T + P) = m := ⟨_, rfl⟩
        rw [hm'] at s2 Hnx
        clear hm' m1 m2 hP hT
        by_cases e1 : m ≤ 2500
        · have f1 : decide ((m : Int) > 2500) = false := decide_eq_false (by omega)
          go_wp2_with fail
          go_quiet (fail)
          go_wp2_with fail
          exact ⟨⟨k + 1, by go_num, by omega, ⟨m, congrArg (Value.int .i64) s2, Hnx, e1⟩, q + nq, Lib.hid (by rw [hq.out]; exact World.drewN_drewN w q nq)⟩, by simp [intOf]; omega⟩
        · have f1 : decide ((m : Int) > 2500) = true := decide_eq_true (by omega)
          have hrf : r = false := by rw [← hr.out]; exact decide_eq_false (fun e => by have := sumB_take L (k + 1); have := Hnx.out; omega)
          subst hrf
          go_wp2_with fail
          go_quiet (fail)
          go_wp2_with fail
          go_ret
          exact ⟨rfl, by rw [hq.out]; exact below_draws (below_draws (Below.refl _ _) _) _⟩
      · obtain rfl : k = L.length := by omega
        have hrf : r = true := by rw [← hr.out]; exact decide_eq_true (by have := hn.out; rw [List.take_length] at this; omega)
        subst hrf
        go_wp2_with fail
        go_ret
        exact ⟨rfl, by rw [hq.out]; exact below_draws (Below.refl _ _) _⟩
  · have f0 : decide ((L.length : Int) > 10) = true := decide_eq_true (by omega)
    rw [fewB, decide_eq_false hs, Bool.false_and]
    go_enter Tryz.func13, Tryz.ntmps13
    go_wp2_with fail
    go_ret
    exact ⟨rfl, Below.refl _ _⟩
/-- A row of conflicts. -/
def Cfl (W : World) (v : Value) (L : CL) : Prop :=
  ∃ (a : Option Addr) (cap : Nat), v = .slice a L.length cap ∧ L.length ≤ cap ∧ cap ≤ maxLen ∧ ∀ k x, L[k]? = some x → ∃ b off, a = some ⟨b, off, none⟩ ∧ b < W.heap.size ∧ W.cell? ⟨b, off + k * 2, none⟩ = some (.int .i64 x.1) ∧ W.cell? ⟨b, off + k * 2 + 1, none⟩ = some (.string x.2)
theorem Cfl.below {W W' : World} {v : Value} {L : CL} (h : Cfl W v L) (hb : Below W.heap.size W W') : Cfl W' v L := by
  obtain ⟨a, cap, rfl, hc, hm, hx⟩ := h
  refine ⟨a, cap, rfl, hc, hm, fun k x hk => ?_⟩
  obtain ⟨b, off, rfl, hl, h1, h2⟩ := hx k x hk
  exact ⟨b, off, rfl, by have := hb.size; omega, (hb.cell (p := ⟨b, off + k * 2, none⟩) hl).trans h1, (hb.cell (p := ⟨b, off + k * 2 + 1, none⟩) hl).trans h2⟩
theorem cv_len (L : CL) : (cv L).length = L.length * 2 := by
  unfold cv
  induction L with
  | nil => rfl
  | cons x L ih => rw [List.flatMap_cons, List.length_append, ih, List.length_cons]; simp; omega
theorem cv_get {L : CL} {k : Nat} {x : Int × ByteArray} (h : L[k]? = some x) : (cv L)[k * 2]? = some (.int .i64 x.1) ∧ (cv L)[k * 2 + 1]? = some (.string x.2) := by
  have e : L = L.take k ++ x :: L.drop (k + 1) := by
    obtain ⟨hk, rfl⟩ := List.getElem?_eq_some_iff.1 h
    rw [← List.drop_eq_getElem_cons hk, List.take_append_drop]
  have hk := (List.getElem?_eq_some_iff.1 h).1
  have hl : (cv (L.take k)).length = k * 2 := by rw [cv_len, List.length_take, Nat.min_eq_left (by omega)]
  rw [e, cv_append]
  constructor
  · rw [List.getElem?_append_right (by omega), hl, Nat.sub_self]; rfl
  · rw [List.getElem?_append_right (by omega), hl, Nat.add_sub_cancel_left]; rfl
theorem own_cfl {W : World} {base n : Nat} {v : Value} {L : CL} (h : W.ownsRow base 63 2 v n (cv L)) : Cfl W v L := by
  have hl := h.1
  rw [cv_len] at hl
  obtain rfl : n = L.length := by omega
  rcases h.2 with ⟨rfl, h0⟩ | ⟨g, cap, cur, rfl, _, hg, h1, h2, h3, h4⟩
  · obtain rfl : L = [] := List.eq_nil_of_length_eq_zero h0
    exact ⟨none, 0, rfl, Nat.le_refl _, Nat.zero_le _, by simp⟩
  · refine ⟨_, cap, rfl, h1, h2, fun k x hk => ⟨g, 0, rfl, (Array.getElem?_eq_some_iff.1 hg).1, ?_⟩⟩
    have hkl := (List.getElem?_eq_some_iff.1 hk).1
    obtain ⟨g1, g2⟩ := cv_get hk
    rw [Nat.zero_add]
    constructor
    · rw [← g1, ← h4, List.getElem?_take_of_lt (by omega)]
      simp [World.cell?, hg]
    · rw [← g2, ← h4, List.getElem?_take_of_lt (by omega)]
      simp [World.cell?, hg]
theorem cdrop_same {A B : CL} {k : Nat} {x y : Int × ByteArray} (hx : A[k]? = some x) (hy : B[k]? = some y) : decide (A.drop k = B.drop k) = (decide (x = y) && decide (A.drop (k + 1) = B.drop (k + 1))) := by
  obtain ⟨h1, rfl⟩ := List.getElem?_eq_some_iff.1 hx
  obtain ⟨h2, rfl⟩ := List.getElem?_eq_some_iff.1 hy
  rw [List.drop_eq_getElem_cons h1, List.drop_eq_getElem_cons h2, ← Bool.decide_and]
  exact decide_eq_decide.2 (by rw [List.cons.injEq])
set_option maxRecDepth 100000 in
set_option maxHeartbeats 8000000 in
theorem Conf_any (u v : Value) (A B : CL) (w : World) (h1 : Cfl w u A) (h2 : Cfl w v B) : Calls Tryz.prog 17 #[u, v] w fun e w' => e = .returned (.bool (decide (A = B))) ∧ Below w.heap.size w w' := by
  obtain ⟨a, cap, rfl, hc, hm, hat⟩ := h1
  obtain ⟨a2, cap2, rfl, hc2, hm2, hat2⟩ := h2
  have Hat := Lib.hid hat; clear hat
  have Hat2 := Lib.hid hat2; clear hat2
  unfold maxLen at hm hm2
  obtain ⟨r, hr⟩ : ∃ r, Hid (decide (A = B) = r) := ⟨_, Lib.hid rfl⟩
  rw [hr.out]
  rcases Decidable.em (¬ A.length = B.length) with hl | hl'
  · have hr2 := hr.out
    rw [decide_eq_false (fun e => hl (by rw [e]))] at hr2
    subst hr2
    have f0 : ((A.length : Int) == (B.length : Int)) = false := beq_eq_false_iff_ne.2 (by omega)
    go_enter Tryz.func17, Tryz.ntmps17
    go_wp2_with fail
    go_ret
    exact ⟨rfl, Below.refl _ _⟩
  have hl : A.length = B.length := Decidable.not_not.1 hl'
  clear hl'
  have f0 : ((A.length : Int) == (B.length : Int)) = true := beq_iff_eq.2 (by omega)
  have hab : A.length ≤ B.length := by omega
  have Hl := Lib.hid hl
  clear hl
  go_enter Tryz.func17, Tryz.ntmps17
  go_wp2_with fail
  go_loopw [5] (fun c wr => ∃ k : Nat, c = .int .i64 k ∧ k ≤ A.length ∧ Hid (decide (A.drop k = B.drop k) = r) ∧ ∃ q, Hid (wr = w.drewN q)) (fun c _ => A.length - (intOf c).toNat)
  case atStart => exact ⟨0, rfl, by omega, hr, 0, Lib.hid rfl⟩
  case round =>
    obtain ⟨k, rfl, hk, hg, q, hq⟩ := hrel
    by_cases hlt : k < A.length
    · obtain ⟨x, hx⟩ : ∃ x, A[k]? = some x := ⟨_, List.getElem?_eq_getElem hlt⟩
      obtain ⟨y, hy⟩ : ∃ y, B[k]? = some y := ⟨_, List.getElem?_eq_getElem (by omega)⟩
      obtain ⟨b, off, rfl, hbl, hl0, hl1⟩ := Hat.out k x hx
      obtain ⟨b2, off2, rfl, hbl2, hl2, hl3⟩ := Hat2.out k y hy
      have c0 : wr.cell? ⟨b, off + k * 2, none⟩ = some (.int .i64 x.1) := by rw [hq.out]; exact hl0
      have c1 : wr.cell? ⟨b, off + k * 2 + 1, none⟩ = some (.string x.2) := by rw [hq.out]; exact hl1
      have c2 : wr.cell? ⟨b2, off2 + k * 2, none⟩ = some (.int .i64 y.1) := by rw [hq.out]; exact hl2
      have c3 : wr.cell? ⟨b2, off2 + k * 2 + 1, none⟩ = some (.string y.2) := by rw [hq.out]; exact hl3
      have p0 : (0 : Int) ≤ (k : Int) := by omega
      have p1 : (k : Int) < (A.length : Int) := by omega
      have p2 : (k : Int) < (cap : Int) := by omega
      have p3 : (k : Int) < (cap2 : Int) := by omega
      have p4 : (k : Int) < (B.length : Int) := by omega
      have hg2 := hg.out
      rw [cdrop_same hx hy] at hg2
      clear hl0 hl1 hl2 hl3 hx hy
      by_cases e : x = y
      · subst e
        have Hg2 : Hid (decide (A.drop (k + 1) = B.drop (k + 1)) = r) := Lib.hid (by rw [← hg2]; simp)
        clear hg2
        go_wp2_with fail
        go_quiet (fail)
        go_wp2_with fail
        exact ⟨⟨k + 1, by go_num, by omega, Hg2, q + nq, Lib.hid (by rw [hq.out]; exact World.drewN_drewN w q nq)⟩, by simp [intOf]; omega⟩
      · rw [decide_eq_false e, Bool.false_and] at hg2
        subst hg2
        obtain ⟨xp, xt⟩ := x
        obtain ⟨yp, yt⟩ := y
        dsimp only at c0 c1 c2 c3
        by_cases e1 : xp = yp
        · subst e1
          have e2 : ¬ xt = yt := fun h => e (by rw [h])
          obtain ⟨xs, rfl⟩ : ∃ t, bs t = xt := ⟨tl xt, bs_tl xt⟩
          obtain ⟨ys, rfl⟩ : ∃ t, bs t = yt := ⟨tl yt, bs_tl yt⟩
          have e3 : ¬ xs = ys := fun h => e2 (by rw [h])
          clear e
          go_wp2_with fail
          go_quiet (fail)
          go_wp2_with fail
          go_ret
          exact ⟨rfl, by rw [hq.out]; exact below_draws (below_draws (Below.refl _ _) _) _⟩
        · clear e
          go_wp2_with fail
          go_quiet (fail)
          go_wp2_with fail
          go_ret
          exact ⟨rfl, by rw [hq.out]; exact below_draws (below_draws (Below.refl _ _) _) _⟩
    · obtain rfl : k = A.length := by omega
      have hg2 := hg.out
      rw [List.drop_length, Hl.out, List.drop_length] at hg2
      obtain rfl : true = r := by rw [← hg2]; rfl
      go_wp2_with fail
      go_ret
      exact ⟨rfl, by rw [hq.out]; exact below_draws (Below.refl _ _) _⟩
end Go.Proofs.YtbekbllffphfeaaGreatDoor
/-
  For the laws of fallback: three trees as one, by the document. Condition: texts of at most 2,599 bytes; at most 50,000 paths in all.
-/
namespace Go.Proofs.YtbekbllffphfeaaGreatDoor
open Go.RowKit Go.Shelf
set_option linter.unusedSimpArgs false
set_option linter.unusedVariables false

theorem fv_one (x : By) (s : ByteArray) : T.fv [(⟨x, tl s⟩ : T.Fl)] = [.string (bs x), .string s] := by
  show [Value.string (T.bs x), Value.string (T.bs (tl s))] = _
  rw [show T.bs (tl s) = s from bs_tl s]
theorem own_snocF {W : World} {base : Nat} {v : Value} {F : List T.Fl} {x : By} {s : ByteArray} (h : W.ownsRow base 48 2 v (F.length + 1) (T.fv F ++ [.string (bs x), .string s])) : W.ownsRow base 48 2 v (F ++ [(⟨x, tl s⟩ : T.Fl)]).length (T.fv (F ++ [(⟨x, tl s⟩ : T.Fl)])) := by
  rw [fv_append, fv_one, List.length_append]
  exact h
theorem own_snocC {W : World} {base : Nat} {v : Value} {C : CL} {kd : Int} {x : ByteArray} (h : W.ownsRow base 63 2 v (C.length + 1) (cv C ++ [.int .i64 kd, .string x])) : W.ownsRow base 63 2 v (C ++ [(kd, x)]).length (cv (C ++ [(kd, x)])) := by
  rw [cv_append, List.length_append]
  exact h
theorem RefGet2_any (v : Value) (L : List T.Fl) (q : ByteArray) (w : World) (h1 : T.Fls w v L) : Calls Tryz.prog 34 #[v, .string q] w fun e w' => e = .returned (.tuple #[.string (gT L q).1, .bool (gT L q).2]) ∧ Below w.heap.size w w' := by
  refine (T.RefGet_any v L q w h1).mono ?_
  rintro e w' ⟨rfl, hb⟩
  refine ⟨?_, hb⟩
  unfold gT
  cases h : T.getT L (tl q) with
  | none => rfl
  | some t => rfl
set_option maxRecDepth 100000 in
set_option maxHeartbeats 16000000 in
theorem RefTrees_any (vO vA vB : Value) (O A B : List T.Fl) (old : Bool) (w : World) (h0 : T.Fls w vO O) (h1 : T.Fls w vA A) (h2 : T.Fls w vB B) (k0 : ∀ f ∈ O, f.text.length ≤ 2599) (k1 : ∀ f ∈ A, f.text.length ≤ 2599) (k2 : ∀ f ∈ B, f.text.length ≤ 2599) (hl : (pathsT O A B).length ≤ 50000) (hl2 : [O, A, B].flatten.length ≤ 100000) :
    Calls Tryz.prog 15 #[vO, vA, vB, .bool old] w fun e w' => ∃ uF uC, e = .returned (.tuple #[uF, uC]) ∧ w'.ownsRow w.heap.size 48 2 uF (treesP O A B old).1.length (T.fv (treesP O A B old).1) ∧ w'.ownsRow w.heap.size 63 2 uC (treesP O A B old).2.length (cv (treesP O A B old).2) ∧ Below w.heap.size w w' := by
  have H0 := Lib.hid h0
  have H1 := Lib.hid h1
  have H2 := Lib.hid h2
  obtain ⟨aO, cO, rfl, -, -, -⟩ := h0
  obtain ⟨aA, cA, rfl, -, -, -⟩ := h1
  obtain ⟨aB, cB, rfl, -, -, -⟩ := h2
  obtain ⟨nO, hnO⟩ : ∃ n, O.length = n := ⟨_, rfl⟩
  obtain ⟨nA, hnA⟩ : ∃ n, A.length = n := ⟨_, rfl⟩
  obtain ⟨nB, hnB⟩ : ∃ n, B.length = n := ⟨_, rfl⟩
  rw [hnO] at H0 ⊢
  rw [hnA] at H1 ⊢
  rw [hnB] at H2 ⊢
  have K0 := Lib.hid k0
  have K1 := Lib.hid k1
  have K2 := Lib.hid k2
  clear k0 k1 k2 hnO hnA hnB
  obtain ⟨R, hR⟩ : ∃ R, Hid (treesP O A B old = R) := ⟨_, Lib.hid rfl⟩
  rw [hR.out]
  obtain ⟨PS, hPS⟩ : ∃ P, Hid (pathsT O A B = P) := ⟨_, Lib.hid rfl⟩
  obtain ⟨n, hn⟩ : ∃ n, Hid (PS.length = n) := ⟨_, Lib.hid rfl⟩
  rw [hPS.out, hn.out] at hl
  have hR2 : Hid (PS.foldl (stepT O A B old) ([], []) = R) := Lib.hid (by rw [← hPS.out]; exact hR.out)
  obtain ⟨i0, hi0, hz0, hz1, hz2⟩ := info48
  obtain ⟨j0, hj0, hy0, hy1, hy2⟩ := info63
  obtain ⟨W1, hW1⟩ : ∃ W1, Hid (w.alloc (.cells #[.slice aO nO cO, .slice aA nA cA, .slice aB nB cB] 33) = W1) := ⟨_, Lib.hid rfl⟩
  have B1 : Hid (Below w.heap.size w W1) := by rw [← hW1.out]; exact Lib.hid ((Below.refl _ w).alloc (Nat.le_refl _) _)
  have R1 : RowAt W1 w.heap.size 33 #[.slice aO nO cO, .slice aA nA cA, .slice aB nB cB] := by rw [← hW1.out]; exact RowAt.new w 33 _
  have FS := Lib.hid (fss_three R1 (H0.out.below B1.out) (H1.out.below B1.out) (H2.out.below B1.out))
  clear R1
  have HL2 := Lib.hid hl2
  clear hl2
  go_enter Tryz.func15, Tryz.ntmps15
  go_wp2_with fail
  rw [hW1.out]
  refine (T.RefPaths_any _ [O, A, B] W1 FS.out HL2.out).mono ?_
  rw [show T.pathsOf (T.ps [O, A, B].flatten) = PS from hPS.out]
  rintro e w2 ⟨vP, rfl, hS, b2⟩
  have B2 := Lib.hid (B1.out.trans (b2.mono B1.out.size))
  have hbs2 := B2.out.size
  clear b2 FS
  obtain ⟨aP, cP, rfl, hcP, hmP, hatP⟩ := hS
  have HatP := Lib.hid hatP
  clear hatP
  rw [hn.out] at hcP ⊢
  unfold maxLen at hmP
  go_wp2_with fail
  go_loopw [10, 11, 13] (fun u v c wr => ∃ k : Nat, c = .int .i64 k ∧ k ≤ n ∧ ∃ F C, Hid ((PS.take k).foldl (stepT O A B old) ([], []) = (F, C)) ∧ F.length ≤ k ∧ C.length ≤ k ∧ Hid (wr.ownsRow w2.heap.size 48 2 u F.length (T.fv F)) ∧ Hid (wr.ownsRow w2.heap.size 63 2 v C.length (cv C)) ∧ Hid (Below w2.heap.size w2 wr)) (fun _ _ c _ => n - (intOf c).toNat)
  case atStart => exact ⟨0, rfl, by omega, [], [], Lib.hid rfl, by simp, by simp, Lib.hid (World.ownsRow_nil _ _ _ _), Lib.hid (World.ownsRow_nil _ _ _ _), Lib.hid (Below.refl _ _)⟩
  case round =>
    obtain ⟨k, rfl, hk, F, C, hF, hFl, hCl, howF0, howC0, hB2⟩ := hrel
    have hW2 := Lib.hid (B2.out.trans (hB2.out.mono hbs2))
    by_cases hlt : k < n
    · obtain ⟨x, hx⟩ : ∃ x, PS[k]? = some x := ⟨_, List.getElem?_eq_getElem (by have := hn.out; omega)⟩
      obtain ⟨b, off, rfl, hbl, hl0⟩ := HatP.out k x hx
      have hst : Hid ((PS.take (k + 1)).foldl (stepT O A B old) ([], []) = addT (F, C) (bs x) (fileT O A B old (bs x))) := Lib.hid (by rw [take_fold hx, hF.out]; rfl)
      have p0 : (0 : Int) ≤ (k : Int) := by omega
      have p1 : (k : Int) < (n : Int) := by omega
      have p2 : (k : Int) < (cP : Int) := by omega
      have L0 := Lib.hid (gT_le (p := bs x) K0.out)
      have L1 := Lib.hid (gT_le (p := bs x) K1.out)
      have L2 := Lib.hid (gT_le (p := bs x) K2.out)
      have hft : Hid (fileT O A B old (bs x) = fileP (gT O (bs x)).1 (gT A (bs x)).1 (gT B (bs x)).1 (gT O (bs x)).2 (gT A (bs x)).2 (gT B (bs x)).2 old) := Lib.hid rfl
      obtain ⟨⟨x0, p0'⟩, e0⟩ : ∃ g, gT O (bs x) = g := ⟨_, rfl⟩
      obtain ⟨⟨x1, p1'⟩, e1⟩ : ∃ g, gT A (bs x) = g := ⟨_, rfl⟩
      obtain ⟨⟨x2, p2'⟩, e2⟩ : ∃ g, gT B (bs x) = g := ⟨_, rfl⟩
      rw [e0] at L0
      rw [e1] at L1
      rw [e2] at L2
      rw [e0, e1, e2] at hft
      have E0 := Lib.hid e0
      have E1 := Lib.hid e1
      have E2 := Lib.hid e2
      clear e0 e1 e2
      obtain ⟨⟨s, is, kd⟩, hFT⟩ : ∃ f, Hid (fileP x0 x1 x2 p0' p1' p2' old = f) := ⟨_, Lib.hid rfl⟩
      have hst2 : Hid ((PS.take (k + 1)).foldl (stepT O A B old) ([], []) = addT (F, C) (bs x) (s, is, kd)) := Lib.hid (by rw [hst.out, hft.out]; exact congrArg _ hFT.out)
      clear hst hft hx
      have c2 : wr.cell? ⟨b, off + k, none⟩ = some (.string (bs x)) := (hB2.out.cell (p := ⟨b, off + k, none⟩) hbl).trans hl0
      go_wp2_with fail
      refine (RefGet2_any _ O (bs x) wr (H0.out.below hW2.out)).mono ?_
      rw [E0.out]
      rintro e w3 ⟨rfl, b3⟩
      have hB3 := Lib.hid (hB2.out.trans (b3.mono hB2.out.size))
      have hW3 := Lib.hid (hW2.out.trans (b3.mono hW2.out.size))
      have g3 := Lib.hid b3
      clear b3 c2
      have c3 : w3.cell? ⟨b, off + k, none⟩ = some (.string (bs x)) := (hB3.out.cell (p := ⟨b, off + k, none⟩) hbl).trans hl0
      go_wp2_with fail
      refine (RefGet2_any _ A (bs x) w3 (H1.out.below hW3.out)).mono ?_
      rw [E1.out]
      rintro e w4 ⟨rfl, b4⟩
      have hB4 := Lib.hid (hB3.out.trans (b4.mono hB3.out.size))
      have hW4 := Lib.hid (hW3.out.trans (b4.mono hW3.out.size))
      have g4 := Lib.hid b4
      clear b4 c3
      have c4 : w4.cell? ⟨b, off + k, none⟩ = some (.string (bs x)) := (hB4.out.cell (p := ⟨b, off + k, none⟩) hbl).trans hl0
      go_wp2_with fail
      refine (RefGet2_any _ B (bs x) w4 (H2.out.below hW4.out)).mono ?_
      rw [E2.out]
      rintro e w5 ⟨rfl, b5⟩
      have hB5 := Lib.hid (hB4.out.trans (b5.mono hB4.out.size))
      have hW5 := Lib.hid (hW4.out.trans (b5.mono hW4.out.size))
      have g5 := Lib.hid b5
      clear b5 c4
      go_wp2_with fail
      refine (RefFile_any x0 x1 x2 p0' p1' p2' old w5 L0.out L1.out L2.out).mono ?_
      rw [hFT.out]
      rintro e w6 ⟨rfl, b6⟩
      have b36 := Lib.hid b6
      clear b6
      have hB6 := Lib.hid (hB5.out.trans (b36.out.mono hB5.out.size))
      have hbs6 := hB6.out.size
      have hb26 : Hid (Below wr.heap.size wr w6) := Lib.hid (((g3.out.trans (g4.out.mono g3.out.size)).trans (g5.out.mono (Nat.le_trans g3.out.size g4.out.size))).trans (b36.out.mono (Nat.le_trans (Nat.le_trans g3.out.size g4.out.size) g5.out.size)))
      have howF := Lib.hid (T.own_below howF0.out hb26.out)
      have howC := Lib.hid (T.own_below howC0.out hb26.out)
      clear howF0 howC0
      have c6 : w6.cell? ⟨b, off + k, none⟩ = some (.string (bs x)) := (hB6.out.cell (p := ⟨b, off + k, none⟩) hbl).trans hl0
      dsimp only
      cases is with
      | true =>
        by_cases hkd : kd = 0
        · have f1 : (kd == (0 : Int)) = true := beq_iff_eq.2 hkd
          have hnx : Hid ((PS.take (k + 1)).foldl (stepT O A B old) ([], []) = (F ++ [(⟨x, tl s⟩ : T.Fl)], C)) := Lib.hid (by rw [hst2.out]; simp [addT, hkd, tl_bs])
          clear hkd
          go_wp2_with (at_builtin; refine wpList_append_own _ rfl _ _ 33 rfl w2.heap.size 48 i0 (.agg #[.string ⟨#[]⟩, .string ⟨#[]⟩]) 2 32 Tryz.underlying33 hi0 hz0 hz1 hz2 rfl (by decide) _ _ _ rfl (howF.out.alloc _) ⟨w6.heap.size, 0, none⟩ 1 1 [.string (bs x), .string s] rfl rfl (file_new w6 (bs x) s) (by simp [Value.oneCell']) (by unfold maxLen; omega) (by omega) (by simp; omega) ?_; intro v7 w7 hown7 hgrow7 _; have hB7 := Lib.hid (below_own hB6.out hbs6 (Nat.le_refl _) howF.out hgrow7); have hbs7 := hB7.out.size; have d0 : w7.cell? ⟨b, off + k, none⟩ = some (.string (bs x)) := (hB7.out.cell (p := ⟨b, off + k, none⟩) hbl).trans hl0; have oC7 := Lib.hid (own_apart (howC.out.alloc _) (howF.out.alloc _) (by decide) hgrow7); have oF7 := Lib.hid (own_snocF hown7); clear hown7 hgrow7)
          exact ⟨⟨k + 1, by go_num, by omega, _, _, hnx, by simp; omega, by omega, oF7, oC7, hB7⟩, by simp [intOf]; omega⟩
        · have f1 : (kd == (0 : Int)) = false := beq_eq_false_iff_ne.2 hkd
          have hnx : Hid ((PS.take (k + 1)).foldl (stepT O A B old) ([], []) = (F ++ [(⟨x, tl s⟩ : T.Fl)], C ++ [(kd, bs x)])) := Lib.hid (by rw [hst2.out]; simp [addT, hkd, tl_bs])
          clear hkd
          go_wp2_with (at_builtin; first | (refine wpList_append_own _ rfl _ _ 33 rfl w2.heap.size 48 i0 (.agg #[.string ⟨#[]⟩, .string ⟨#[]⟩]) 2 32 Tryz.underlying33 hi0 hz0 hz1 hz2 rfl (by decide) _ _ _ rfl (howF.out.alloc _) ⟨w6.heap.size, 0, none⟩ 1 1 [.string (bs x), .string s] rfl rfl (file_new w6 (bs x) s) (by simp [Value.oneCell']) (by unfold maxLen; omega) (by omega) (by simp; omega) ?_; intro v7 w7 hown7 hgrow7 _; have hB7 := Lib.hid (below_own hB6.out hbs6 (Nat.le_refl _) howF.out hgrow7); have hbs7 := hB7.out.size; have d0 : w7.cell? ⟨b, off + k, none⟩ = some (.string (bs x)) := (hB7.out.cell (p := ⟨b, off + k, none⟩) hbl).trans hl0; have oC7 := Lib.hid (own_apart (howC.out.alloc _) (howF.out.alloc _) (by decide) hgrow7); have oF7 := Lib.hid (own_snocF hown7); clear hown7 hgrow7) | (refine wpList_append_own _ rfl _ _ 35 rfl w2.heap.size 63 j0 (.agg #[.int .i64 0, .string ⟨#[]⟩]) 2 24 Tryz.underlying35 hj0 hy0 hy1 hy2 rfl (by decide) _ _ _ rfl (oC7.out.alloc _) ⟨w7.heap.size, 0, none⟩ 1 1 [.int .i64 kd, .string (bs x)] rfl rfl (con_new w7 kd (bs x)) (by simp [Value.oneCell']) (by unfold maxLen; omega) (by omega) (by simp; omega) ?_; intro v8 w8 hown8 hgrow8 _; have hB8 := Lib.hid (below_own hB7.out hbs7 (Nat.le_refl _) oC7.out hgrow8); have oF8 := Lib.hid (own_apart (oF7.out.alloc _) (oC7.out.alloc _) (by decide) hgrow8); have oC8 := Lib.hid (own_snocC hown8); clear hown8 hgrow8))
          exact ⟨⟨k + 1, by go_num, by omega, _, _, hnx, by simp; omega, by simp; omega, oF8, oC8, hB8⟩, by simp [intOf]; omega⟩
      | false =>
        by_cases hkd : kd = 0
        · have f1 : (kd == (0 : Int)) = true := beq_iff_eq.2 hkd
          have hnx : Hid ((PS.take (k + 1)).foldl (stepT O A B old) ([], []) = (F, C)) := Lib.hid (by rw [hst2.out]; simp [addT, hkd])
          clear hkd
          go_wp2_with fail
          exact ⟨⟨k + 1, by go_num, by omega, _, _, hnx, by omega, by omega, howF, howC, hB6⟩, by simp [intOf]; omega⟩
        · have f1 : (kd == (0 : Int)) = false := beq_eq_false_iff_ne.2 hkd
          have hnx : Hid ((PS.take (k + 1)).foldl (stepT O A B old) ([], []) = (F, C ++ [(kd, bs x)])) := Lib.hid (by rw [hst2.out]; simp [addT, hkd])
          clear hkd
          go_wp2_with (at_builtin; refine wpList_append_own _ rfl _ _ 35 rfl w2.heap.size 63 j0 (.agg #[.int .i64 0, .string ⟨#[]⟩]) 2 24 Tryz.underlying35 hj0 hy0 hy1 hy2 rfl (by decide) _ _ _ rfl (howC.out.alloc _) ⟨w6.heap.size, 0, none⟩ 1 1 [.int .i64 kd, .string (bs x)] rfl rfl (con_new w6 kd (bs x)) (by simp [Value.oneCell']) (by unfold maxLen; omega) (by omega) (by simp; omega) ?_; intro v8 w8 hown8 hgrow8 _; have hB8 := Lib.hid (below_own hB6.out hbs6 (Nat.le_refl _) howC.out hgrow8); have oF8 := Lib.hid (own_apart (howF.out.alloc _) (howC.out.alloc _) (by decide) hgrow8); have oC8 := Lib.hid (own_snocC hown8); clear hown8 hgrow8)
          exact ⟨⟨k + 1, by go_num, by omega, _, _, hnx, by omega, by simp; omega, oF8, oC8, hB8⟩, by simp [intOf]; omega⟩
    · obtain rfl : k = n := by omega
      have hRR : R = (F, C) := by rw [← hR2.out, ← hF.out, List.take_of_length_le (by rw [hn.out]; exact Nat.le_refl _)]
      subst hRR
      go_wp2_with fail
      go_ret2
      exact ⟨_, _, rfl, L.own_low howF0.out hbs2, L.own_low howC0.out hbs2, hW2.out⟩
end Go.Proofs.YtbekbllffphfeaaGreatDoor
/-
  For the laws of fallback: the walk of FallbackTrees. Condition: paths and texts of at most 1,048,576 bytes each; marker's table is as it is laid.
-/
namespace Go.Proofs.YtbekbllffphfeaaGreatDoor
open Go.RowKit Go.Shelf
set_option linter.unusedSimpArgs false
set_option linter.unusedVariables false

theorem flat3_len (O A B : List T.Fl) : [O, A, B].flatten.length = O.length + A.length + B.length := by
  simp
  omega
theorem pathsT_len (O A B : List T.Fl) : (pathsT O A B).length ≤ O.length + A.length + B.length := by
  rw [← flat3_len]
  refine Nat.le_trans (T.paths_len _) ?_
  rw [T.ps, List.length_map]
  exact Nat.le_refl _
set_option maxRecDepth 100000 in
set_option maxHeartbeats 16000000 in
theorem fallbackTrees_any (vO vA vB : Value) (O A B : List T.Fl) (w : World) (hW : K.MkW w) (h0 : T.Fls w vO O) (h1 : T.Fls w vA A) (h2 : T.Fls w vB B) (s0 : ∀ f ∈ O, f.path.length ≤ 1048576 ∧ f.text.length ≤ 1048576) (s1 : ∀ f ∈ A, f.path.length ≤ 1048576 ∧ f.text.length ≤ 1048576) (s2 : ∀ f ∈ B, f.path.length ≤ 1048576 ∧ f.text.length ≤ 1048576) : Calls Tryz.prog 4 #[vO, vA, vB] w fun e w' => e = .returned (.bool true) ∧ Below w.heap.size w w' := by
  have hs : 1 ≤ w.heap.size := hW.size
  have HW := Lib.hid hW
  have H0 := Lib.hid h0
  have H1 := Lib.hid h1
  have H2 := Lib.hid h2
  have S0 := Lib.hid s0
  have S1 := Lib.hid s1
  have S2 := Lib.hid s2
  clear hW h0 h1 h2 s0 s1 s2
  go_enter Tryz.func4, Tryz.ntmps4
  go_wp2_with fail
  refine (awake_any w HW.out hs).mono ?_
  rintro e w1 ⟨rfl, b1⟩
  have B1 := Lib.hid b1
  clear b1
  go_wp2_with fail
  refine (Few_any vO O w1 (H0.out.below B1.out) S0.out).mono ?_
  rintro e w2 ⟨rfl, b2⟩
  have B2 := Lib.hid (B1.out.trans (b2.mono B1.out.size))
  clear b2
  go_wp2_with fail
  refine (Few_any vA A w2 (H1.out.below B2.out) S1.out).mono ?_
  rintro e w3 ⟨rfl, b3⟩
  have B3 := Lib.hid (B2.out.trans (b3.mono B2.out.size))
  clear b3
  go_wp2_with fail
  refine (Few_any vB B w3 (H2.out.below B3.out) S2.out).mono ?_
  rintro e w4 ⟨rfl, b4⟩
  have B4 := Lib.hid (B3.out.trans (b4.mono B3.out.size))
  clear b4
  obtain ⟨f0, hf0⟩ : ∃ b, Hid (fewB O = b) := ⟨_, Lib.hid rfl⟩
  obtain ⟨f1, hf1⟩ : ∃ b, Hid (fewB A = b) := ⟨_, Lib.hid rfl⟩
  obtain ⟨f2, hf2⟩ : ∃ b, Hid (fewB B = b) := ⟨_, Lib.hid rfl⟩
  rw [hf0.out, hf1.out, hf2.out]
  cases f0 with
  | false =>
    go_wp2_with fail
    go_ret
    exact ⟨rfl, B4.out⟩
  | true =>
  cases f1 with
  | false =>
    go_wp2_with fail
    go_ret
    exact ⟨rfl, B4.out⟩
  | true =>
  cases f2 with
  | false =>
    go_wp2_with fail
    go_ret
    exact ⟨rfl, B4.out⟩
  | true =>
  obtain ⟨l0, t0⟩ := fewB_bd hf0.out
  obtain ⟨l1, t1⟩ := fewB_bd hf1.out
  obtain ⟨l2, t2⟩ := fewB_bd hf2.out
  have T0 := Lib.hid (fun f hf => Nat.le_trans (t0 f hf) (by decide : 2500 ≤ 2599))
  have T1 := Lib.hid (fun f hf => Nat.le_trans (t1 f hf) (by decide : 2500 ≤ 2599))
  have T2 := Lib.hid (fun f hf => Nat.le_trans (t2 f hf) (by decide : 2500 ≤ 2599))
  have LP := Lib.hid (show (pathsT O A B).length ≤ 30 by have := pathsT_len O A B; omega)
  have LF := Lib.hid (show [O, A, B].flatten.length ≤ 30 by rw [flat3_len]; omega)
  clear t0 t1 t2 l0 l1 l2
  obtain ⟨R1, hR1⟩ : ∃ R, Hid (treesP O A B true = R) := ⟨_, Lib.hid rfl⟩
  obtain ⟨R2, hR2⟩ : ∃ R, Hid (treesP O A B false = R) := ⟨_, Lib.hid rfl⟩
  go_wp2_with fail
  refine (Trees_any vO vA vB O A B true w4 (HW.out.below B4.out hs) (Nat.le_trans hs B4.out.size) (H0.out.below B4.out) (H1.out.below B4.out) (H2.out.below B4.out) T0.out T1.out T2.out (Nat.le_trans LP.out (by decide)) (Nat.le_trans LF.out (by decide))).mono ?_
  rw [hR1.out]
  rintro e w5 ⟨uF4, uC4, rfl, oF, oC, b⟩
  have PF4 := Lib.hid (T.own_fls oF)
  have PC4 := Lib.hid (own_cfl oC)
  have G5 := Lib.hid b
  have B5 := Lib.hid (B4.out.trans (b.mono B4.out.size))
  clear oF oC b
  go_wp2_with fail
  refine (RefTrees_any vO vA vB O A B true w5 (H0.out.below B5.out) (H1.out.below B5.out) (H2.out.below B5.out) T0.out T1.out T2.out (Nat.le_trans LP.out (by decide)) (Nat.le_trans LF.out (by decide))).mono ?_
  rw [hR1.out]
  rintro e w6 ⟨uF5, uC5, rfl, oF, oC, b⟩
  have PF5 := Lib.hid (T.own_fls oF)
  have PC5 := Lib.hid (own_cfl oC)
  have G6 := Lib.hid b
  have B6 := Lib.hid (B5.out.trans (b.mono B5.out.size))
  clear oF oC b
  go_wp2_with fail
  refine (Trees_any vO vA vB O A B false w6 (HW.out.below B6.out hs) (Nat.le_trans hs B6.out.size) (H0.out.below B6.out) (H1.out.below B6.out) (H2.out.below B6.out) T0.out T1.out T2.out (Nat.le_trans LP.out (by decide)) (Nat.le_trans LF.out (by decide))).mono ?_
  rw [hR2.out]
  rintro e w7 ⟨uF6, uC6, rfl, oF, oC, b⟩
  have PF6 := Lib.hid (T.own_fls oF)
  have PC6 := Lib.hid (own_cfl oC)
  have G7 := Lib.hid b
  have B7 := Lib.hid (B6.out.trans (b.mono B6.out.size))
  clear oF oC b
  go_wp2_with fail
  refine (RefTrees_any vO vA vB O A B false w7 (H0.out.below B7.out) (H1.out.below B7.out) (H2.out.below B7.out) T0.out T1.out T2.out (Nat.le_trans LP.out (by decide)) (Nat.le_trans LF.out (by decide))).mono ?_
  rw [hR2.out]
  rintro e w8 ⟨uF7, uC7, rfl, oF, oC, b⟩
  have PF7 := Lib.hid (T.own_fls oF)
  have PC7 := Lib.hid (own_cfl oC)
  have G8 := Lib.hid b
  have B8 := Lib.hid (B7.out.trans (b.mono B7.out.size))
  clear oF oC b
  have g5 : Hid (Below w5.heap.size w5 w8) := Lib.hid ((G6.out.trans (G7.out.mono G6.out.size)).trans (G8.out.mono (Nat.le_trans G6.out.size G7.out.size)))
  have g6 : Hid (Below w6.heap.size w6 w8) := Lib.hid (G7.out.trans (G8.out.mono G7.out.size))
  go_wp2_with fail
  refine (T.RefSame_any uF4 uF5 R1.1 R1.1 w8 (PF4.out.below g5.out) (PF5.out.below g6.out)).mono ?_
  rw [decide_eq_true rfl]
  rintro e w9 ⟨rfl, b⟩
  have G9 := Lib.hid b
  have B9 := Lib.hid (B8.out.trans (b.mono B8.out.size))
  clear b
  go_wp2_with fail
  refine (Conf_any uC4 uC5 R1.2 R1.2 w9 ((PC4.out.below g5.out).below G9.out) ((PC5.out.below g6.out).below G9.out)).mono ?_
  rw [decide_eq_true rfl]
  rintro e w10 ⟨rfl, b⟩
  have G10 := Lib.hid (G9.out.trans (b.mono G9.out.size))
  have B10 := Lib.hid (B9.out.trans (b.mono B9.out.size))
  clear b
  go_wp2_with fail
  refine (T.RefSame_any uF6 uF7 R2.1 R2.1 w10 ((PF6.out.below G8.out).below G10.out) (PF7.out.below G10.out)).mono ?_
  rw [decide_eq_true rfl]
  rintro e w11 ⟨rfl, b⟩
  have G11 := Lib.hid (G10.out.trans (b.mono G10.out.size))
  have B11 := Lib.hid (B10.out.trans (b.mono B10.out.size))
  clear b
  go_wp2_with fail
  refine (Conf_any uC6 uC7 R2.2 R2.2 w11 ((PC6.out.below G8.out).below G11.out) (PC7.out.below G11.out)).mono ?_
  rw [decide_eq_true rfl]
  rintro e w12 ⟨rfl, b⟩
  have B12 := Lib.hid (B11.out.trans (b.mono B11.out.size))
  clear b
  go_wp2_with fail
  go_ret
  exact ⟨rfl, B12.out⟩
end Go.Proofs.YtbekbllffphfeaaGreatDoor
