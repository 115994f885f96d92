/-
  For the laws of fallback: trees, by the document: Put, Get, Sort, Paths, Same. Condition: at most 100,000 files.
-/
import Derived.StillTailTactics
import Derived.Laws.Cover1
import Derived.Test.YtbekbllffphfeaaDoorTPaths
import Derived.BigQuiet
import Derived.Test.YtbekbllffphfeaaDoorFz
namespace Go.Proofs.YtbekbllffphfeaaDoor.T
open Go.RowKit Go.Shelf
set_option linter.unusedSimpArgs false
set_option linter.unusedVariables false

theorem bs_ne {a b : List UInt8} (h : a ≠ b) : bs a ≠ bs b := fun e => h (by have := congrArg tl e; rwa [tl_bs, tl_bs] at this)
theorem paths_len (zs : List By) : (pathsOf zs).length ≤ zs.length := by
  have h1 := Lib.compact_length_le (sortB zs)
  have h2 : (sortB zs).length = zs.length := List.length_mergeSort zs
  exact Nat.le_trans h1 (Nat.le_of_eq h2)
theorem less_not : ∀ {a b : By}, b < a → Op.bytesLess a b = false
  | [], b, h => absurd h (List.not_lt_nil b)
  | x :: a, [], _ => rfl
  | x :: a, y :: b, h => by
    rw [Op.bytesLess]
    rcases List.cons_lt_cons_iff.1 h with h1 | ⟨h1, h2⟩
    · have e1 : decide (x < y) = false := decide_eq_false (by rw [UInt8.lt_iff_toNat_lt] at h1 ⊢; omega)
      have e2 : (x == y) = false := beq_eq_false_iff_ne.2 (fun e => by rw [e, UInt8.lt_iff_toNat_lt] at h1; omega)
      rw [e1, e2]; rfl
    · subst h1
      have e1 : decide (y < y) = false := decide_eq_false (by rw [UInt8.lt_iff_toNat_lt]; omega)
      rw [e1, less_not h2]; simp
theorem fl_new1 (W : World) (f : Fl) (t : TypeId) : ∀ j u, (rowF f)[j]? = some u → (W.alloc (.cells #[.string (bs f.path), .string (bs f.text)] t)).cell? ((⟨W.heap.size, 0, none⟩ : Addr).add j) = some u := by
  intro j u hj
  have h := World.alloc_heap_new W (.cells #[.string (bs f.path), .string (bs f.text)] t)
  rw [add_flat, Nat.zero_add, Lib.cell_of_heap h]
  simpa [rowF] using hj
/-- One file more, in the place of the one of its path; d: it is there already. -/
def putR (p t : By) : List Fl → Bool → List Fl
  | [], d => if d then [] else [⟨p, t⟩]
  | f :: r, d => (if decide (p ≤ f.path) && !d then [⟨p, t⟩] else []) ++ ((if decide (f.path = p) then [] else [f]) ++ putR p t r (d || decide (p ≤ f.path)))
theorem putR_true (p t : By) (L : List Fl) : putR p t L true = remF L p := by
  induction L with
  | nil => rfl
  | cons f r ih =>
    rw [putR, Bool.true_or, ih]
    unfold remF
    rw [List.filter_cons]
    by_cases h : f.path = p <;> simp [h]
theorem putR_false_le {p t : By} {f : Fl} {r : List Fl} (h : p ≤ f.path) : putR p t (f :: r) false = ⟨p, t⟩ :: remF (f :: r) p := by
  rw [putR, decide_eq_true h, Bool.or_true, putR_true]
  unfold remF
  rw [List.filter_cons]
  by_cases h : f.path = p <;> simp [h]
theorem putR_false_lt {p t : By} {f : Fl} {r : List Fl} (h : f.path < p) : putR p t (f :: r) false = f :: putR p t r false := by
  have h1 : ¬ p ≤ f.path := fun e => List.lt_irrefl _ (lt_of_le_lt e h)
  have h2 : ¬ f.path = p := fun e => by rw [e] at h; exact List.lt_irrefl _ h
  rw [putR, decide_eq_false h1, decide_eq_false h2]
  rfl
theorem putR_mem {p t : By} {x : Fl} : ∀ {L : List Fl} {d : Bool}, x ∈ putR p t L d → x = ⟨p, t⟩ ∨ x ∈ L
  | [], d, h => by
    rw [putR] at h
    cases d <;> simp at h
    exact .inl h
  | f :: r, d, h => by
    rw [putR, List.mem_append, List.mem_append] at h
    rcases h with h | h | h
    · split at h
      · exact .inl (List.mem_singleton.1 h)
      · simp at h
    · split at h
      · simp at h
      · exact .inr (by rw [List.mem_singleton.1 h]; exact List.mem_cons_self)
    · rcases putR_mem h with h | h
      · exact .inl h
      · exact .inr (List.mem_cons_of_mem _ h)
theorem lt_or_le (a b : By) : a < b ∨ b ≤ a := by
  by_cases h : a < b
  · exact .inl h
  · exact .inr (List.not_lt.1 h)
theorem putR_rising {p t : By} : ∀ {L : List Fl}, Rising L → Rising (putR p t L false)
  | [], _ => List.pairwise_singleton _ _
  | f :: r, h => by
    obtain ⟨h1, h2⟩ := List.pairwise_cons.1 h
    rcases lt_or_le f.path p with hl | hl
    · rw [putR_false_lt hl]
      refine List.pairwise_cons.2 ⟨fun x hx => ?_, putR_rising h2⟩
      rcases putR_mem hx with rfl | hx
      · exact hl
      · exact h1 x hx
    · rw [putR_false_le hl]
      refine List.pairwise_cons.2 ⟨fun x hx => ?_, rising_rem h p⟩
      unfold remF at hx
      rw [List.mem_filter] at hx
      have hne : x.path ≠ p := by simpa using hx.2
      have hle : p ≤ x.path := by
        rcases List.mem_cons.1 hx.1 with rfl | hx
        · exact hl
        · exact List.le_trans hl (List.le_of_lt (h1 x hx))
      exact lt_of_le_ne hle (fun e => hne e.symm)
theorem putR_get {p t : By} (q : By) : ∀ {L : List Fl}, Rising L → getT (putR p t L false) q = if p = q then some t else getT L q
  | [], _ => rfl
  | f :: r, h => by
    obtain ⟨h1, h2⟩ := List.pairwise_cons.1 h
    rcases lt_or_le f.path p with hl | hl
    · rw [putR_false_lt hl, getT, putR_get q h2, getT]
      have hne : ¬ f.path = p := fun e => by rw [e] at hl; exact List.lt_irrefl _ hl
      by_cases e : p = q
      · subst e; rw [if_pos rfl, if_neg hne]; simp
      · rw [if_neg e, if_neg e]
    · rw [putR_false_le hl, getT, get_rem]
      by_cases e : p = q
      · rw [if_pos e, if_pos e]
      · rw [if_neg e, if_neg e, if_neg (fun h => e h.symm)]
theorem putR_sort (L : List Fl) (p t : By) : putR p t (sortF L) false = putF L p t := by
  refine rising_ext (putR_rising (rising_sort _)) (rising_sort _) fun q => ?_
  rw [putR_get q (rising_sort _), get_put, get_sort]
theorem putR_next {L : List Fl} {k : Nat} {x : Fl} (h : L[k]? = some x) : putR x.path x.text (sortF (L.take k)) false = sortF (L.take (k + 1)) := by
  rw [putR_sort, putF, List.take_add_one, h]
  rfl
theorem less_of : ∀ {a b : By}, a < b → Op.bytesLess a b = true
  | a, [], h => absurd h (List.not_lt_nil a)
  | [], y :: b, _ => rfl
  | x :: a, y :: b, h => by
    rw [Op.bytesLess]
    rcases List.cons_lt_cons_iff.1 h with h1 | ⟨h1, h2⟩
    · have e1 : decide (x < y) = true := decide_eq_true h1
      rw [e1]; rfl
    · subst h1
      rw [less_of h2]; simp
theorem less_self : ∀ (a : By), Op.bytesLess a a = false
  | [] => rfl
  | x :: a => by rw [Op.bytesLess, less_self a]; simp
theorem less_iff (a b : By) : Op.bytesLess a b = decide (a < b) := by
  rcases lt_or_le a b with h | h
  · rw [decide_eq_true h, less_of h]
  · rw [decide_eq_false (fun e => List.lt_irrefl _ (lt_of_le_lt h e))]
    rcases List.le_iff_lt_or_eq.1 h with h | rfl
    · exact less_not h
    · exact less_self _
theorem step_app {A : List Fl} {p t : By} {L : List Fl} {k : Nat} {x : Fl} {d : Bool} (hx : L[k]? = some x) : A ++ putR p t (L.drop k) d = (A ++ (if decide (p ≤ x.path) && !d then [⟨p, t⟩] else []) ++ (if decide (x.path = p) then [] else [x])) ++ putR p t (L.drop (k + 1)) (d || decide (p ≤ x.path)) := by
  obtain ⟨h1, rfl⟩ := List.getElem?_eq_some_iff.1 hx
  rw [List.drop_eq_getElem_cons h1, putR]
  simp only [List.append_assoc]
set_option maxRecDepth 100000 in
set_option maxHeartbeats 8000000 in
theorem RefPut_any (v : Value) (L : List Fl) (p t : By) (w : World) (h1 : Fls w v L) (hL : L.length ≤ 100000) : Calls Tryd.prog 12 #[v, .string (bs p), .string (bs t)] w fun e w' => (∃ v', e = .returned v' ∧ Fls w' v' (putR p t L false)) ∧ Below w.heap.size w w' := by
  obtain ⟨a, cap, rfl, hc, hm, hat⟩ := h1
  have Hat := Lib.hid hat; clear hat
  unfold maxLen at hm
  obtain ⟨i0, hi0, hz0, hz1, hz2⟩ := info_parts infoFl
  obtain ⟨R, hR⟩ : ∃ R, Hid (putR p t L false = R) := ⟨_, Lib.hid rfl⟩
  rw [hR.out]
  go_enter Tryd.func12, Tryd.ntmps12
  go_wp2_with fail
  go_loopw [7, 8, 9] (fun u d c wr => ∃ (k : Nat) (A : List Fl) (b : Bool), c = .int .i64 k ∧ k ≤ L.length ∧ d = .bool b ∧ A.length ≤ 2 * k ∧ Hid (A ++ putR p t (L.drop k) b = R) ∧ Hid (wr.ownsRow w.heap.size 34 2 u A.length (fv A)) ∧ Hid (Below w.heap.size w wr)) (fun _ _ c _ => L.length - (intOf c).toNat)
  case atStart => exact ⟨0, [], false, rfl, by omega, rfl, by simp, hR, Lib.hid (World.ownsRow_nil _ _ _ _), Lib.hid (Below.refl _ _)⟩
  case round =>
    obtain ⟨k, A, d, rfl, hk, rfl, hA, hg, hown, hB⟩ := hrel
    have hbs := hB.out.size
    by_cases hlt : k < L.length
    · obtain ⟨x, hx⟩ : ∃ x, L[k]? = some x := ⟨_, List.getElem?_eq_getElem hlt⟩
      obtain ⟨b, off, rfl, hbl, hl0, hl1⟩ := Hat.out k x hx
      have c0 : wr.cell? ⟨b, off + k * 2, none⟩ = some (.string (bs x.path)) := (hB.out.cell (p := ⟨b, off + k * 2, none⟩) hbl).trans hl0
      have c1 : wr.cell? ⟨b, off + k * 2 + 1, none⟩ = some (.string (bs x.text)) := (hB.out.cell (p := ⟨b, off + k * 2 + 1, none⟩) hbl).trans hl1
      have hg2 := hg.out
      rw [step_app hx] at hg2
      have q0 : Op.bytesLess (bs x.path).toList (bs p).toList = decide (x.path < p) := by rw [Lib.toList_data, Lib.toList_data]; exact less_iff _ _
      have q1 : Op.bytesLess x.path p = decide (x.path < p) := less_iff _ _
      have H0 := Lib.hid hl0
      have H1 := Lib.hid hl1
      clear hl0 hl1 hx
      rcases lt_or_le x.path p with hlo | hlo
      · have n1 : ¬ p ≤ x.path := fun e => List.lt_irrefl _ (lt_of_le_lt e hlo)
        have n2 : ¬ x.path = p := fun e => by rw [e] at hlo; exact List.lt_irrefl _ hlo
        rw [decide_eq_true hlo] at q0 q1
        rw [decide_eq_false n1, decide_eq_false n2] at hg2
        have Hg : Hid ((A ++ [x]) ++ putR p t (L.drop (k + 1)) d = R) := Lib.hid (by rw [← hg2]; simp)
        have f1 : (x.path == p) = false := beq_eq_false_iff_ne.2 n2
        clear hg2 hlo n1
        go_wp2_with (at_builtin; refine wpList_append_own _ rfl _ _ 22 rfl w.heap.size 34 i0 (.agg #[.string ⟨#[]⟩, .string ⟨#[]⟩]) 2 32 Tryd.underlying22 hi0 hz0 hz1 hz2 rfl (by decide) _ _ _ rfl (hown.out.alloc _) ⟨wr.heap.size, 0, none⟩ 1 1 (rowF x) rfl rfl (fl_new1 wr x _) (by simp [rowF, Value.oneCell']) (by unfold maxLen; omega) (by omega) (by simp; omega) ?_; intro v' w2 hown' hgrow _)
        have hB2 := Lib.hid ((hB.out.alloc hbs (.cells #[.string (bs x.path), .string (bs x.text)] 34)).grown hgrow (by simp; omega) (fun k hk => (hown.out.lt k hk).1))
        have ho2 : Hid (w2.ownsRow w.heap.size 34 2 v' (A ++ [x]).length (fv (A ++ [x]))) := Lib.hid (by
          rw [fv_append, List.length_append]
          simpa [fv] using hown')
        exact ⟨⟨k + 1, A ++ [x], d, by go_num, by omega, rfl, by simp; omega, Hg, ho2, hB2⟩, by simp [intOf]; omega⟩
      · have n1 : ¬ x.path < p := fun e => List.lt_irrefl _ (lt_of_le_lt hlo e)
        rw [decide_eq_false n1] at q0 q1
        rw [decide_eq_true hlo] at hg2
        cases d with
        | true =>
          by_cases he : x.path = p
          · rw [decide_eq_true he] at hg2
            have Hg : Hid (A ++ putR p t (L.drop (k + 1)) true = R) := Lib.hid (by rw [← hg2]; simp)
            have f1 : (x.path == p) = true := beq_iff_eq.2 he
            clear hg2 hlo n1 he
            go_wp2_with fail
            exact ⟨⟨k + 1, A, true, by go_num, by omega, rfl, by omega, Hg, hown, hB⟩, by simp [intOf]; omega⟩
          · rw [decide_eq_false he] at hg2
            have Hg : Hid ((A ++ [x]) ++ putR p t (L.drop (k + 1)) true = R) := Lib.hid (by rw [← hg2]; simp)
            have f1 : (x.path == p) = false := beq_eq_false_iff_ne.2 he
            clear hg2 hlo n1
            go_wp2_with (at_builtin; refine wpList_append_own _ rfl _ _ 22 rfl w.heap.size 34 i0 (.agg #[.string ⟨#[]⟩, .string ⟨#[]⟩]) 2 32 Tryd.underlying22 hi0 hz0 hz1 hz2 rfl (by decide) _ _ _ rfl (hown.out.alloc _) ⟨wr.heap.size, 0, none⟩ 1 1 (rowF x) rfl rfl (fl_new1 wr x _) (by simp [rowF, Value.oneCell']) (by unfold maxLen; omega) (by omega) (by simp; omega) ?_; intro v' w2 hown' hgrow _)
            have hB2 := Lib.hid ((hB.out.alloc hbs (.cells #[.string (bs x.path), .string (bs x.text)] 34)).grown hgrow (by simp; omega) (fun k hk => (hown.out.lt k hk).1))
            have ho2 : Hid (w2.ownsRow w.heap.size 34 2 v' (A ++ [x]).length (fv (A ++ [x]))) := Lib.hid (by
              rw [fv_append, List.length_append]
              simpa [fv] using hown')
            exact ⟨⟨k + 1, A ++ [x], true, by go_num, by omega, rfl, by simp; omega, Hg, ho2, hB2⟩, by simp [intOf]; omega⟩
        | false =>
          have hf : ∀ j u, (rowF ⟨p, t⟩)[j]? = some u → (wr.alloc (.cells #[.string (bs p), .string (bs t)] 34)).cell? ((⟨wr.heap.size, 0, none⟩ : Addr).add j) = some u := fl_new1 wr ⟨p, t⟩ 34
          have Hf := Lib.hid hf
          have Hlo := Lib.hid hlo
          clear hf hlo n1
          by_cases he : x.path = p
          · rw [decide_eq_true he] at hg2
            have Hg : Hid ((A ++ [⟨p, t⟩]) ++ putR p t (L.drop (k + 1)) true = R) := Lib.hid (by rw [← hg2]; simp)
            have f1 : (x.path == p) = true := beq_iff_eq.2 he
            clear hg2 he
            go_wp2_with (at_builtin; refine wpList_append_own _ rfl _ _ 22 rfl w.heap.size 34 i0 (.agg #[.string ⟨#[]⟩, .string ⟨#[]⟩]) 2 32 Tryd.underlying22 hi0 hz0 hz1 hz2 rfl (by decide) _ _ _ rfl (hown.out.alloc _) ⟨wr.heap.size, 0, none⟩ 1 1 (rowF ⟨p, t⟩) rfl rfl Hf.out (by simp [rowF, Value.oneCell']) (by unfold maxLen; omega) (by omega) (by simp; omega) ?_; intro v' w2 hown' hgrow _; have hB2 := Lib.hid ((hB.out.alloc hbs (.cells #[.string (bs p), .string (bs t)] 34)).grown hgrow (by simp; omega) (fun k hk => (hown.out.lt k hk).1)); have d0 : w2.cell? ⟨b, off + k * 2, none⟩ = some (.string (bs x.path)) := (hB2.out.cell (p := ⟨b, off + k * 2, none⟩) hbl).trans H0.out)
            have ho2 : Hid (w2.ownsRow w.heap.size 34 2 v' (A ++ ([⟨p, t⟩] : List Fl)).length (fv (A ++ ([⟨p, t⟩] : List Fl)))) := Lib.hid (by
              rw [fv_append, List.length_append]
              simpa [fv, rowF] using hown')
            exact ⟨⟨k + 1, A ++ [⟨p, t⟩], true, by go_num, by omega, rfl, by simp; omega, Hg, ho2, hB2⟩, by simp [intOf]; omega⟩
          · rw [decide_eq_false he] at hg2
            obtain ⟨B, hBe⟩ : ∃ B : List Fl, Hid (A ++ [⟨p, t⟩] = B) := ⟨_, Lib.hid rfl⟩
            have hBl : B.length ≤ 2 * k + 1 := by rw [← hBe.out]; simp; omega
            have Hg : Hid ((B ++ [x]) ++ putR p t (L.drop (k + 1)) true = R) := Lib.hid (by rw [← hg2, ← hBe.out]; simp)
            have f1 : (x.path == p) = false := beq_eq_false_iff_ne.2 he
            clear hg2
            go_wp2_with (at_builtin; first | (refine wpList_append_own _ rfl _ _ 22 rfl w.heap.size 34 i0 (.agg #[.string ⟨#[]⟩, .string ⟨#[]⟩]) 2 32 Tryd.underlying22 hi0 hz0 hz1 hz2 rfl (by decide) _ _ _ rfl (hown.out.alloc _) ⟨wr.heap.size, 0, none⟩ 1 1 (rowF ⟨p, t⟩) rfl rfl Hf.out (by simp [rowF, Value.oneCell']) (by unfold maxLen; omega) (by omega) (by simp; omega) ?_; intro v' w2 hown' hgrow _; have hB2 := Lib.hid ((hB.out.alloc hbs (.cells #[.string (bs p), .string (bs t)] 34)).grown hgrow (by simp; omega) (fun k hk => (hown.out.lt k hk).1)); have hb2s := hB2.out.size; have d0 : w2.cell? ⟨b, off + k * 2, none⟩ = some (.string (bs x.path)) := (hB2.out.cell (p := ⟨b, off + k * 2, none⟩) hbl).trans H0.out; have d1 : w2.cell? ⟨b, off + k * 2 + 1, none⟩ = some (.string (bs x.text)) := (hB2.out.cell (p := ⟨b, off + k * 2 + 1, none⟩) hbl).trans H1.out; have ho2 : Hid (w2.ownsRow w.heap.size 34 2 v' B.length (fv B)) := Lib.hid (by rw [← hBe.out, fv_append, List.length_append]; simpa [fv, rowF] using hown'); clear hown' hgrow c0 c1) | (refine wpList_append_own _ rfl _ _ 22 rfl w.heap.size 34 i0 (.agg #[.string ⟨#[]⟩, .string ⟨#[]⟩]) 2 32 Tryd.underlying22 hi0 hz0 hz1 hz2 rfl (by decide) _ _ _ rfl (ho2.out.alloc _) ⟨w2.heap.size, 0, none⟩ 1 1 (rowF x) rfl rfl (fl_new1 w2 x _) (by simp [rowF, Value.oneCell']) (by unfold maxLen; omega) (by omega) (by simp; omega) ?_; intro v3 w3 hown3 hgrow3 _))
            have hB3 := Lib.hid ((hB2.out.alloc hb2s (.cells #[.string (bs x.path), .string (bs x.text)] 34)).grown hgrow3 (by simp; omega) (fun k hk => (ho2.out.lt k hk).1))
            have ho3 : Hid (w3.ownsRow w.heap.size 34 2 v3 (B ++ [x]).length (fv (B ++ [x]))) := Lib.hid (by
              rw [fv_append, List.length_append]
              simpa [fv] using hown3)
            exact ⟨⟨k + 1, B ++ [x], true, by go_num, by omega, rfl, by simp; omega, Hg, ho3, hB3⟩, by simp [intOf]; omega⟩
    · obtain rfl : k = L.length := by omega
      have hg2 := hg.out
      rw [List.drop_length] at hg2
      cases d with
      | true =>
        obtain rfl : A = R := by rw [← hg2]; simp [putR]
        go_wp2_with fail
        go_ret
        exact ⟨⟨_, rfl, own_fls hown.out⟩, hB.out⟩
      | false =>
        obtain rfl : A ++ [⟨p, t⟩] = R := by rw [← hg2]; simp [putR]
        have hf : ∀ j u, (rowF ⟨p, t⟩)[j]? = some u → (wr.alloc (.cells #[.string (bs p), .string (bs t)] 34)).cell? ((⟨wr.heap.size, 0, none⟩ : Addr).add j) = some u := fl_new1 wr ⟨p, t⟩ 34
        have Hf := Lib.hid hf
        clear hf hg2
        go_wp2_with (at_builtin; refine wpList_append_own _ rfl _ _ 22 rfl w.heap.size 34 i0 (.agg #[.string ⟨#[]⟩, .string ⟨#[]⟩]) 2 32 Tryd.underlying22 hi0 hz0 hz1 hz2 rfl (by decide) _ _ _ rfl (hown.out.alloc _) ⟨wr.heap.size, 0, none⟩ 1 1 (rowF ⟨p, t⟩) rfl rfl Hf.out (by simp [rowF, Value.oneCell']) (by unfold maxLen; omega) (by omega) (by simp; omega) ?_; intro v' w2 hown' hgrow _)
        have hB2 := Lib.hid ((hB.out.alloc hbs (.cells #[.string (bs p), .string (bs t)] 34)).grown hgrow (by simp; omega) (fun k hk => (hown.out.lt k hk).1))
        have ho2 : Hid (w2.ownsRow w.heap.size 34 2 v' (A ++ ([⟨p, t⟩] : List Fl)).length (fv (A ++ ([⟨p, t⟩] : List Fl)))) := Lib.hid (by
          rw [fv_append, List.length_append]
          simpa [fv, rowF] using hown')
        clear hown' hgrow
        go_wp2_with fail
        go_ret
        exact ⟨⟨_, rfl, own_fls ho2.out⟩, hB2.out⟩
theorem sort_len (L : List Fl) : (sortF L).length ≤ L.length := by
  have h := paths_len (L.map Fl.path)
  rw [List.length_map] at h
  rw [sortF, List.length_map]; exact h
theorem fls_nil (W : World) : Fls W (.slice none 0 0) [] := ⟨none, 0, rfl, Nat.le_refl _, Nat.zero_le _, by simp⟩
set_option maxRecDepth 100000 in
set_option maxHeartbeats 8000000 in
theorem RefSort_any (v : Value) (L : List Fl) (w : World) (h1 : Fls w v L) (hL : L.length ≤ 100000) : Calls Tryd.prog 6 #[v] w fun e w' => (∃ v', e = .returned v' ∧ Fls w' v' (sortF L)) ∧ Below w.heap.size w w' := by
  obtain ⟨a, cap, rfl, hc, hm, hat⟩ := h1
  have Hat := Lib.hid hat; clear hat
  unfold maxLen at hm
  go_enter Tryd.func6, Tryd.ntmps6
  go_wp2_with fail
  go_loopw [3, 4] (fun u c wr => ∃ (k : Nat), c = .int .i64 k ∧ k ≤ L.length ∧ Hid (Fls wr u (sortF (L.take k))) ∧ Hid (Below w.heap.size w wr)) (fun _ c _ => L.length - (intOf c).toNat)
  case atStart => exact ⟨0, rfl, by omega, Lib.hid (by rw [List.take_zero, show sortF [] = [] by simp [sortF, paths_nil]]; exact fls_nil _), Lib.hid (Below.refl _ _)⟩
  case round =>
    obtain ⟨k, rfl, hk, hfl, hB⟩ := hrel
    have hbs := hB.out.size
    by_cases hlt : k < L.length
    · obtain ⟨x, hx⟩ : ∃ x, L[k]? = some x := ⟨_, List.getElem?_eq_getElem hlt⟩
      obtain ⟨b, off, rfl, hbl, hl0, hl1⟩ := Hat.out k x hx
      have c0 : wr.cell? ⟨b, off + k * 2, none⟩ = some (.string (bs x.path)) := (hB.out.cell (p := ⟨b, off + k * 2, none⟩) hbl).trans hl0
      have c1 : wr.cell? ⟨b, off + k * 2 + 1, none⟩ = some (.string (bs x.text)) := (hB.out.cell (p := ⟨b, off + k * 2 + 1, none⟩) hbl).trans hl1
      have hlen : (sortF (L.take k)).length ≤ 100000 := Nat.le_trans (sort_len _) (by rw [List.length_take]; omega)
      have Hlen := Lib.hid hlen
      have Hnx := Lib.hid (putR_next hx)
      clear hl0 hl1 hx hlen
      go_wp2_with fail
      go_still_tail 11, (by kernel_rfl)
      change wpList _ _ _ _ _ wr.drew
      have hfl2 : Hid (Fls wr.drew u3 (sortF (L.take k))) := hfl
      have hB2 : Hid (Below w.heap.size w wr.drew) := Lib.hid (below_drew hB.out)
      obtain ⟨V, hV⟩ : ∃ V, Hid (wr.drew = V) := ⟨_, Lib.hid rfl⟩
      rw [hV.out] at hfl2 hB2 ⊢
      go_wp2_with fail
      refine (RefPut_any _ (sortF (L.take k)) x.path x.text V hfl2.out Hlen.out).mono ?_
      rw [Hnx.out]
      rintro e w2 ⟨⟨v2, rfl, hv2⟩, hb2⟩
      have Hv2 := Lib.hid hv2
      have hB3 : Hid (Below w.heap.size w w2) := Lib.hid (hB2.out.trans (hb2.mono hB2.out.size))
      clear hv2 hb2
      go_wp2_with fail
      exact ⟨⟨k + 1, by go_num, by omega, Hv2, hB3⟩, by simp [intOf]; omega⟩
    · obtain rfl : k = L.length := by omega
      rw [List.take_length] at hfl
      go_wp2_with fail
      go_ret
      exact ⟨⟨_, rfl, hfl.out⟩, hB.out⟩
theorem drop_same {A B : List Fl} {k : Nat} {x y : Fl} (hx : A[k]? = some x) (hy : B[k]? = some y) : decide (A.drop k = B.drop k) = (decide (x = y) && decide (A.drop (k + 1) = B.drop (k + 1))) := by
  obtain ⟨h1, rfl⟩ := List.getElem?_eq_some_iff.1 hx
  obtain ⟨h2, rfl⟩ := List.getElem?_eq_some_iff.1 hy
  rw [List.drop_eq_getElem_cons h1, List.drop_eq_getElem_cons h2, Bool.eq_iff_iff]
  simp only [List.cons.injEq, Bool.and_eq_true, decide_eq_true_eq]
theorem same_len {A B : List Fl} (h : A.length ≠ B.length) : decide (A = B) = false := decide_eq_false (fun e => h (by rw [e]))
set_option maxRecDepth 100000 in
set_option maxHeartbeats 8000000 in
theorem RefSame_any (u v : Value) (A B : List Fl) (w : World) (h1 : Fls w u A) (h2 : Fls w v B) : Calls Tryd.prog 8 #[u, v] w fun e w' => e = .returned (.bool (decide (A = B))) ∧ Below w.heap.size w w' := by
  obtain ⟨a, cap, rfl, hc, hm, hat⟩ := h1
  obtain ⟨a2, cap2, rfl, hc2, hm2, hat2⟩ := h2
  have Hat := Lib.hid hat; clear hat
  have Hat2 := Lib.hid hat2; clear hat2
  unfold maxLen at hm hm2
  obtain ⟨r, hr⟩ : ∃ r, Hid (decide (A = B) = r) := ⟨_, Lib.hid rfl⟩
  rw [hr.out]
  rcases Decidable.em (¬ A.length = B.length) with hl | hl'
  · have hr2 := hr.out
    rw [same_len hl] at hr2
    subst hr2
    have f0 : ((A.length : Int) == (B.length : Int)) = false := beq_eq_false_iff_ne.2 (by omega)
    go_enter Tryd.func8, Tryd.ntmps8
    go_wp2_with fail
    go_ret
    exact ⟨rfl, Below.refl _ _⟩
  have hl : A.length = B.length := Decidable.not_not.1 hl'
  clear hl'
  have f0 : ((A.length : Int) == (B.length : Int)) = true := beq_iff_eq.2 (by omega)
  have hab : A.length ≤ B.length := by omega
  have Hl := Lib.hid hl
  clear hl
  go_enter Tryd.func8, Tryd.ntmps8
  go_wp2_with fail
  go_loopw [5] (fun c wr => ∃ k : Nat, c = .int .i64 k ∧ k ≤ A.length ∧ Hid (decide (A.drop k = B.drop k) = r) ∧ ∃ q, Hid (wr = w.drewN q)) (fun c _ => A.length - (intOf c).toNat)
  case atStart => exact ⟨0, rfl, by omega, hr, 0, Lib.hid rfl⟩
  case round =>
    obtain ⟨k, rfl, hk, hg, q, hq⟩ := hrel
    by_cases hlt : k < A.length
    · obtain ⟨x, hx⟩ : ∃ x, A[k]? = some x := ⟨_, List.getElem?_eq_getElem hlt⟩
      obtain ⟨y, hy⟩ : ∃ y, B[k]? = some y := ⟨_, List.getElem?_eq_getElem (by omega)⟩
      obtain ⟨b, off, rfl, hbl, hl0, hl1⟩ := Hat.out k x hx
      obtain ⟨b2, off2, rfl, hbl2, hl2, hl3⟩ := Hat2.out k y hy
      have c0 : wr.cell? ⟨b, off + k * 2, none⟩ = some (.string (bs x.path)) := by rw [hq.out]; exact hl0
      have c1 : wr.cell? ⟨b, off + k * 2 + 1, none⟩ = some (.string (bs x.text)) := by rw [hq.out]; exact hl1
      have c2 : wr.cell? ⟨b2, off2 + k * 2, none⟩ = some (.string (bs y.path)) := by rw [hq.out]; exact hl2
      have c3 : wr.cell? ⟨b2, off2 + k * 2 + 1, none⟩ = some (.string (bs y.text)) := by rw [hq.out]; exact hl3
      have p0 : (0 : Int) ≤ (k : Int) := by omega
      have p1 : (k : Int) < (A.length : Int) := by omega
      have p2 : (k : Int) < (cap : Int) := by omega
      have p3 : (k : Int) < (cap2 : Int) := by omega
      have p4 : (k : Int) < (B.length : Int) := by omega
      have hg2 := hg.out
      rw [drop_same hx hy] at hg2
      clear hl0 hl1 hl2 hl3 hx hy
      by_cases e : x = y
      · subst e
        have Hg2 : Hid (decide (A.drop (k + 1) = B.drop (k + 1)) = r) := Lib.hid (by rw [← hg2]; simp)
        clear hg2
        go_wp2_with fail
        go_quiet (fail)
        go_wp2_with fail
        exact ⟨⟨k + 1, by go_num, by omega, Hg2, q + nq, Lib.hid (by rw [hq.out]; exact World.drewN_drewN w q nq)⟩, by simp [intOf]; omega⟩
      · rw [decide_eq_false e, Bool.false_and] at hg2
        subst hg2
        obtain ⟨xp, xt⟩ := x
        obtain ⟨yp, yt⟩ := y
        dsimp only at c0 c1 c2 c3
        by_cases e1 : xp = yp
        · subst e1
          have e2 : ¬ xt = yt := fun h => e (by rw [h])
          clear e
          go_wp2_with fail
          go_quiet (fail)
          go_wp2_with fail
          go_ret
          exact ⟨rfl, by rw [hq.out]; exact below_draws (below_draws (Below.refl _ _) _) _⟩
        · have e2 : bs xp ≠ bs yp := bs_ne e1
          clear e
          go_wp2_with fail
          go_quiet (fail)
          go_wp2_with fail
          go_ret
          exact ⟨rfl, by rw [hq.out]; exact below_draws (below_draws (Below.refl _ _) _) _⟩
    · obtain rfl : k = A.length := by omega
      have hg2 := hg.out
      rw [List.drop_length, Hl.out, List.drop_length] at hg2
      obtain rfl : true = r := by rw [← hg2]; rfl
      go_wp2_with fail
      go_ret
      exact ⟨rfl, by rw [hq.out]; exact below_draws (Below.refl _ _) _⟩
end Go.Proofs.YtbekbllffphfeaaDoor.T
/-
  For the laws of fallback: few files, the conflicts' equality, and three trees as one, by the document. Condition: texts of at most 2,599 bytes; at most 50,000 files in all.
-/
namespace Go.Proofs.YtbekbllffphfeaaDoor
open Go.RowKit Go.Shelf
set_option linter.unusedSimpArgs false
set_option linter.unusedVariables false

def sumB : List T.Fl → Nat
  | [] => 0
  | f :: L => f.text.length + f.path.length + sumB L
def fewB (L : List T.Fl) : Bool := decide (L.length ≤ 10) && decide (sumB L ≤ 2500)
theorem sumB_next {L : List T.Fl} {k : Nat} {x : T.Fl} (h : L[k]? = some x) : sumB (L.take (k + 1)) = sumB (L.take k) + (x.text.length + x.path.length) := by
  rw [List.take_add_one, h]
  show sumB (L.take k ++ [x]) = _
  generalize L.take k = A
  induction A with
  | nil => simp [sumB]
  | cons y A ih => simp only [List.cons_append, sumB, ih]; omega
theorem sumB_take (L : List T.Fl) (k : Nat) : sumB (L.take k) ≤ sumB L := by
  induction L generalizing k with
  | nil => simp [sumB]
  | cons y A ih =>
    cases k with
    | zero => simp [sumB]
    | succ k => simp only [List.take_succ_cons, sumB]; have := ih k; omega
theorem sumB_mem {L : List T.Fl} {f : T.Fl} (h : f ∈ L) : f.text.length + f.path.length ≤ sumB L := by
  induction L with
  | nil => cases h
  | cons y A ih =>
    rcases List.mem_cons.1 h with rfl | h
    · simp only [sumB]; omega
    · have := ih h; simp only [sumB]; omega
theorem fewB_bd {L : List T.Fl} (h : fewB L = true) : L.length ≤ 10 ∧ ∀ f ∈ L, f.text.length ≤ 2500 := by
  simp only [fewB, Bool.and_eq_true, decide_eq_true_eq] at h
  exact ⟨h.1, fun f hf => by have := sumB_mem hf; omega⟩
theorem w_sum {n T P : Nat} (h1 : n ≤ 2500) (h2 : T ≤ 1048576) (h3 : P ≤ 1048576) : wrap64 ((n : Int) + ((T : Int) + (P : Int))) = ((n + (T + P) : Nat) : Int) := by
  have e : ((n + (T + P) : Nat) : Int) = (n : Int) + ((T : Int) + (P : Int)) := by simp
  rw [e]
  exact Go.IntWalk.wrap64_in _ (by omega)
set_option maxRecDepth 100000 in
set_option maxHeartbeats 8000000 in
theorem Few_any (v : Value) (L : List T.Fl) (w : World) (h1 : T.Fls w v L) (hp : ∀ f ∈ L, f.path.length ≤ 1048576 ∧ f.text.length ≤ 1048576) : Calls Tryd.prog 5 #[v, .int .i64 10, .int .i64 2500] w fun e w' => e = .returned (.bool (fewB L)) ∧ Below w.heap.size w w' := by
  obtain ⟨a, cap, rfl, hc, hm, hat⟩ := h1
  have Hat := Lib.hid hat; clear hat
  have HP := Lib.hid hp; clear hp
  unfold maxLen at hm
  by_cases hs : L.length ≤ 10
  · have f0 : decide ((L.length : Int) > 10) = false := decide_eq_false (by omega)
    obtain ⟨r, hr⟩ : ∃ r, Hid (decide (sumB L ≤ 2500) = r) := ⟨_, Lib.hid rfl⟩
    have hf : Hid (fewB L = r) := Lib.hid (by rw [fewB, decide_eq_true hs, hr.out, Bool.true_and])
    rw [hf.out]
    go_enter Tryd.func5, Tryd.ntmps5
    go_wp2_with fail
    go_loopw [7, 8] (fun s c wr => ∃ k : Nat, c = .int .i64 k ∧ k ≤ L.length ∧ (∃ n : Nat, s = .int .i64 n ∧ Hid (sumB (L.take k) = n) ∧ n ≤ 2500) ∧ ∃ q, Hid (wr = w.drewN q)) (fun _ c _ => L.length - (intOf c).toNat)
    case atStart => exact ⟨0, rfl, by omega, ⟨0, rfl, Lib.hid rfl, by omega⟩, 0, Lib.hid rfl⟩
    case round =>
      obtain ⟨k, rfl, hk, ⟨n, rfl, hn, hn2⟩, q, hq⟩ := hrel
      by_cases hlt : k < L.length
      · obtain ⟨x, hx⟩ : ∃ x, L[k]? = some x := ⟨_, List.getElem?_eq_getElem hlt⟩
        obtain ⟨b, off, rfl, hbl, hl0, hl1⟩ := Hat.out k x hx
        have c0 : wr.cell? ⟨b, off + k * 2, none⟩ = some (.string (bs x.path)) := by rw [hq.out]; exact hl0
        have c1 : wr.cell? ⟨b, off + k * 2 + 1, none⟩ = some (.string (bs x.text)) := by rw [hq.out]; exact hl1
        have p0 : (0 : Int) ≤ (k : Int) := by omega
        have p1 : (k : Int) < (L.length : Int) := by omega
        have p2 : (k : Int) < (cap : Int) := by omega
        obtain ⟨m1, m2⟩ := HP.out x (List.mem_of_getElem? hx)
        obtain ⟨P, hP⟩ : ∃ P, x.path.length = P := ⟨_, rfl⟩
        obtain ⟨T, hT⟩ : ∃ P, x.text.length = P := ⟨_, rfl⟩
        rw [hP] at m1
        rw [hT] at m2
        have z0 : (bs x.path).size = P := by rw [bs_size, hP]
        have z1 : (bs x.text).size = T := by rw [bs_size, hT]
        have s1 : wrap64 ((T : Int) + (P : Int)) = ((T : Int) + (P : Int)) := Go.IntWalk.wrap64_in _ (by omega)
        have s2 : wrap64 ((n : Int) + ((T : Int) + (P : Int))) = ((n + (T + P) : Nat) : Int) := w_sum hn2 m2 m1
        have Hnx : Hid (sumB (L.take (k + 1)) = n + (T + P)) := Lib.hid (by rw [sumB_next hx, hn.out, hP, hT])
        clear hl0 hl1 hx
        obtain ⟨m, hm'⟩ : ∃ m, n + (T + P) = m := ⟨_, rfl⟩
        rw [hm'] at s2 Hnx
        clear hm' m1 m2 hP hT
        by_cases e1 : m ≤ 2500
        · have f1 : decide ((m : Int) > 2500) = false := decide_eq_false (by omega)
          go_wp2_with fail
          go_quiet (fail)
          go_wp2_with fail
          exact ⟨⟨k + 1, by go_num, by omega, ⟨m, congrArg (Value.int .i64) s2, Hnx, e1⟩, q + nq, Lib.hid (by rw [hq.out]; exact World.drewN_drewN w q nq)⟩, by simp [intOf]; omega⟩
        · have f1 : decide ((m : Int) > 2500) = true := decide_eq_true (by omega)
          have hrf : r = false := by rw [← hr.out]; exact decide_eq_false (fun e => by have := sumB_take L (k + 1); have := Hnx.out; omega)
          subst hrf
          go_wp2_with fail
          go_quiet (fail)
          go_wp2_with fail
          go_ret
          exact ⟨rfl, by rw [hq.out]; exact below_draws (below_draws (Below.refl _ _) _) _⟩
      · obtain rfl : k = L.length := by omega
        have hrf : r = true := by rw [← hr.out]; exact decide_eq_true (by have := hn.out; rw [List.take_length] at this; omega)
        subst hrf
        go_wp2_with fail
        go_ret
        exact ⟨rfl, by rw [hq.out]; exact below_draws (Below.refl _ _) _⟩
  · have f0 : decide ((L.length : Int) > 10) = true := decide_eq_true (by omega)
    rw [fewB, decide_eq_false hs, Bool.false_and]
    go_enter Tryd.func5, Tryd.ntmps5
    go_wp2_with fail
    go_ret
    exact ⟨rfl, Below.refl _ _⟩
end Go.Proofs.YtbekbllffphfeaaDoor
/-
  For the laws of fallback: three trees as one, by the document. Condition: texts of at most 2,599 bytes; at most 50,000 paths in all.
-/
namespace Go.Proofs.YtbekbllffphfeaaDoor
open Go.RowKit Go.Shelf
set_option linter.unusedSimpArgs false
set_option linter.unusedVariables false

end Go.Proofs.YtbekbllffphfeaaDoor
/-
  For the laws of fallback: the walk of FallbackTrees. Condition: paths and texts of at most 1,048,576 bytes each; marker's table is as it is laid.
-/
namespace Go.Proofs.YtbekbllffphfeaaDoor
open Go.RowKit Go.Shelf
set_option linter.unusedSimpArgs false
set_option linter.unusedVariables false

theorem flat3_len (O A B : List T.Fl) : [O, A, B].flatten.length = O.length + A.length + B.length := by
  simp
  omega
theorem pathsT_len (O A B : List T.Fl) : (pathsT O A B).length ≤ O.length + A.length + B.length := by
  rw [← flat3_len]
  refine Nat.le_trans (T.paths_len _) ?_
  rw [T.ps, List.length_map]
  exact Nat.le_refl _
end Go.Proofs.YtbekbllffphfeaaDoor
