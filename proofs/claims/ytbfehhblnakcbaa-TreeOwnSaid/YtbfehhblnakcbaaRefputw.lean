/-
  For the laws of tree: Put by the reference. Condition: at most 100,000 files.
-/
import Derived.Laws.Cover1
import Derived.Test.YtbfehhblnakcbaaRefput
import Derived.Test.YtbfehhblnakcbaaCheck
namespace Go.Proofs.Ytbfehhblnakcbaa
open Go.RowKit Go.Shelf

theorem less_of : ∀ {a b : By}, a < b → Op.bytesLess a b = true
  | a, [], h => absurd h (List.not_lt_nil a)
  | [], y :: b, _ => rfl
  | x :: a, y :: b, h => by
    rw [Op.bytesLess]
    rcases List.cons_lt_cons_iff.1 h with h1 | ⟨h1, h2⟩
    · have e1 : decide (x < y) = true := decide_eq_true h1
      rw [e1]; rfl
    · subst h1
      rw [less_of h2]; simp
theorem less_self : ∀ (a : By), Op.bytesLess a a = false
  | [] => rfl
  | x :: a => by rw [Op.bytesLess, less_self a]; simp
theorem less_iff (a b : By) : Op.bytesLess a b = decide (a < b) := by
  rcases lt_or_le a b with h | h
  · rw [decide_eq_true h, less_of h]
  · rw [decide_eq_false (fun e => List.lt_irrefl _ (lt_of_le_lt h e))]
    rcases List.le_iff_lt_or_eq.1 h with h | rfl
    · exact less_not h
    · exact less_self _
theorem step_app {A : List Fl} {p t : By} {L : List Fl} {k : Nat} {x : Fl} {d : Bool} (hx : L[k]? = some x) : A ++ putR p t (L.drop k) d = (A ++ (if decide (p ≤ x.path) && !d then [⟨p, t⟩] else []) ++ (if decide (x.path = p) then [] else [x])) ++ putR p t (L.drop (k + 1)) (d || decide (p ≤ x.path)) := by
  obtain ⟨h1, rfl⟩ := List.getElem?_eq_some_iff.1 hx
  rw [List.drop_eq_getElem_cons h1, putR]
  simp only [List.append_assoc]
set_option maxRecDepth 100000 in
set_option maxHeartbeats 8000000 in
theorem RefPut_any (v : Value) (L : List Fl) (p t : By) (w : World) (h1 : Fls w v L) (hL : L.length ≤ 100000) : Calls Try.prog 20 #[v, .string (bs p), .string (bs t)] w fun e w' => (∃ v', e = .returned v' ∧ Fls w' v' (putR p t L false)) ∧ Below w.heap.size w w' := by
  obtain ⟨a, cap, rfl, hc, hm, hat⟩ := h1
  have Hat := Lib.hid hat; clear hat
  unfold maxLen at hm
  obtain ⟨i0, hi0, hz0, hz1, hz2⟩ := info_parts infoFl
  obtain ⟨R, hR⟩ : ∃ R, Hid (putR p t L false = R) := ⟨_, Lib.hid rfl⟩
  rw [hR.out]
  go_enter Try.func20, Try.ntmps20
  go_wp2_with fail
  go_loopw [7, 8, 9] (fun u d c wr => ∃ (k : Nat) (A : List Fl) (b : Bool), c = .int .i64 k ∧ k ≤ L.length ∧ d = .bool b ∧ A.length ≤ 2 * k ∧ Hid (A ++ putR p t (L.drop k) b = R) ∧ Hid (wr.ownsRow w.heap.size 43 2 u A.length (fv A)) ∧ Hid (Below w.heap.size w wr)) (fun _ _ c _ => L.length - (intOf c).toNat)
  case atStart => exact ⟨0, [], false, rfl, by omega, rfl, by simp, hR, Lib.hid (World.ownsRow_nil _ _ _ _), Lib.hid (Below.refl _ _)⟩
  case round =>
    obtain ⟨k, A, d, rfl, hk, rfl, hA, hg, hown, hB⟩ := hrel
    have hbs := hB.out.size
    by_cases hlt : k < L.length
    · obtain ⟨x, hx⟩ : ∃ x, L[k]? = some x := ⟨_, List.getElem?_eq_getElem hlt⟩
      obtain ⟨b, off, rfl, hbl, hl0, hl1⟩ := Hat.out k x hx
      have c0 : wr.cell? ⟨b, off + k * 2, none⟩ = some (.string (bs x.path)) := (hB.out.cell (p := ⟨b, off + k * 2, none⟩) hbl).trans hl0
      have c1 : wr.cell? ⟨b, off + k * 2 + 1, none⟩ = some (.string (bs x.text)) := (hB.out.cell (p := ⟨b, off + k * 2 + 1, none⟩) hbl).trans hl1
      have hg2 := hg.out
      rw [step_app hx] at hg2
      have q0 : Op.bytesLess (bs x.path).toList (bs p).toList = decide (x.path < p) := by rw [Lib.toList_data, Lib.toList_data]; exact less_iff _ _
      have q1 : Op.bytesLess x.path p = decide (x.path < p) := less_iff _ _
      have H0 := Lib.hid hl0
      have H1 := Lib.hid hl1
      clear hl0 hl1 hx
      rcases lt_or_le x.path p with hlo | hlo
      · have n1 : ¬ p ≤ x.path := fun e => List.lt_irrefl _ (lt_of_le_lt e hlo)
        have n2 : ¬ x.path = p := fun e => by rw [e] at hlo; exact List.lt_irrefl _ hlo
        rw [decide_eq_true hlo] at q0 q1
        rw [decide_eq_false n1, decide_eq_false n2] at hg2
        have Hg : Hid ((A ++ [x]) ++ putR p t (L.drop (k + 1)) d = R) := Lib.hid (by rw [← hg2]; simp)
        have f1 : (x.path == p) = false := beq_eq_false_iff_ne.2 n2
        clear hg2 hlo n1
        go_wp2_with (at_builtin; refine wpList_append_own _ rfl _ _ 22 rfl w.heap.size 43 i0 (.agg #[.string ⟨#[]⟩, .string ⟨#[]⟩]) 2 32 Try.underlying22 hi0 hz0 hz1 hz2 rfl (by decide) _ _ _ rfl (hown.out.alloc _) ⟨wr.heap.size, 0, none⟩ 1 1 (rowF x) rfl rfl (fl_new1 wr x _) (by simp [rowF, Value.oneCell']) (by unfold maxLen; omega) (by omega) (by simp; omega) ?_; intro v' w2 hown' hgrow _)
        have hB2 := Lib.hid ((hB.out.alloc hbs (.cells #[.string (bs x.path), .string (bs x.text)] 43)).grown hgrow (by simp; omega) (fun k hk => (hown.out.lt k hk).1))
        have ho2 : Hid (w2.ownsRow w.heap.size 43 2 v' (A ++ [x]).length (fv (A ++ [x]))) := Lib.hid (by
          rw [fv_append, List.length_append]
          simpa [fv] using hown')
        exact ⟨⟨k + 1, A ++ [x], d, by go_num, by omega, rfl, by simp; omega, Hg, ho2, hB2⟩, by simp [intOf]; omega⟩
      · have n1 : ¬ x.path < p := fun e => List.lt_irrefl _ (lt_of_le_lt hlo e)
        rw [decide_eq_false n1] at q0 q1
        rw [decide_eq_true hlo] at hg2
        cases d with
        | true =>
          by_cases he : x.path = p
          · rw [decide_eq_true he] at hg2
            have Hg : Hid (A ++ putR p t (L.drop (k + 1)) true = R) := Lib.hid (by rw [← hg2]; simp)
            have f1 : (x.path == p) = true := beq_iff_eq.2 he
            clear hg2 hlo n1 he
            go_wp2_with fail
            exact ⟨⟨k + 1, A, true, by go_num, by omega, rfl, by omega, Hg, hown, hB⟩, by simp [intOf]; omega⟩
          · rw [decide_eq_false he] at hg2
            have Hg : Hid ((A ++ [x]) ++ putR p t (L.drop (k + 1)) true = R) := Lib.hid (by rw [← hg2]; simp)
            have f1 : (x.path == p) = false := beq_eq_false_iff_ne.2 he
            clear hg2 hlo n1
            go_wp2_with (at_builtin; refine wpList_append_own _ rfl _ _ 22 rfl w.heap.size 43 i0 (.agg #[.string ⟨#[]⟩, .string ⟨#[]⟩]) 2 32 Try.underlying22 hi0 hz0 hz1 hz2 rfl (by decide) _ _ _ rfl (hown.out.alloc _) ⟨wr.heap.size, 0, none⟩ 1 1 (rowF x) rfl rfl (fl_new1 wr x _) (by simp [rowF, Value.oneCell']) (by unfold maxLen; omega) (by omega) (by simp; omega) ?_; intro v' w2 hown' hgrow _)
            have hB2 := Lib.hid ((hB.out.alloc hbs (.cells #[.string (bs x.path), .string (bs x.text)] 43)).grown hgrow (by simp; omega) (fun k hk => (hown.out.lt k hk).1))
            have ho2 : Hid (w2.ownsRow w.heap.size 43 2 v' (A ++ [x]).length (fv (A ++ [x]))) := Lib.hid (by
              rw [fv_append, List.length_append]
              simpa [fv] using hown')
            exact ⟨⟨k + 1, A ++ [x], true, by go_num, by omega, rfl, by simp; omega, Hg, ho2, hB2⟩, by simp [intOf]; omega⟩
        | false =>
          have hf : ∀ j u, (rowF ⟨p, t⟩)[j]? = some u → (wr.alloc (.cells #[.string (bs p), .string (bs t)] 43)).cell? ((⟨wr.heap.size, 0, none⟩ : Addr).add j) = some u := fl_new1 wr ⟨p, t⟩ 43
          have Hf := Lib.hid hf
          have Hlo := Lib.hid hlo
          clear hf hlo n1
          by_cases he : x.path = p
          · rw [decide_eq_true he] at hg2
            have Hg : Hid ((A ++ [⟨p, t⟩]) ++ putR p t (L.drop (k + 1)) true = R) := Lib.hid (by rw [← hg2]; simp)
            have f1 : (x.path == p) = true := beq_iff_eq.2 he
            clear hg2 he
            go_wp2_with (at_builtin; refine wpList_append_own _ rfl _ _ 22 rfl w.heap.size 43 i0 (.agg #[.string ⟨#[]⟩, .string ⟨#[]⟩]) 2 32 Try.underlying22 hi0 hz0 hz1 hz2 rfl (by decide) _ _ _ rfl (hown.out.alloc _) ⟨wr.heap.size, 0, none⟩ 1 1 (rowF ⟨p, t⟩) rfl rfl Hf.out (by simp [rowF, Value.oneCell']) (by unfold maxLen; omega) (by omega) (by simp; omega) ?_; intro v' w2 hown' hgrow _; have hB2 := Lib.hid ((hB.out.alloc hbs (.cells #[.string (bs p), .string (bs t)] 43)).grown hgrow (by simp; omega) (fun k hk => (hown.out.lt k hk).1)); have d0 : w2.cell? ⟨b, off + k * 2, none⟩ = some (.string (bs x.path)) := (hB2.out.cell (p := ⟨b, off + k * 2, none⟩) hbl).trans H0.out)
            have ho2 : Hid (w2.ownsRow w.heap.size 43 2 v' (A ++ ([⟨p, t⟩] : List Fl)).length (fv (A ++ ([⟨p, t⟩] : List Fl)))) := Lib.hid (by
              rw [fv_append, List.length_append]
              simpa [fv, rowF] using hown')
            exact ⟨⟨k + 1, A ++ [⟨p, t⟩], true, by go_num, by omega, rfl, by simp; omega, Hg, ho2, hB2⟩, by simp [intOf]; omega⟩
          · rw [decide_eq_false he] at hg2
            obtain ⟨B, hBe⟩ : ∃ B : List Fl, Hid (A ++ [⟨p, t⟩] = B) := ⟨_, Lib.hid rfl⟩
            have hBl : B.length ≤ 2 * k + 1 := by rw [← hBe.out]; simp; omega
            have Hg : Hid ((B ++ [x]) ++ putR p t (L.drop (k + 1)) true = R) := Lib.hid (by rw [← hg2, ← hBe.out]; simp)
            have f1 : (x.path == p) = false := beq_eq_false_iff_ne.2 he
            clear hg2
            go_wp2_with (at_builtin; first | (refine wpList_append_own _ rfl _ _ 22 rfl w.heap.size 43 i0 (.agg #[.string ⟨#[]⟩, .string ⟨#[]⟩]) 2 32 Try.underlying22 hi0 hz0 hz1 hz2 rfl (by decide) _ _ _ rfl (hown.out.alloc _) ⟨wr.heap.size, 0, none⟩ 1 1 (rowF ⟨p, t⟩) rfl rfl Hf.out (by simp [rowF, Value.oneCell']) (by unfold maxLen; omega) (by omega) (by simp; omega) ?_; intro v' w2 hown' hgrow _; have hB2 := Lib.hid ((hB.out.alloc hbs (.cells #[.string (bs p), .string (bs t)] 43)).grown hgrow (by simp; omega) (fun k hk => (hown.out.lt k hk).1)); have hb2s := hB2.out.size; have d0 : w2.cell? ⟨b, off + k * 2, none⟩ = some (.string (bs x.path)) := (hB2.out.cell (p := ⟨b, off + k * 2, none⟩) hbl).trans H0.out; have d1 : w2.cell? ⟨b, off + k * 2 + 1, none⟩ = some (.string (bs x.text)) := (hB2.out.cell (p := ⟨b, off + k * 2 + 1, none⟩) hbl).trans H1.out; have ho2 : Hid (w2.ownsRow w.heap.size 43 2 v' B.length (fv B)) := Lib.hid (by rw [← hBe.out, fv_append, List.length_append]; simpa [fv, rowF] using hown'); clear hown' hgrow c0 c1) | (refine wpList_append_own _ rfl _ _ 22 rfl w.heap.size 43 i0 (.agg #[.string ⟨#[]⟩, .string ⟨#[]⟩]) 2 32 Try.underlying22 hi0 hz0 hz1 hz2 rfl (by decide) _ _ _ rfl (ho2.out.alloc _) ⟨w2.heap.size, 0, none⟩ 1 1 (rowF x) rfl rfl (fl_new1 w2 x _) (by simp [rowF, Value.oneCell']) (by unfold maxLen; omega) (by omega) (by simp; omega) ?_; intro v3 w3 hown3 hgrow3 _))
            have hB3 := Lib.hid ((hB2.out.alloc hb2s (.cells #[.string (bs x.path), .string (bs x.text)] 43)).grown hgrow3 (by simp; omega) (fun k hk => (ho2.out.lt k hk).1))
            have ho3 : Hid (w3.ownsRow w.heap.size 43 2 v3 (B ++ [x]).length (fv (B ++ [x]))) := Lib.hid (by
              rw [fv_append, List.length_append]
              simpa [fv] using hown3)
            exact ⟨⟨k + 1, B ++ [x], true, by go_num, by omega, rfl, by simp; omega, Hg, ho3, hB3⟩, by simp [intOf]; omega⟩
    · obtain rfl : k = L.length := by omega
      have hg2 := hg.out
      rw [List.drop_length] at hg2
      cases d with
      | true =>
        obtain rfl : A = R := by rw [← hg2]; simp [putR]
        go_wp2_with fail
        go_ret
        exact ⟨⟨_, rfl, own_fls hown.out⟩, hB.out⟩
      | false =>
        obtain rfl : A ++ [⟨p, t⟩] = R := by rw [← hg2]; simp [putR]
        have hf : ∀ j u, (rowF ⟨p, t⟩)[j]? = some u → (wr.alloc (.cells #[.string (bs p), .string (bs t)] 43)).cell? ((⟨wr.heap.size, 0, none⟩ : Addr).add j) = some u := fl_new1 wr ⟨p, t⟩ 43
        have Hf := Lib.hid hf
        clear hf hg2
        go_wp2_with (at_builtin; refine wpList_append_own _ rfl _ _ 22 rfl w.heap.size 43 i0 (.agg #[.string ⟨#[]⟩, .string ⟨#[]⟩]) 2 32 Try.underlying22 hi0 hz0 hz1 hz2 rfl (by decide) _ _ _ rfl (hown.out.alloc _) ⟨wr.heap.size, 0, none⟩ 1 1 (rowF ⟨p, t⟩) rfl rfl Hf.out (by simp [rowF, Value.oneCell']) (by unfold maxLen; omega) (by omega) (by simp; omega) ?_; intro v' w2 hown' hgrow _)
        have hB2 := Lib.hid ((hB.out.alloc hbs (.cells #[.string (bs p), .string (bs t)] 43)).grown hgrow (by simp; omega) (fun k hk => (hown.out.lt k hk).1))
        have ho2 : Hid (w2.ownsRow w.heap.size 43 2 v' (A ++ ([⟨p, t⟩] : List Fl)).length (fv (A ++ ([⟨p, t⟩] : List Fl)))) := Lib.hid (by
          rw [fv_append, List.length_append]
          simpa [fv, rowF] using hown')
        clear hown' hgrow
        go_wp2_with fail
        go_ret
        exact ⟨⟨_, rfl, own_fls ho2.out⟩, hB2.out⟩
end Go.Proofs.Ytbfehhblnakcbaa
