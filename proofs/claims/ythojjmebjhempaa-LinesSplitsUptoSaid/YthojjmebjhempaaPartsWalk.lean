/-
  For the laws of lines: the law LinesParts returns true for every two texts. No condition.
-/
import Derived.Test.YthojjmebjhempaaPure
import Derived.Test.YthojjmebjhempaaAwake
import Derived.Laws.AppendOwnNone
namespace Go.Proofs.Ythojjmebjhempaa
open Go.RowKit Go.Shelf

/-- A slice of the call's own, with the texts of another one behind it. -/
theorem wpList_append_strs {w : World} {ops : Array Oper} {rest : List Oper} {o : Oper} {a : Act} {Q : Exit → Act → World → Prop} (hgd : o.guard = none) (s x : Operand)
    (ho : o.op = .call { callee := .builtin .append, args := #[s, x], argTypes := #[22, 22] }) (base : Nat)
    (v vx : Value) (n : Nat) (xs : List Value) (ys : List ByteArray) (hs : a.eval s = v) (hown : w.ownsRow base 9 1 v n xs) (hx : a.eval x = vx) (hst : Strs w vx ys)
    (hn : n + ys.length ≤ 1000000) (hbase : base ≤ w.heap.size)
    (h : ∀ v' w', w'.ownsRow base 9 1 v' (n + ys.length) (xs ++ ys.map Value.string) → Below base w w' → wpList Try.prog ops Q rest (a.put o.dst v') w') : wpList Try.prog ops Q (o :: rest) a w := by
  obtain ⟨i0, hi, hz0, hz1, hz2⟩ := info_parts try_info9
  have hrow : ∀ {w' : World}, w.grownBy w' v.ownBlock → Below base w w' := fun hg =>
    (Below.refl base w).grown hg hbase fun k e => (hown.lt k e).1
  obtain ⟨ad, cap, rfl, hc, hm, hv⟩ := hst
  cases ad with
  | none =>
    have hy : ys = [] := by
      rcases hv with h | ⟨b, off, e, _⟩
      · exact h
      · cases e
    subst hy
    refine wpList_plain hgd fun K hK => ?_
    have hrun : (Builtin.append_ #[22, 22] o.type #[v, .slice none 0 cap]).run Try.prog w = .ok v w := by
      rcases hown.2 with ⟨rfl, rfl⟩ | ⟨g, cp, cur, rfl, _, _, hnc, _⟩
      · simp [Builtin.append_, run_underlying Try.underlying22, sizeOf, typeInfo, hi, Builtin.lenOf, Builtin.firstCells]
      · simp [Builtin.append_, run_underlying Try.underlying22, sizeOf, typeInfo, hi, Builtin.lenOf, Builtin.firstCells, hnc, storeCells]
    have hx' : a.eval x = .slice none 0 cap := hx
    unfold Oper.wp
    simp [execOp, ho, resolve, invoke, builtin, hs, hx', hrun, Result.andThen]
    exact hK _ _ (h v w (by simpa using hown) (Below.refl _ _))
  | some p =>
    refine wpList_append_own w hgd s x 22 ho base 9 i0 (.string ⟨#[]⟩) 1 16 Try.underlying22 hi hz0 hz1 hz2 rfl (by decide) v n xs hs hown p ys.length cap (ys.map Value.string) hx (by simp) ?_ (by intro u hu; obtain ⟨y, _, rfl⟩ := List.mem_map.1 hu; rfl) (by unfold maxLen; omega) (by omega) hbase ?_
    · intro j u hj
      rcases hv with h | ⟨b, off, e, hb, hcell⟩
      · subst h; simp at hj
      · cases e
        rw [List.getElem?_map] at hj
        cases hy : ys[j]? with
        | none => rw [hy] at hj; simp at hj
        | some y =>
          rw [hy] at hj
          simp at hj
          subst hj
          have e2 : (⟨b, off, none⟩ : Addr).add j = ⟨b, off + j, none⟩ := by
            by_cases h0 : j = 0 <;> simp [Addr.add, h0]
          rw [e2]
          exact hcell j y hy
    · intro v' w' h1 h2 _
      exact h v' w' h1 (hrow h2)

theorem owns_later {W W' : World} {base : Nat} {e : TypeId} {size : Nat} {v : Value} {n : Nat} {xs : List Value} (h : W.ownsRow base e size v n xs) (hb : Below W.heap.size W W') : W'.ownsRow base e size v n xs := by
  refine h.kept (row := none) ⟨hb.os, hb.tape, hb.output, hb.size, fun k hk _ => hb.block k hk⟩ ?_
  cases v.ownBlock with
  | none => exact .inl rfl
  | some g => exact .inr (by simp)

set_option maxRecDepth 100000 in
set_option maxHeartbeats 4000000 in
theorem Parts_any (s t : ByteArray) (w : World) : Calls Try.prog 7 #[.string s, .string t] w fun e w' => e = .returned (.bool true) ∧ Below w.heap.size w w' := by
  by_cases hbig : 3000 < s.size ∨ 3000 < t.size
  · by_cases h1 : 3000 < s.size
    · clear hbig
      go_enter Try.func7, Try.ntmps7
      go_wp2_with fail
      refine (awake_any _).mono ?_
      rintro e w1 ⟨rfl, hb⟩
      go_wp2
      go_ret
      exact ⟨rfl, hb⟩
    · have h2 : 3000 < t.size := by omega
      clear hbig
      go_enter Try.func7, Try.ntmps7
      go_wp2_with fail
      refine (awake_any _).mono ?_
      rintro e w1 ⟨rfl, hb⟩
      go_wp2
      go_ret
      exact ⟨rfl, hb⟩
  · have h1 : ¬ 3000 < s.size := by omega
    have h2 : ¬ 3000 < t.size := by omega
    have hd1 : decide ((3000 : Int) < (s.size : Int)) = false := by simp; omega
    have hd2 : decide ((3000 : Int) < (t.size : Int)) = false := by simp; omega
    clear hbig
    have hws := whole_size s
    have ha := lns_append (t := t) (whole_last s)
    have hal := congrArg List.length ha
    rw [List.length_append] at hal
    have hl1 := lns_len (whole s)
    have hl2 := lns_len t
    have hsz : (whole s ++ t).size = (whole s).size + t.size := by simp
    have hsz2 : (whole s ++ t).size ≤ 5000000 := by omega
    have Ha := Lib.hid ha; clear ha
    have Hal := Lib.hid hal; clear hal
    clear hsz
    go_enter Try.func7, Try.ntmps7
    go_wp2_with fail
    refine (awake_any _).mono ?_
    rintro e w1 ⟨rfl, hb1⟩
    go_wp2_with fail
    refine (Whole_any s (by omega) _).mono ?_
    rintro e w2 ⟨rfl, rfl⟩
    go_wp2_with fail
    refine (Split_any (whole s) (by omega) _).mono ?_
    rintro e w2 ⟨v1, rfl, hv1, hb2⟩
    have hb02 := hb1.trans (hb2.mono hb1.size)
    clear hb1 hb2
    go_wp2_with (at_builtin; refine wpList_append_strs rfl _ _ rfl w.heap.size (.slice none 0 0) v1 0 [] (lns (whole s)) rfl (World.ownsRow_nil _ _ _ _) rfl hv1 (by omega) hb02.size ?_; intro v2 w3 hown hb3)
    have hb03 := hb02.trans hb3
    clear hb3 hb02 hv1
    refine (Split_any t (by omega) _).mono ?_
    rintro e w4 ⟨v3, rfl, hv3, hb4⟩
    have hb04 := hb03.trans (hb4.mono hb03.size)
    have hown4 : w4.ownsRow w.heap.size 9 1 v2 (0 + (lns (whole s)).length) ([] ++ (lns (whole s)).map Value.string) := owns_later hown hb4
    clear hb03 hb4 hown
    go_wp2_with (at_builtin; refine wpList_append_strs rfl _ _ rfl w.heap.size v2 v3 _ _ (lns t) rfl hown4 rfl hv3 (by omega) hb04.size ?_; intro v5 w5 hown5 hb5)
    have hb05 := hb04.trans hb5
    clear hb04 hb5 hown4 hv3
    have hst5 : Strs w5 v5 (lns (whole s) ++ lns t) := by
      refine strs_of_owns (base := w.heap.size) ?_
      simpa using hown5
    clear hown5
    refine (Split_any (whole s ++ t) hsz2 _).mono ?_
    rw [Ha.out]
    rintro e w6 ⟨v6, rfl, hv6, hb6⟩
    have hb06 := hb05.trans (hb6.mono hb05.size)
    have hst6 := hst5.below hb6
    clear hb05 hb6 hst5
    go_wp2_with fail
    refine (Same_yes v6 v5 _ w6 hv6 hst6).mono ?_
    rintro e w7 ⟨rfl, hb7⟩
    have hb07 := hb06.trans (hb7.mono hb06.size)
    clear hb06 hb7 hv6 hst6
    go_wp2_with fail
    refine (Count_any (whole s ++ t) hsz2 _).mono ?_
    rw [Hal.out]
    rintro e w8 ⟨rfl, hb8⟩
    have hb08 := hb07.trans (hb8.mono hb07.size)
    clear hb07 hb8
    go_wp2_with fail
    refine (Count_any (whole s) (by omega) _).mono ?_
    rintro e w9 ⟨rfl, hb9⟩
    have hb09 := hb08.trans (hb9.mono hb08.size)
    clear hb08 hb9
    go_wp2_with fail
    refine (Count_any t (by omega) _).mono ?_
    rintro e w10 ⟨rfl, hb10⟩
    have hb010 := hb09.trans (hb10.mono hb09.size)
    clear hb09 hb10
    go_wp2
    go_ret
    exact ⟨rfl, hb010⟩
end Go.Proofs.Ythojjmebjhempaa
