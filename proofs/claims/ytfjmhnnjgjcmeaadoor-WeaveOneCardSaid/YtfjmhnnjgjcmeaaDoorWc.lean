/-
  For the laws of weave: the units of a text, by the program. Condition: texts of at most 1,000,000 bytes; the library's own variables are as they are laid.
-/
import Derived.Test.YtfjmhnnjgjcmeaaDoorWb
import Derived.Test.YtfjmhnnjgjcmeaaDoorXLex
import Derived.Test.YtfjmhnnjgjcmeaaDoorSSplit
import Derived.Test.YtfjmhnnjgjcmeaaDoorLNums
namespace Go.Proofs.YtfjmhnnjgjcmeaaDoor
open Go.RowKit Go.Shelf
set_option linter.unusedSimpArgs false
set_option linter.unusedVariables false

theorem lexR_len : ∀ (m : Nat) (l : List UInt8) (n : Nat), l.length ≤ m → (X.lexR n l).1.length ≤ l.length + 1
  | m, l, n, hm => by
    have hsl := X.sep_le l
    rw [X.lexR]
    split
    · simp
    · split
      · simp
      · rename_i h2
        split
        · simp
        · rename_i h3
          rcases X.first_cases (l.drop (X.sep l).1) with hf | hf
          · obtain ⟨f1, f2, f3, f4, f5⟩ := hf
            rw [List.length_drop] at f3
            split
            · simp
            · cases m with
              | zero => omega
              | succ m =>
                have ih := lexR_len m ((l.drop (X.sep l).1).drop (X.first (l.drop (X.sep l).1)).2.1) (n + (X.sep l).1 + (X.first (l.drop (X.sep l).1)).2.1) (by rw [List.length_drop, List.length_drop]; omega)
                rw [List.length_drop, List.length_drop] at ih
                rw [List.length_cons]
                omega
          · omega
theorem lexR_mem : ∀ (m : Nat) (l : List UInt8) (n : Nat), l.length ≤ m → ∀ t ∈ (X.lexR n l).1, t.lead.length + t.text.length ≤ l.length
  | m, l, n, hm => by
    have hsl := X.sep_le l
    rw [X.lexR]
    split
    · simp
    · split
      · intro t ht
        obtain rfl := List.mem_singleton.1 ht
        simp
        omega
      · rename_i h2
        split
        · simp
        · rename_i h3
          rcases X.first_cases (l.drop (X.sep l).1) with hf | hf
          · obtain ⟨f1, f2, f3, f4, f5⟩ := hf
            rw [List.length_drop] at f3
            split
            · simp
            · cases m with
              | zero => omega
              | succ m =>
                intro t ht
                rcases List.mem_cons.1 ht with rfl | ht
                · simp only [List.length_take, List.length_drop]
                  omega
                · have ih := lexR_mem m ((l.drop (X.sep l).1).drop (X.first (l.drop (X.sep l).1)).2.1) (n + (X.sep l).1 + (X.first (l.drop (X.sep l).1)).2.1) (by rw [List.length_drop, List.length_drop]; omega) t ht
                  rw [List.length_drop, List.length_drop] at ih
                  omega
          · omega
/-- A token with what stands ahead of it. -/
def unitT (t : X.Tk) : ByteArray := bs (t.lead ++ t.text)
/-- The units of a text, and whether it has any. -/
def unitsP (s : By) : List ByteArray × Bool := if (X.lexR 0 s).2.2 = 0 then ((X.lexR 0 s).1.map unitT, true) else ([], false)
theorem toks_at {w : World} {v : Value} {T : List X.Tk} (h : X.Toks w v T) : ∃ (a : Option Addr) (cap : Nat), v = .slice a T.length cap ∧ T.length ≤ cap ∧ cap ≤ maxLen ∧ ∀ (wr : World), Below w.heap.size w wr → ∀ (k : Nat) (t : X.Tk), T[k]? = some t → ∃ b off, a = some ⟨b, off, none⟩ ∧ wr.cell? ⟨b, off + k * 4, none⟩ = some (.int .i64 t.kind) ∧ wr.cell? ⟨b, off + k * 4 + 1, none⟩ = some (.string (X.bs t.text)) ∧ wr.cell? ⟨b, off + k * 4 + 2, none⟩ = some (.int .i64 t.at_) ∧ wr.cell? ⟨b, off + k * 4 + 3, none⟩ = some (.string (X.bs t.lead)) := by
  obtain ⟨a, cap, rfl, hc, hm, hx⟩ := h
  refine ⟨a, cap, rfl, hc, hm, fun wr hB k t hk => ?_⟩
  obtain ⟨b, off, rfl, hl, hat⟩ := hx k t hk
  obtain ⟨h1, h2, h3, h4⟩ := hat.below hB hl
  exact ⟨b, off, rfl, h1, h2, h3, h4⟩
/-- What units tell. -/
def UnitGives (w : World) (us : List ByteArray) (b : Bool) (e : Ending) (w' : World) : Prop := ∃ v, e = .returned (.tuple #[v, .bool b]) ∧ L.Vals w' v (us.map .string) ∧ Below w.heap.size w w'
theorem own_vals' {W : World} {base n : Nat} {v : Value} {xs : List Value} (h : W.ownsRow base 9 1 v n xs) (hb : Below W.heap.size W W) : L.Vals W v xs := by
  have hl := h.1
  rw [Nat.mul_one] at hl
  subst hl
  have hcell := fun {g} hg => h.cells (g := g) hg
  rcases h.2 with ⟨rfl, h0⟩ | ⟨g, cap, cur, rfl, hb, hg, hk, hm, _, _⟩
  · have hx : xs = [] := List.length_eq_zero_iff.1 h0
    subst hx
    exact L.vals_nil W
  · refine ⟨_, cap, rfl, hk, hm, .inr ⟨g, 0, rfl, (Array.getElem?_eq_some_iff.1 hg).1, fun j x hj => ?_⟩⟩
    have := hcell (g := g) rfl j x hj
    rw [← add_flat]; exact this
set_option maxRecDepth 100000 in
set_option maxHeartbeats 8000000 in
theorem tokens_any (s : ByteArray) (w : World) (hW : X.LexW w) (hs : s.size ≤ 1000000) : Calls Tryd.prog 21 #[.string s] w (UnitGives w (unitsP (tl s)).1 (unitsP (tl s)).2) := by
  have C1 := Lib.hid (X.Lex_any s w hW (by omega))
  obtain ⟨⟨T, p, er⟩, hT⟩ : ∃ q, Hid (X.lexR 0 (tl s) = q) := ⟨_, Lib.hid rfl⟩
  have hTl : T.length ≤ 1000001 := by
    have := lexR_len _ (tl s) 0 (Nat.le_refl _)
    rw [hT.out, tl_length] at this
    simp only at this
    omega
  obtain ⟨⟨us, ub⟩, hU⟩ : ∃ q, Hid (unitsP (tl s) = q) := ⟨_, Lib.hid rfl⟩
  rw [hU.out]
  dsimp only
  have C2 : Hid (Calls Tryd.prog 26 #[.string s] w fun e w' => (∃ v, e = .returned (.tuple #[v, .int .i64 (p : Nat), .int .i64 er]) ∧ X.Toks w' v T) ∧ Below w.heap.size w w') := Lib.hid (by
    have h := C1.out
    unfold X.LexGives at h
    rw [show X.tl s = tl s from rfl, hT.out] at h
    exact h)
  clear C1
  obtain ⟨i0, hi0, hz0, hz1, hz2⟩ := info_parts infoStr
  unfold UnitGives
  by_cases her : er = 0
  · subst her
    have hu2 : Hid (us = T.map unitT ∧ ub = true) := Lib.hid (by
      have h := hU.out
      unfold unitsP at h
      rw [hT.out] at h
      simp only [if_true] at h
      exact ⟨(congrArg Prod.fst h).symm, (congrArg Prod.snd h).symm⟩)
    obtain ⟨n, hn⟩ : ∃ n, Hid (T.length = n) := ⟨_, Lib.hid rfl⟩
    rw [hn.out] at hTl
    go_enter Tryd.func21, Tryd.ntmps21
    go_wp2_with fail
    refine C2.out.mono ?_
    rintro e w1 ⟨⟨v, rfl, ht⟩, b1⟩
    obtain ⟨a, cap, rfl, hc, hm, hx⟩ := toks_at ht
    rw [hn.out] at hc ⊢
    unfold maxLen at hm
    have HX := Lib.hid hx
    have B1 := Lib.hid b1
    clear hx ht b1
    go_wp2_with fail
    go_loopw [7, 20] (fun o c wr => ∃ k : Nat, c = .int .i64 k ∧ k ≤ n ∧ Hid (wr.ownsRow w1.heap.size 9 1 o k ((T.take k).map fun t => Value.string (unitT t))) ∧ Hid (Below w1.heap.size w1 wr)) (fun _ c _ => n - (intOf c).toNat)
    case atStart => exact ⟨0, rfl, Nat.zero_le _, Lib.hid (World.ownsRow_nil _ _ _ _), Lib.hid (Below.refl _ _)⟩
    case round =>
      obtain ⟨k, rfl, hk, hO, hB⟩ := hrel
      obtain ⟨ao, no, co, rfl⟩ := own_slice hO.out
      rcases Nat.lt_or_ge k n with hlt | hlt
      · obtain ⟨t, ht⟩ := get_lt (l := T) (k := k) (by rw [hn.out]; exact hlt)
        obtain ⟨b, off, rfl, c0, c1, c2, c3⟩ := HX.out wr hB.out k t ht
        have d1 : decide (k < n) = true := decide_eq_true hlt
        have d2 : (0 : Int) ≤ (k : Int) := by omega
        have d3 : (k : Int) < (n : Int) := by omega
        have hnx : Hid ((T.take (k + 1)).map (fun t => Value.string (unitT t)) = (T.take k).map (fun t => Value.string (unitT t)) ++ [.string (X.bs t.lead ++ X.bs t.text)]) := Lib.hid (by
          rw [List.take_add_one, ht, List.map_append]
          simp only [Option.toList_some, List.map_cons, List.map_nil]
          congr 3)
        have hsz : Hid (k + 1 ≤ 1000001) := Lib.hid (by omega)
        have hle : (X.bs t.lead).size + (X.bs t.text).size ≤ 1000000 := by
          have h := lexR_mem _ (tl s) 0 (Nat.le_refl _) t (by rw [hT.out]; exact List.mem_of_getElem? ht)
          rw [tl_length] at h
          rw [X.bs_size, X.bs_size]
          omega
        clear ht
        have hbs := hB.out.size
        have own2 := (hO.out.alloc (.cells #[.int .i64 t.kind, .string (X.bs t.text), .int .i64 t.at_, .string (X.bs t.lead)] 63)).alloc (.cells #[.string (X.bs t.lead ++ X.bs t.text)] 9)
        have Own2 := Lib.hid own2
        clear own2
        go_wp2_with (at_builtin; refine wpList_append_own _ rfl _ _ 33 rfl w1.heap.size 9 i0 (.string ⟨#[]⟩) 1 16 Tryd.underlying33 hi0 hz0 hz1 hz2 rfl (by decide) _ _ _ rfl Own2.out ⟨wr.heap.size + 1, 0, none⟩ 1 1 [.string (X.bs t.lead ++ X.bs t.text)] rfl rfl (str_new2 wr _ _ _) (by simp [Value.oneCell']) (by unfold maxLen; omega) (by omega) (by simp; omega) ?_; intro v' w2 hown' hgrow _)
        have hnew : Below w1.heap.size w1 w2 := hB.out.trans ((((Below.refl w1.heap.size wr).alloc hbs _).alloc (by simp; omega) _).grown hgrow (by simp; omega) (fun j e => (hO.out.lt j e).1))
        have Hnew := Lib.hid hnew
        have Hown' := Lib.hid hown'
        clear hnew hown' hgrow
        exact ⟨⟨k + 1, by go_num, by omega, Lib.hid (by rw [hnx.out]; exact Hown'.out), Hnew⟩, by simp [intOf]; omega⟩
      · have d1 : decide (k < n) = false := decide_eq_false (by omega)
        obtain rfl : k = n := by omega
        have hO2 := hO.out
        rw [List.take_of_length_le (by rw [hn.out]; exact Nat.le_refl _)] at hO2
        have Hf : Hid (L.Vals wr (.slice ao no co) (us.map .string)) := Lib.hid (by
          rw [hu2.out.1, List.map_map]
          exact own_vals' hO2 (Below.refl _ _))
        have Hb : Hid (Below w.heap.size w wr) := Lib.hid (B1.out.trans (hB.out.mono B1.out.size))
        clear hO2
        go_wp2_with fail
        go_ret2
        exact ⟨_, by rw [hu2.out.2]; rfl, Hf.out, Hb.out⟩
  · have f0 : (er != 0) = true := by simpa using her
    have hu2 : Hid (us = [] ∧ ub = false) := Lib.hid (by
      have h := hU.out
      unfold unitsP at h
      rw [hT.out] at h
      simp only [if_neg her] at h
      exact ⟨(congrArg Prod.fst h).symm, (congrArg Prod.snd h).symm⟩)
    clear her
    go_enter Tryd.func21, Tryd.ntmps21
    go_wp2_with fail
    refine C2.out.mono ?_
    rintro e w1 ⟨⟨v, rfl, ht⟩, b1⟩
    obtain ⟨a, cap, rfl, -⟩ := ht
    have B1 := Lib.hid b1
    clear b1
    go_wp2_with fail
    go_ret2
    exact ⟨_, by rw [hu2.out.2]; rfl, by rw [hu2.out.1]; exact L.vals_nil _, B1.out⟩
set_option maxRecDepth 100000 in
theorem Units_any (s : ByteArray) (w : World) (hW : X.LexW w) (hs : s.size ≤ 1000000) : Calls Tryd.prog 14 #[.string s] w (UnitGives w (unitsP (tl s)).1 (unitsP (tl s)).2) := by
  have C1 := Lib.hid (tokens_any s w hW hs)
  obtain ⟨⟨us, ub⟩, hU⟩ : ∃ q, Hid (unitsP (tl s) = q) := ⟨_, Lib.hid rfl⟩
  rw [hU.out] at C1 ⊢
  go_enter Tryd.func14, Tryd.ntmps14
  go_wp2_with fail
  refine C1.out.mono ?_
  rintro e w1 ⟨v, rfl, hv, hb⟩
  have Hv := Lib.hid hv
  have Hb := Lib.hid hb
  obtain ⟨a, cap, rfl, -⟩ := hv
  clear hb
  go_wp2_with fail
  go_ret2
  exact ⟨_, rfl, by have h := Hv.out; rw [List.length_map] at h; exact h, Hb.out⟩
theorem lns_small (s : ByteArray) : ∀ x ∈ S.lns s, x.size ≤ s.size := by
  have hst : ∀ k, k ≤ s.size → ∀ x ∈ (S.st s k).1, x.size ≤ s.size := fun k => by
    induction k with
    | zero => intro _ x hx; cases hx
    | succ k ih =>
      intro hk x hx
      cases h : S.nlB s k with
      | true =>
        rw [S.st_yes h] at hx
        rcases List.mem_append.1 hx with hx | hx
        · exact ih (by omega) x hx
        · obtain rfl := List.mem_singleton.1 hx
          rw [ByteArray.size_extract]; omega
      | false => rw [S.st_no h] at hx; exact ih (by omega) x hx
  unfold S.lns
  split
  · intro x hx
    rcases List.mem_append.1 hx with hx | hx
    · exact hst _ (Nat.le_refl _) x hx
    · obtain rfl := List.mem_singleton.1 hx
      rw [ByteArray.size_extract]; omega
  · exact hst _ (Nat.le_refl _)
theorem vals_of_strz {W : World} {v : Value} {xs : List ByteArray} (h : S.Strz W v xs) : L.Vals W v (xs.map .string) := by
  obtain ⟨a, cap, rfl, h1, h2, h3⟩ := h
  refine ⟨a, cap, by rw [List.length_map], by rw [List.length_map]; exact h1, h2, ?_⟩
  rcases h3 with rfl | ⟨b, off, rfl, h4, h5⟩
  · exact .inl rfl
  · refine .inr ⟨b, off, rfl, h4, fun j x hj => ?_⟩
    rw [List.getElem?_map] at hj
    cases hx : xs[j]? with
    | none => rw [hx] at hj; cases hj
    | some y => rw [hx] at hj; cases hj; exact h5 j y hx
set_option maxRecDepth 100000 in
theorem lines_any (s : ByteArray) (w : World) (hs : s.size ≤ 1000000) : Calls Tryd.prog 20 #[.string s] w (UnitGives w (S.lns s) true) := by
  have C1 := Lib.hid ((callsIn_wide (n := 3)).1 (S.Split_in Fence.wide 3 trivial trivial trivial rfl (Nat.le_refl _) s (by omega) w))
  obtain ⟨xs, hxs⟩ : ∃ xs, Hid (S.lns s = xs) := ⟨_, Lib.hid rfl⟩
  rw [hxs.out] at C1 ⊢
  go_enter Tryd.func20, Tryd.ntmps20
  go_wp2_with fail
  refine C1.out.mono ?_
  rintro e w1 ⟨v, rfl, ⟨hv, -⟩, hb⟩
  have Hv : Hid (L.Vals w1 v (xs.map .string)) := Lib.hid (vals_of_strz hv)
  have Hb := Lib.hid hb
  obtain ⟨a, cap, rfl, -⟩ := hv
  clear hb
  go_wp2_with fail
  go_ret2
  exact ⟨_, rfl, Hv.out, Hb.out⟩
end Go.Proofs.YtfjmhnnjgjcmeaaDoor
