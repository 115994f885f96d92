/-
  For the laws of decls: an entity copied; the first of an id; a local's id. Condition for a local's id: the table of the powers of ten holds them; the method's id has at most 100,000,000 bytes.
-/
import Derived.Test.YtbnbmjdjkadgoaaDoorDd
import Derived.Test.YtbnbmjdjkadgoaaDoorShelf
import Derived.Test.YtbnbmjdjkadgoaaDoorXPm
import Derived.Lib.SmallJoins
import Derived.Lib.AppendIntMem
import Derived.Deep.CutBlock
import Derived.Deep.Cut
namespace Go.Proofs.YtbnbmjdjkadgoaaDoor.D
open Go.RowKit Go.Shelf
set_option linter.unusedSimpArgs false
set_option linter.unusedVariables false

/-- The table of the powers of ten holds them. -/
def Pow (w : World) : Prop := Lib.TabIs Tryd.prog w "internal/strconv.uint64pow10" .u64 Lib.pow10Tab
theorem gPow : Tryd.prog.globalNamed "internal/strconv.uint64pow10" = some 0 := by kernel_rfl
theorem pow_below {w w' : World} (h : Pow w) (hb : Below w.heap.size w w') : Pow w' := by
  unfold Pow Lib.TabIs at h ⊢
  unfold World.var? at h ⊢
  rw [gPow] at h ⊢
  simp only [Option.bind_some] at h ⊢
  have hlt : 0 < w.heap.size := by
    rcases Nat.lt_or_ge 0 w.heap.size with h' | h'
    · exact h'
    · rw [Array.getElem?_eq_none h'] at h; cases h
  rw [hb.block 0 hlt]
  exact h
theorem dgt_len (n : Nat) (h : n < 1000000) : (dgt n).length ≤ 6 := by
  unfold dgt
  rw [Go.Lib.decDigits_eq, List.length_map, List.length_range]
  rcases Nat.lt_or_ge (Go.Lib.nDigits n) 7 with h1 | h1
  · omega
  · exfalso
    have hp : 10 ^ (Go.Lib.nDigits n - 1) ≤ n ∨ Go.Lib.nDigits n = 1 := by
      clear h h1
      induction n using Nat.strongRecOn with
      | _ n ih =>
        by_cases hn : n < 10
        · exact .inr (Go.Lib.nDigits_small hn)
        · left
          rw [Go.Lib.nDigits_big hn, Nat.add_sub_cancel]
          rcases ih (n / 10) (by omega) with h | h
          · have h3 := Go.Lib.nDigits_pos (n / 10)
            obtain ⟨k, hk⟩ : ∃ k, Go.Lib.nDigits (n / 10) = k + 1 := ⟨Go.Lib.nDigits (n / 10) - 1, by omega⟩
            rw [hk] at h ⊢
            rw [Nat.add_sub_cancel] at h
            rw [Nat.pow_succ]
            omega
          · rw [h]; omega
    rcases hp with hp | hp
    · have : 10 ^ 6 ≤ 10 ^ (Go.Lib.nDigits n - 1) := Nat.pow_le_pow_right (by omega) (by omega)
      omega
    · omega
set_option maxRecDepth 100000 in
set_option maxHeartbeats 4000000 in
theorem Local_any (m : ByteArray) (n : Nat) (hm : m.size ≤ 100000000) (hn : n < 1000000) (w : World) (hp : Pow w) : Calls Tryd.prog 18 #[.string m, .int .i64 n] w fun e w' => e = .returned (.string (m ++ ⟨#[35]⟩ ++ bs (dgt n))) ∧ Below w.heap.size w w' := by
  have l1 : (⟨#[35]⟩ : ByteArray).size = 1 := rfl
  have s1 : (m ++ ⟨#[35]⟩ : ByteArray).size = m.size + 1 := by rw [ByteArray.size_append, l1]
  have hd := dgt_len n hn
  have b1 : (m ++ ⟨#[35]⟩ : ByteArray).size ≤ maxLen := by rw [s1]; unfold maxLen; omega
  have e0 : Lib.itoa (n : Int) = dgt n := by
    unfold Lib.itoa dgt
    rw [if_neg (by omega)]
    rfl
  have HC := Lib.hid (Tryd.strconv_Itoa (n : Int) (by omega) (by omega) w hp)
  rw [e0] at HC
  obtain ⟨d, hdd⟩ : ∃ d, bs (dgt n) = d := ⟨_, rfl⟩
  have hds : d.size = (dgt n).length := by rw [← hdd, bs_size]
  have s2 : (m ++ ⟨#[35]⟩ ++ d : ByteArray).size = m.size + 1 + d.size := by rw [ByteArray.size_append, s1]
  have b2 : (m ++ ⟨#[35]⟩ ++ d : ByteArray).size ≤ maxLen := by rw [s2]; unfold maxLen; omega
  have HC' : Hid (Calls Tryd.prog 31 #[.int .i64 n] w fun e w' => e = .returned (.string d) ∧ ∃ k os, w' = Go.Sort.grow (w.drewN k) os) := by rw [← hdd]; exact HC
  rw [hdd]
  have h0 : decide ((n : Int) < 0) = false := decide_eq_false (by omega)
  have h0' : max (n : Int) 0 = (n : Int) := by omega
  clear e0 HC hdd
  go_enter Tryd.func18, Tryd.ntmps18
  go_wp2_with fail
  refine HC'.out.mono ?_
  rintro e w1 ⟨rfl, k, os, rfl⟩
  go_wp2_with fail
  go_ret
  exact ⟨rfl, Lib.below_grow _ _ (Nat.le_refl _) _ _⟩
theorem Clone_at (w : World) (v : Value) (l : List B8) (h : StrsAt w v l) (hl : l.length ≤ 100000000) : Calls Tryd.prog 38 #[v] w fun e w' => (∃ a c, e = .returned (.slice a l.length c) ∧ ∃ F, SupT w' w.heap.size l (.slice a l.length c) F) ∧ Below w.heap.size w w' := by
  obtain ⟨a, cap, rfl, h1, h2, h3⟩ := h
  have slc : ∀ {W : World} {v' : Value}, W.ownsRow w.heap.size 9 1 v' l.length (l.map fun s => .string (bs s)) → ∃ a c, v' = .slice a l.length c ∧ ∃ F, SupT W w.heap.size l (.slice a l.length c) F := fun {W v'} ho => by
    have hS := SupT.own ho rfl
    rcases ho.2 with ⟨rfl, h0⟩ | ⟨g, cp, cur, rfl, _⟩
    · exact ⟨none, 0, by rw [h0], _, by rw [h0]; exact hS⟩
    · exact ⟨_, cp, rfl, _, hS⟩
  cases a with
  | none =>
    have hn : l = [] := by
      cases l with
      | nil => rfl
      | cons x L =>
        obtain ⟨b, off, e, _⟩ := h3 0 x rfl
        cases e
    subst hn
    refine (Tryd.slices_Clone_string_nil _ _ w).mono ?_
    rintro e w' ⟨rfl, rfl⟩
    exact ⟨⟨none, 0, rfl, _, SupT.nil _ _⟩, Below.refl _ _⟩
  | some p =>
    cases hl0 : l with
    | nil =>
      refine (Tryd.slices_Clone_string_zero p cap w).mono ?_
      rintro e w' ⟨v', rfl, ho, _, hb⟩
      subst hl0
      obtain ⟨a, c, rfl, F, hF⟩ := slc ho
      exact ⟨⟨a, c, rfl, F, hF⟩, hb⟩
    | cons x L =>
      rw [← hl0]
      obtain ⟨b, off, e, hc⟩ := h3 0 x (by rw [hl0]; rfl)
      cases e
      refine (Tryd.slices_Clone_string b off l.length cap (l.map bs) w (by rw [List.length_map]; exact Nat.le_refl _) (by omega) (fun j hj => ?_)).mono ?_
      · rw [List.length_map] at hj
        obtain ⟨b2, off2, e2, hc2⟩ := h3 j _ (List.getElem?_eq_getElem hj)
        cases e2
        rw [hc2]
        congr 2
        rw [List.getD_eq_getElem?_getD, List.getElem?_map, List.getElem?_eq_getElem hj]
        rfl
      · rintro e w' ⟨v', rfl, ho, _, hb⟩
        have e3 : ((l.map bs).take l.length).map Value.string = l.map fun s => .string (bs s) := by
          rw [List.take_of_length_le (by rw [List.length_map]; exact Nat.le_refl _), List.map_map]
          rfl
        rw [e3] at ho
        obtain ⟨a, c, rfl, F, hF⟩ := slc ho
        exact ⟨⟨a, c, rfl, F, hF⟩, hb⟩
/-- Nine cells of an entity, stored one after the other. -/
theorem nineE {U : World} {b : Nat} {a0 a1 a2 a3 a4 a5 a6 a7 a8 : Value} (R : RowAt U b 34 #[a0, a1, a2, a3, a4, a5, a6, a7, a8]) (v0 v1 v2 v3 v4 v5 v6 v7 v8 : Value) {V : World}
    (hV : ((((((((U.setCell ⟨b, 0, none⟩ v0).setCell ⟨b, 1, none⟩ v1).setCell ⟨b, 2, none⟩ v2).setCell ⟨b, 3, none⟩ v3).setCell ⟨b, 4, none⟩ v4).setCell ⟨b, 5, none⟩ v5).setCell ⟨b, 6, none⟩ v6).setCell ⟨b, 7, none⟩ v7).setCell ⟨b, 8, none⟩ v8 = V) :
    RowAt V b 34 #[v0, v1, v2, v3, v4, v5, v6, v7, v8] ∧ V.heap.size = U.heap.size ∧ (∀ q, q ≠ b → V.heap[q]? = U.heap[q]?) ∧ ∀ B, B ≤ b → Below B U V := by
  have R9 := ((((((((R.set 0 v0).set 1 v1).set 2 v2).set 3 v3).set 4 v4).set 5 v5).set 6 v6).set 7 v7).set 8 v8
  simp only [List.setIfInBounds_toArray, List.set_cons_zero, List.set_cons_succ] at R9
  subst hV
  refine ⟨R9, by simp [World.setCell], fun q hq => ?_, fun B hB => ?_⟩
  · iterate 9 rw [Below.heap_setCell _ _ _ q (by simpa using hq)]
  · exact ((((((((((Below.refl B U).setCell (p := ⟨b, 0, none⟩) hB v0).setCell (p := ⟨b, 1, none⟩) hB v1).setCell (p := ⟨b, 2, none⟩) hB v2).setCell (p := ⟨b, 3, none⟩) hB v3).setCell (p := ⟨b, 4, none⟩) hB v4).setCell (p := ⟨b, 5, none⟩) hB v5).setCell (p := ⟨b, 6, none⟩) hB v6).setCell (p := ⟨b, 7, none⟩) hB v7).setCell (p := ⟨b, 8, none⟩) hB v8)
set_option maxRecDepth 100000 in
set_option maxHeartbeats 4000000 in
theorem copied_any (w : World) (en : En) (pv : Value) (h : StrsAt w pv en.params) (hl : en.params.length ≤ 100000000) :
    Calls Tryd.prog 26 #[.agg #[.int .i64 en.kind, .string (bs en.id), .string (bs en.name), .string (bs en.owner), .string (bs en.type), .bool en.stat, pv, .int .i64 en.file, .int .i64 en.at_]] w fun e w' =>
      (∃ pv', e = .returned (.agg #[.int .i64 en.kind, .string (bs en.id), .string (bs en.name), .string (bs en.owner), .string (bs en.type), .bool en.stat, pv', .int .i64 en.file, .int .i64 en.at_]) ∧ ∃ F, SupT w' w.heap.size en.params pv' F) ∧ Below w.heap.size w w' := by
  have HC := Lib.hid (fun W (hW : Below w.heap.size w W) => Clone_at W pv en.params (h.below hW) hl)
  obtain ⟨aa, ca, rfl, -⟩ := h
  obtain ⟨n, hn⟩ : ∃ n, Hid (en.params.length = n) := ⟨_, Lib.hid rfl⟩
  obtain ⟨k, id, nm, ow, ty, st, l, fi, at_⟩ := en
  dsimp only at HC hn ⊢
  rw [hn.out] at HC ⊢
  obtain ⟨s1, h1⟩ : ∃ s, bs id = s := ⟨_, rfl⟩
  obtain ⟨s2, h2⟩ : ∃ s, bs nm = s := ⟨_, rfl⟩
  obtain ⟨s3, h3⟩ : ∃ s, bs ow = s := ⟨_, rfl⟩
  obtain ⟨s4, h4⟩ : ∃ s, bs ty = s := ⟨_, rfl⟩
  rw [h1, h2, h3, h4]
  clear h1 h2 h3 h4
  go_enter Tryd.func26, Tryd.ntmps26
  go_wp2_with fail
  refine X.calls_gen (fun W => RowAt W w.heap.size 34 #[.int .i64 k, .string s1, .string s2, .string s3, .string s4, .bool st, .slice aa n ca, .int .i64 fi, .int .i64 at_] ∧ RowAt W (w.heap.size + 1) 34 #[.int .i64 0, .string ⟨#[]⟩, .string ⟨#[]⟩, .string ⟨#[]⟩, .string ⟨#[]⟩, .bool false, .slice none 0 0, .int .i64 0, .int .i64 0] ∧ Below w.heap.size w W) ⟨(RowAt.new w 34 _).alloc _, row_new2 w _ 34 _, ((Below.refl _ w).alloc (Nat.le_refl _) _).alloc (by simp) _⟩ ?_
  rintro W1 ⟨r1, r2, b1⟩
  have hs1 := b1.size
  have hl2 := r2.lt
  refine (HC.out W1 b1).mono ?_
  rintro e w2 ⟨⟨a', c', rfl, F, hF⟩, b2⟩
  have HF := Lib.hid (hF.low hs1)
  have B2 := Lib.hid (b1.trans (b2.mono hs1))
  have q1 := r1.later b2
  have q2 := r2.later b2
  have z0 := q1.frozen 6
  have hlt := q1.lt
  have hlt2 := q2.lt
  have hF2 : Hid (∀ b, F b → w.heap.size + 1 < b) := Lib.hid (fun b hb => by have := (hF.1 b hb).1; omega)
  have HQ := q1
  have HR := q2
  have NN := Lib.hid (@nineE _ _ _ _ _ _ _ _ _ _ _ (q2.other (show w.heap.size + 1 ≠ w.heap.size by omega) 6 (.slice a' n c')) (.int .i64 k) (.string s1) (.string s2) (.string s3) (.string s4) (.bool st) (.slice a' n c') (.int .i64 fi) (.int .i64 at_) _ rfl)
  have hVk : Hid (∀ b, b ≠ w.heap.size → (w2.setCell ⟨w.heap.size, 6, none⟩ (.slice a' n c')).heap[b]? = w2.heap[b]?) := Lib.hid (fun b hb => Below.heap_setCell _ _ _ b (by simpa using hb))
  have HVs : Hid ((w2.setCell ⟨w.heap.size, 6, none⟩ (.slice a' n c')).heap.size = w2.heap.size) := Lib.hid (by simp [World.setCell])
  have BV : Hid (Below w.heap.size w (w2.setCell ⟨w.heap.size, 6, none⟩ (.slice a' n c'))) := Lib.hid (B2.out.setCell (p := ⟨w.heap.size, 6, none⟩) (Nat.le_refl _) _)
  clear hF r1 r2 b1 b2 q1 q2
  have d0 : w2.cell? ⟨w.heap.size, 0, none⟩ = some (.int .i64 k) := HQ.cell rfl
  have d1 : w2.cell? ⟨w.heap.size, 1, none⟩ = some (.string s1) := HQ.cell rfl
  have d2 : w2.cell? ⟨w.heap.size, 2, none⟩ = some (.string s2) := HQ.cell rfl
  have d3 : w2.cell? ⟨w.heap.size, 3, none⟩ = some (.string s3) := HQ.cell rfl
  have d4 : w2.cell? ⟨w.heap.size, 4, none⟩ = some (.string s4) := HQ.cell rfl
  have d5 : w2.cell? ⟨w.heap.size, 5, none⟩ = some (.bool st) := HQ.cell rfl
  have d6 : w2.cell? ⟨w.heap.size, 6, none⟩ = some (.slice aa n ca) := HQ.cell rfl
  have d7 : w2.cell? ⟨w.heap.size, 7, none⟩ = some (.int .i64 fi) := HQ.cell rfl
  have d8 : w2.cell? ⟨w.heap.size, 8, none⟩ = some (.int .i64 at_) := HQ.cell rfl
  have e0 : w2.cell? ⟨w.heap.size + 1, 0, none⟩ = some (.int .i64 0) := HR.cell rfl
  have e1 : w2.cell? ⟨w.heap.size + 1, 1, none⟩ = some (.string ⟨#[]⟩) := HR.cell rfl
  have e2 : w2.cell? ⟨w.heap.size + 1, 2, none⟩ = some (.string ⟨#[]⟩) := HR.cell rfl
  have e3 : w2.cell? ⟨w.heap.size + 1, 3, none⟩ = some (.string ⟨#[]⟩) := HR.cell rfl
  have e4 : w2.cell? ⟨w.heap.size + 1, 4, none⟩ = some (.string ⟨#[]⟩) := HR.cell rfl
  have e5 : w2.cell? ⟨w.heap.size + 1, 5, none⟩ = some (.bool false) := HR.cell rfl
  have e6 : w2.cell? ⟨w.heap.size + 1, 6, none⟩ = some (.slice none 0 0) := HR.cell rfl
  have e7 : w2.cell? ⟨w.heap.size + 1, 7, none⟩ = some (.int .i64 0) := HR.cell rfl
  have e8 : w2.cell? ⟨w.heap.size + 1, 8, none⟩ = some (.int .i64 0) := HR.cell rfl
  have f0 := HR.frozen 0
  have f1 := HR.frozen 1
  have f2 := HR.frozen 2
  have f3 := HR.frozen 3
  have f4 := HR.frozen 4
  have f5 := HR.frozen 5
  have f6 := HR.frozen 6
  have f7 := HR.frozen 7
  have f8 := HR.frozen 8
  clear HQ HR
  go_wp2_with fail
  exact bodyPost_ret (results_cell_row (P := Tryd.prog) rfl _ _ (w.heap.size + 1) 34 _ (0, 0) _ rfl NN.out.1 Tryd.underlying34 rfl rfl) rfl ⟨⟨_, rfl, F, HF.out.keep fun b hb => by
    have h1 := hF2.out b hb
    rw [NN.out.2.2.1 b (by omega), hVk.out b (by omega)]⟩, BV.out.trans (NN.out.2.2.2 _ (by omega))⟩
end Go.Proofs.YtbnbmjdjkadgoaaDoor.D
