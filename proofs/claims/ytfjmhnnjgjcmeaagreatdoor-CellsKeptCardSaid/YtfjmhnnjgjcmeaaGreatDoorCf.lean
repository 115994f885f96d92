/-
  For the laws of cells: missing: the keys that a side hasn't, by the program. Condition: at most 10,000 keys a row, and 10 rows.
-/
import Derived.Test.YtfjmhnnjgjcmeaaGreatDoorCb
import Derived.Test.YtfjmhnnjgjcmeaaGreatDoorCd
import Derived.Test.YtfjmhnnjgjcmeaaGreatDoorCp
namespace Go.Proofs.YtfjmhnnjgjcmeaaGreatDoor
open Go.RowKit Go.Shelf Go.Maps Go.WideMaps
set_option linter.unusedSimpArgs false
set_option linter.unusedVariables false

/-- Block b is a set of just the texts of which P holds. -/
def SetOf (W : World) (b n : Nat) (P : ByteArray → Prop) : Prop := ∃ K : List (List UInt8), KnownS W b K n ∧ ∀ s : ByteArray, tl s ∈ K ↔ P s
theorem SetOf.made (W : World) : SetOf (W.alloc (.map #[] 0)) W.heap.size 0 (fun _ => False) := ⟨[], KnownS.made W, fun s => by simp⟩
theorem SetOf.lt {W : World} {b n : Nat} {P : ByteArray → Prop} (h : SetOf W b n P) : b < W.heap.size := by obtain ⟨K, h, _⟩ := h; exact h.lt
theorem SetOf.same {W W' : World} {b n : Nat} {P : ByteArray → Prop} (h : SetOf W b n P) (hb : W'.heap[b]? = W.heap[b]?) : SetOf W' b n P := by obtain ⟨K, h, k⟩ := h; exact ⟨K, h.same hb, k⟩
theorem SetOf.mono {W : World} {b n m : Nat} {P : ByteArray → Prop} (h : SetOf W b n P) (hm : n ≤ m) : SetOf W b m P := by obtain ⟨K, h, k⟩ := h; exact ⟨K, h.mono hm, k⟩
theorem SetOf.iff {W : World} {b n : Nat} {P Q : ByteArray → Prop} (h : SetOf W b n P) (k : ∀ s, P s ↔ Q s) : SetOf W b n Q := by obtain ⟨K, h, e⟩ := h; exact ⟨K, h, fun s => (e s).trans (k s)⟩
theorem SetOf.look {W : World} {b n : Nat} {P : ByteArray → Prop} (h : SetOf W b n P) (s : ByteArray) (hs : s.size ≤ maxLen) :
    ∃ d : Bool, (Instr.lookup 88 (.map (some b)) (.string s) true).run Tryz.prog W = .ok (.tuple #[.agg #[], .bool d]) W ∧ (d = true ↔ P s) := by
  obtain ⟨K, h, e⟩ := h
  exact ⟨_, h.look s hs, by rw [decide_eq_true_iff]; exact e s⟩
theorem SetOf.put {W : World} {b n : Nat} {P : ByteArray → Prop} (h : SetOf W b n P) (s : ByteArray) (hs : s.size ≤ maxLen) (hl : n < 1000000000000) :
    ∃ W', (Instr.mapUpdate 88 (.map (some b)) (.string s) (.agg #[])).run Tryz.prog W = .ok () W' ∧ SetOf W' b (n + 1) (fun t => P t ∨ t = s) ∧ W.grownBy W' (some b) := by
  obtain ⟨K, h, e⟩ := h
  obtain ⟨W', h1, h2, h3⟩ := h.put s hs hl
  refine ⟨W', h1, ⟨_, h2, fun t => ?_⟩, h3⟩
  rw [List.mem_append, e t, List.mem_singleton]
  exact ⟨fun h => h.imp_right tl_inj, fun h => h.imp_right (fun e => by rw [e])⟩
theorem mem_take_succ {xs : TL} {k : Nat} {x s : ByteArray} (h : xs[k]? = some x) : s ∈ xs.take (k + 1) ↔ s ∈ xs.take k ∨ s = x := by
  rw [List.take_add_one, h, List.mem_append]
  simp
set_option maxRecDepth 100000 in
set_option maxHeartbeats 16000000 in
theorem missing_any (v1 v2 : Value) (o : TL) (LL : List TL) (w : World) (h1 : L.Vals w v1 (o.map .string)) (h2 : Ess w v2 LL) (lo : o.length ≤ 10000) (lL : LL.length ≤ 10) (ll : ∀ l ∈ LL, l.length ≤ 10000) (so : ∀ s ∈ o, s.size ≤ maxLen) (sl : ∀ l ∈ LL, ∀ s ∈ l, s.size ≤ maxLen) :
    Calls Tryz.prog 56 #[v1, v2] w fun e w' => e = .returned (.map (some w.heap.size)) ∧ SetOf w' w.heap.size 100000 (fun s => s ∈ o ∧ ∃ l ∈ LL, s ∉ l) ∧ Below w.heap.size w w' := by
  obtain ⟨a1, c1, rfl, hc1, hm1, hat1⟩ := h1.at
  obtain ⟨a2, c2, rfl, hc2, hm2, hat2⟩ := h2
  rw [List.length_map] at hc1 ⊢
  unfold maxLen at hm1 hm2
  obtain ⟨n, hn⟩ : ∃ n, Hid (o.length = n) := ⟨_, Lib.hid rfl⟩
  obtain ⟨z, hz⟩ : ∃ n, Hid (LL.length = n) := ⟨_, Lib.hid rfl⟩
  rw [hn.out] at hc1 lo ⊢
  rw [hz.out] at hc2 lL ⊢
  have Hat1 := Lib.hid hat1
  have Hat2 := Lib.hid hat2
  have So := Lib.hid so
  have Sl := Lib.hid sl
  have Ll := Lib.hid ll
  clear hat1 hat2 h1 so sl ll
  obtain ⟨m, hmm⟩ : ∃ m, Hid (w.heap.size = m) := ⟨_, Lib.hid rfl⟩
  obtain ⟨W2, hW2⟩ : ∃ W2, Hid (w.alloc (.map #[] 0) = W2) := ⟨_, Lib.hid rfl⟩
  have hmk : (Instr.makeMap 88 none).run Tryz.prog w = .ok (.map (some m)) W2 := by rw [← hW2.out, ← hmm.out]; rfl
  have K2 : Hid (SetOf W2 m (0 * n) (fun s => s ∈ o ∧ ∃ l ∈ LL.take 0, s ∉ l)) := Lib.hid (by
    rw [← hW2.out, ← hmm.out, Nat.zero_mul]
    exact (SetOf.made w).iff (fun s => by simp))
  have B2 : Hid (Below w.heap.size w W2) := Lib.hid (by rw [← hW2.out]; exact (Below.refl _ w).alloc (Nat.le_refl _) _)
  go_enter Tryz.func56, Tryz.ntmps56
  go_wp2_with fail
  clear hmk hW2
  go_loopw [18] (fun i wr => ∃ k : Nat, k ≤ z ∧ i = .int .i64 k ∧ Hid (SetOf wr m (k * n) (fun s => s ∈ o ∧ ∃ l ∈ LL.take k, s ∉ l)) ∧ Hid (Below w.heap.size w wr)) (fun i _ => z - (intOf i).toNat)
  case atStart => exact ⟨0, Nat.zero_le _, rfl, K2, B2⟩
  case round =>
    obtain ⟨k, hk, rfl, hK, hB⟩ := hrel
    obtain ⟨wo, rfl⟩ : ∃ wo, wo = wr := ⟨wr, rfl⟩
    rcases Nat.lt_or_ge k z with hlt | hlt
    · obtain ⟨l, hl⟩ := get_lt (l := LL) (k := k) (by rw [hz.out]; exact hlt)
      obtain ⟨b, off, u, rfl, hbl, e0, hu⟩ := Hat2.out k l hl
      have e1 : wo.cell? ⟨b, off + k, none⟩ = some u := (hB.out.cell (p := ⟨b, off + k, none⟩) hbl).trans e0
      have hll := Ll.out l (List.mem_of_getElem? hl)
      have Sx := Lib.hid (Sl.out l (List.mem_of_getElem? hl))
      have hnext : Hid (∀ s, (s ∈ o ∧ ∃ x ∈ LL.take (k + 1), s ∉ x) ↔ ((s ∈ o ∧ ∃ x ∈ LL.take k, s ∉ x) ∨ (s ∈ o ∧ s ∉ l))) := Lib.hid (fun s => by
        rw [List.take_add_one, hl]
        constructor
        · rintro ⟨h1, x, hx, h2⟩
          rcases List.mem_append.1 hx with hx | hx
          · exact .inl ⟨h1, x, hx, h2⟩
          · obtain rfl : x = l := by simpa using hx
            exact .inr ⟨h1, h2⟩
        · rintro (⟨h1, x, hx, h2⟩ | ⟨h1, h2⟩)
          · exact ⟨h1, x, List.mem_append.2 (.inl hx), h2⟩
          · exact ⟨h1, l, List.mem_append.2 (.inr (by simp)), h2⟩)
      obtain ⟨al, cl, rfl, hcl, hml, hatl⟩ := hu.at
      rw [List.length_map] at hcl e1
      unfold maxLen at hml
      have Hatl := Lib.hid hatl
      obtain ⟨y, hy⟩ : ∃ n, Hid (l.length = n) := ⟨_, Lib.hid rfl⟩
      rw [hy.out] at hcl e1 hll
      have d1 : decide (k < z) = true := decide_eq_true hlt
      have d2 : (0 : Int) ≤ (k : Int) := by omega
      have d3 : (k : Int) < (z : Int) := by omega
      have hmw : m < wo.heap.size := hK.out.lt
      obtain ⟨h, hh⟩ : ∃ h, Hid (wo.heap.size = h) := ⟨_, Lib.hid rfl⟩
      rw [hh.out] at hmw
      obtain ⟨W3, hW3⟩ : ∃ W3, Hid (wo.alloc (.map #[] 0) = W3) := ⟨_, Lib.hid rfl⟩
      have hmk : (Instr.makeMap 88 none).run Tryz.prog wo = .ok (.map (some h)) W3 := by rw [← hW3.out, ← hh.out]; rfl
      have K3 : Hid (SetOf W3 h 0 (fun s => s ∈ l.take 0)) := Lib.hid (by rw [← hW3.out, ← hh.out]; exact (SetOf.made wo).iff (fun s => by simp))
      have M3 : Hid (SetOf W3 m (k * n) (fun s => s ∈ o ∧ ∃ l ∈ LL.take k, s ∉ l)) := Lib.hid (hK.out.same (by rw [← hW3.out]; exact Below.heap_alloc wo _ m (by rw [hh.out]; exact hmw)))
      have B3 : Hid (Below w.heap.size w W3) := Lib.hid (by rw [← hW3.out]; exact hB.out.alloc hB.out.size _)
      have hwm : w.heap.size ≤ m := by rw [hmm.out]; exact Nat.le_refl _
      clear hl e0 hu hatl
      go_wp2_with fail
      clear hmk hW3
      go_loopw [25] (fun i wr => ∃ j : Nat, j ≤ y ∧ i = .int .i64 j ∧ Hid (SetOf wr h j (fun s => s ∈ l.take j)) ∧ Hid (SetOf wr m (k * n) (fun s => s ∈ o ∧ ∃ l ∈ LL.take k, s ∉ l)) ∧ Hid (Below w.heap.size w wr)) (fun i _ => y - (intOf i).toNat)
      case atStart => exact ⟨0, Nat.zero_le _, rfl, K3, M3, B3⟩
      case round =>
        obtain ⟨j, hj, rfl, hH, hM, hB⟩ := hrel
        obtain ⟨wi, rfl⟩ : ∃ wo, wo = wr := ⟨wr, rfl⟩
        rcases Nat.lt_or_ge j y with hjl | hjl
        · obtain ⟨x, hx⟩ := get_lt (l := l) (k := j) (by rw [hy.out]; exact hjl)
          obtain ⟨b3, o3, rfl, hb3, e3⟩ := Hatl.out j (.string x) (by rw [List.getElem?_map, hx]; rfl)
          have e4 : wi.cell? ⟨b3, o3 + j, none⟩ = some (.string x) := (hB.out.cell (p := ⟨b3, o3 + j, none⟩) hb3).trans e3
          have hxs := Sx.out x (List.mem_of_getElem? hx)
          have hmem : Hid (∀ s, s ∈ l.take (j + 1) ↔ s ∈ l.take j ∨ s = x) := Lib.hid (fun s => mem_take_succ hx)
          have d4 : decide (j < y) = true := decide_eq_true hjl
          have d5 : (0 : Int) ≤ (j : Int) := by omega
          have d6 : (j : Int) < (y : Int) := by omega
          obtain ⟨W4, hput, hH4, hg4⟩ := hH.out.put x hxs (by omega)
          have HH4 : Hid (SetOf W4 h (j + 1) (fun s => s ∈ l.take (j + 1))) := Lib.hid (hH4.iff (fun s => (hmem.out s).symm))
          have hmi := hM.out.lt
          have hM4 : Hid (SetOf W4 m (k * n) (fun s => s ∈ o ∧ ∃ l ∈ LL.take k, s ∉ l)) := Lib.hid (hM.out.same (hg4.block m hmi (by intro e; injection e with e; omega)))
          have hB4 : Hid (Below w.heap.size w W4) := Lib.hid (hB.out.grown hg4 hB.out.size (fun q e => by injection e with e; omega))
          clear hx e3 hH4 hg4
          go_wp2_with fail
          exact ⟨⟨j + 1, by omega, by go_num, HH4, hM4, hB4⟩, by simp [intOf]; omega⟩
        · obtain rfl : j = y := by omega
          have d4 : decide (j < j) = false := decide_eq_false (by omega)
          have hH' := hH.out
          rw [List.take_of_length_le (by rw [hy.out]; exact Nat.le_refl _)] at hH'
          have HH := Lib.hid hH'
          have hM0 : Hid (SetOf wi m (k * n + 0) (fun s => (s ∈ o ∧ ∃ l ∈ LL.take k, s ∉ l) ∨ (s ∈ o.take 0 ∧ s ∉ l))) := Lib.hid (hM.out.iff (fun s => by simp))
          clear hH'
          go_wp2_with fail
          go_loopw [35] (fun i wr => ∃ q : Nat, q ≤ n ∧ i = .int .i64 q ∧ Hid (SetOf wr h j (fun s => s ∈ l)) ∧ Hid (SetOf wr m (k * n + q) (fun s => (s ∈ o ∧ ∃ l ∈ LL.take k, s ∉ l) ∨ (s ∈ o.take q ∧ s ∉ l))) ∧ Hid (Below w.heap.size w wr)) (fun i _ => n - (intOf i).toNat)
          case atStart => exact ⟨0, Nat.zero_le _, rfl, HH, hM0, hB⟩
          case round =>
            obtain ⟨q, hq, rfl, hH, hM, hB⟩ := hrel
            obtain ⟨wj, rfl⟩ : ∃ wo, wo = wr := ⟨wr, rfl⟩
            rcases Nat.lt_or_ge q n with hql | hql
            · obtain ⟨x, hx⟩ := get_lt (l := o) (k := q) (by rw [hn.out]; exact hql)
              obtain ⟨b3, o3, rfl, hb3, e3⟩ := Hat1.out q (.string x) (by rw [List.getElem?_map, hx]; rfl)
              have e4 : wj.cell? ⟨b3, o3 + q, none⟩ = some (.string x) := (hB.out.cell (p := ⟨b3, o3 + q, none⟩) hb3).trans e3
              have hxs := So.out x (List.mem_of_getElem? hx)
              have hmem : Hid (∀ s, s ∈ o.take (q + 1) ↔ s ∈ o.take q ∨ s = x) := Lib.hid (fun s => mem_take_succ hx)
              have d7 : decide (q < n) = true := decide_eq_true hql
              have d8 : (0 : Int) ≤ (q : Int) := by omega
              have d9 : (q : Int) < (n : Int) := by omega
              obtain ⟨d, hlook, hd⟩ := hH.out.look x hxs
              have Hd := Lib.hid hd
              have hmj := hM.out.lt
              have hhj := hH.out.lt
              have H5 : Hid (SetOf (wj.alloc (.cells #[] 116)) h j (fun s => s ∈ l)) := Lib.hid (hH.out.same (Below.heap_alloc wj _ h hhj))
              have M5 := Lib.hid (hM.out.same (W' := wj.alloc (.cells #[] 116)) (Below.heap_alloc wj _ m hmj))
              have B5 : Hid (Below w.heap.size w (wj.alloc (.cells #[] 116))) := Lib.hid (hB.out.alloc hB.out.size _)
              have hkn : k * n + q < 1000000000 := by
                have : k * n ≤ 10 * 10000 := Nat.mul_le_mul (by omega) lo
                omega
              clear hx e3 hd
              cases d with
              | true =>
                have M6 : Hid (SetOf (wj.alloc (.cells #[] 116)) m (k * n + (q + 1)) (fun s => (s ∈ o ∧ ∃ l ∈ LL.take k, s ∉ l) ∨ (s ∈ o.take (q + 1) ∧ s ∉ l))) := Lib.hid ((M5.out.mono (by omega)).iff (fun s => by
                  rw [hmem.out s]
                  have hxl := Hd.out.1 rfl
                  constructor
                  · rintro (h | ⟨h, h2⟩)
                    · exact .inl h
                    · exact .inr ⟨.inl h, h2⟩
                  · rintro (h | ⟨h | h, h2⟩)
                    · exact .inl h
                    · exact .inr ⟨h, h2⟩
                    · exact absurd (h ▸ hxl) h2))
                go_wp2_with fail
                exact ⟨⟨q + 1, by omega, by go_num, H5, M6, B5⟩, by simp [intOf]; omega⟩
              | false =>
                obtain ⟨W6, hput, hM6, hg6⟩ := M5.out.put x hxs (by omega)
                have M6 : Hid (SetOf W6 m (k * n + (q + 1)) (fun s => (s ∈ o ∧ ∃ l ∈ LL.take k, s ∉ l) ∨ (s ∈ o.take (q + 1) ∧ s ∉ l))) := Lib.hid (hM6.iff (fun s => by
                  rw [hmem.out s]
                  have hxl : x ∉ l := fun h => by have := Hd.out.2 h; cases this
                  constructor
                  · rintro ((h | ⟨h, h2⟩) | h)
                    · exact .inl h
                    · exact .inr ⟨.inl h, h2⟩
                    · exact .inr ⟨.inr h, by rw [h]; exact hxl⟩
                  · rintro (h | ⟨h | h, h2⟩)
                    · exact .inl (.inl h)
                    · exact .inl (.inr ⟨h, h2⟩)
                    · exact .inr h))
                have H6 : Hid (SetOf W6 h j (fun s => s ∈ l)) := Lib.hid (H5.out.same (hg6.block h (by simp; omega) (by intro e; injection e with e; omega)))
                have B6 : Hid (Below w.heap.size w W6) := Lib.hid (B5.out.grown hg6 B5.out.size (fun p e => by injection e with e; omega))
                clear hM6 hg6
                go_wp2_with fail
                exact ⟨⟨q + 1, by omega, by go_num, H6, M6, B6⟩, by simp [intOf]; omega⟩
            · obtain rfl : q = n := by omega
              have d7 : decide (q < q) = false := decide_eq_false (by omega)
              have M6 : Hid (SetOf wj m ((k + 1) * q) (fun s => s ∈ o ∧ ∃ l ∈ LL.take (k + 1), s ∉ l)) := Lib.hid (by
                have h := hM.out
                rw [show o.take q = o from List.take_of_length_le (by rw [hn.out]; exact Nat.le_refl _)] at h
                rw [Nat.succ_mul]
                exact h.iff (fun s => (hnext.out s).symm))
              go_wp2_with fail
              exact ⟨⟨k + 1, by omega, by go_num, M6, hB⟩, by simp [intOf]; omega⟩
    · obtain rfl : k = z := by omega
      have d1 : decide (k < k) = false := decide_eq_false (by omega)
      have hf : Hid (SetOf wo m 100000 (fun s => s ∈ o ∧ ∃ l ∈ LL, s ∉ l)) := Lib.hid (by
        have h := hK.out
        rw [List.take_of_length_le (by rw [hz.out]; exact Nat.le_refl _)] at h
        exact h.mono (Nat.le_trans (Nat.mul_le_mul lL lo) (by decide)))
      go_wp2_with fail
      go_ret
      exact ⟨by rw [hmm.out]; rfl, by rw [hmm.out]; exact hf.out, hB.out⟩
end Go.Proofs.YtfjmhnnjgjcmeaaGreatDoor
