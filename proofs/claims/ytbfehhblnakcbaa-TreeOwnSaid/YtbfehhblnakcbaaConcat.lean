/-
  For the laws of tree: slices of files joined: Concat and Put, by the program. Condition: at most 1,000,000 files.
-/
import Derived.Test.YtbfehhblnakcbaaGrow
namespace Go.Proofs.Ytbfehhblnakcbaa
open Go.RowKit Go.Shelf

def cnt (LL : List (List Fl)) : Nat := LL.flatten.length
theorem w_add {S S' l : Nat} (h : S' = S + l) (hS : S' ≤ 1000000) : wrap64 ((S : Int) + (l : Int)) = ((S' : Nat) : Int) ∧ decide ((S' : Int) < 0) = false := by
  rw [Go.IntWalk.wrap64_in _ (by omega)]
  exact ⟨by omega, decide_eq_false (by omega)⟩
set_option maxRecDepth 100000 in
set_option maxHeartbeats 8000000 in
theorem Concat_any (v : Value) (LL : List (List Fl)) (w : World) (h1 : Fss w v LL) (hL : LL.flatten.length ≤ 1000000) : Calls Try.prog 31 #[v] w fun e w' => ∃ v', e = .returned v' ∧ Fls w' v' LL.flatten ∧ Below w.heap.size w w' := by
  obtain ⟨a, cap, rfl, hc, hm, hat⟩ := h1
  have Hat := Lib.hid hat; clear hat
  have hbd : ∀ k, (LL.take k).flatten.length ≤ 1000000 := fun k => by
    have e : LL.flatten = (LL.take k).flatten ++ (LL.drop k).flatten := by rw [← List.flatten_append, List.take_append_drop]
    rw [e, List.length_append] at hL; omega
  have Hbd := Lib.hid hbd; clear hbd
  have HL := Lib.hid hL; clear hL
  unfold maxLen at hm
  go_enter Try.func31, Try.ntmps31
  go_wp2_with fail
  go_loopw [3, 11] (fun s c wr => ∃ k : Nat, c = .int .i64 k ∧ k ≤ LL.length ∧ s = .int .i64 (cnt (LL.take k) : Nat) ∧ Hid (Below w.heap.size w wr)) (fun _ c _ => LL.length - (intOf c).toNat)
  case atStart => exact ⟨0, rfl, by omega, rfl, Lib.hid (Below.refl _ _)⟩
  case round =>
    obtain ⟨k, rfl, hk, rfl, hB⟩ := hrel
    have hbs := hB.out.size
    have hS0 : cnt (LL.take k) ≤ 1000000 := Hbd.out k
    by_cases hlt : k < LL.length
    · obtain ⟨L, hx⟩ : ∃ x, LL[k]? = some x := ⟨_, List.getElem?_eq_getElem hlt⟩
      obtain ⟨b, off, u, rfl, hbl, hl0, hfl⟩ := Hat.out k L hx
      have c0 : wr.cell? ⟨b, off + k, none⟩ = some u := (hB.out.cell (p := ⟨b, off + k, none⟩) hbl).trans hl0
      obtain ⟨a2, cap2, rfl, hc2, hm2, -⟩ := hfl
      unfold maxLen at hm2
      have htk : cnt (LL.take (k + 1)) = cnt (LL.take k) + L.length := by
        have e : (LL.take (k + 1)).flatten = (LL.take k).flatten ++ L := by rw [List.take_add_one, hx]; simp
        unfold cnt
        rw [e, List.length_append]
      have hS1 : cnt (LL.take (k + 1)) ≤ 1000000 := Hbd.out (k + 1)
      obtain ⟨S, hS⟩ : ∃ S, cnt (LL.take k) = S := ⟨_, rfl⟩
      obtain ⟨S', hS'⟩ : ∃ S, cnt (LL.take (k + 1)) = S := ⟨_, rfl⟩
      rw [hS, hS'] at htk
      rw [hS'] at hS1
      rw [hS] at hS0
      rw [hS]
      have HS' := Lib.hid hS'
      obtain ⟨f1, f2⟩ := w_add htk hS1
      have F1 := Lib.hid htk
      clear hl0 hx hS hS' htk
      go_wp2_with fail
      exact ⟨⟨k + 1, by go_num, by omega, by rw [f1, HS'.out], hB⟩, by simp [intOf]; omega⟩
    · obtain rfl : k = LL.length := by omega
      rw [List.take_length]
      go_wp2_with fail
      refine (Grow_nil (cnt LL) wr HL.out).mono ?_
      rintro e w2 ⟨u, rfl, ho, hb⟩
      have Ho := Lib.hid (own_low ho hbs)
      have hB2 := Lib.hid (hB.out.trans (hb.mono hbs))
      clear ho hb
      go_wp2_with fail
      go_loopw [6, 27] (fun o c wr => ∃ k : Nat, c = .int .i64 k ∧ k ≤ LL.length ∧ Hid (wr.ownsRow w.heap.size 43 2 o (LL.take k).flatten.length (fv (LL.take k).flatten)) ∧ Hid (Below w.heap.size w wr)) (fun _ c _ => LL.length - (intOf c).toNat)
      case atStart => exact ⟨0, rfl, by omega, Ho, hB2⟩
      case round =>
        obtain ⟨k, rfl, hk, hown, hB⟩ := hrel
        have hbs := hB.out.size
        by_cases hlt : k < LL.length
        · obtain ⟨L, hx⟩ : ∃ x, LL[k]? = some x := ⟨_, List.getElem?_eq_getElem hlt⟩
          obtain ⟨b, off, u, rfl, hbl, hl0, hfl⟩ := Hat.out k L hx
          have c0 : wr.cell? ⟨b, off + k, none⟩ = some u := (hB.out.cell (p := ⟨b, off + k, none⟩) hbl).trans hl0
          have hfr := hfl.below hB.out
          have htk : (LL.take (k + 1)).flatten = (LL.take k).flatten ++ L := by rw [List.take_add_one, hx]; simp
          have hS1 := Hbd.out (k + 1)
          rw [htk, List.length_append] at hS1
          have Htk := Lib.hid htk
          have Hfr := Lib.hid hfr
          clear hfl hfr htk hx hl0
          go_wp2_with (at_builtin; refine wpList_append_fls rfl _ _ rfl w.heap.size _ _ _ _ L rfl hown.out rfl Hfr.out hS1 hbs ?_; intro v' w4 hown' hb4)
          have ho2 : Hid (w4.ownsRow w.heap.size 43 2 v' (LL.take (k + 1)).flatten.length (fv (LL.take (k + 1)).flatten)) := Lib.hid (by
            rw [Htk.out, fv_append, List.length_append]; exact hown')
          exact ⟨⟨k + 1, by go_num, by omega, ho2, Lib.hid (hB.out.trans hb4)⟩, by simp [intOf]; omega⟩
        · obtain rfl : k = LL.length := by omega
          rw [List.take_length] at hown
          go_wp2_with fail
          go_ret
          exact ⟨_, rfl, own_fls hown.out, hB.out⟩
theorem fss_two {W : World} {b : Nat} {t : TypeId} {u v : Value} {A B : List Fl} (h : RowAt W b t #[u, v]) (hA : Fls W u A) (hB : Fls W v B) : Fss W (.slice (some ⟨b, 0, none⟩) 2 2) [A, B] := by
  refine ⟨_, 2, rfl, Nat.le_refl _, by unfold maxLen; omega, fun k x hk => ?_⟩
  match k, hk with
  | 0, hk =>
    simp only [List.getElem?_cons_zero, Option.some.injEq] at hk
    subst hk
    exact ⟨b, 0, u, rfl, h.lt, h.cell rfl, hA⟩
  | 1, hk =>
    simp only [List.getElem?_cons_succ, List.getElem?_cons_zero, Option.some.injEq] at hk
    subst hk
    exact ⟨b, 0, v, rfl, h.lt, h.cell rfl, hB⟩
  | k + 2, hk => simp at hk
theorem fls_row1 {W : World} {b : Nat} {t : TypeId} {f : Fl} (h : RowAt W b t #[.string (bs f.path), .string (bs f.text)]) : Fls W (.slice (some ⟨b, 0, none⟩) 1 1) [f] := by
  refine ⟨_, 1, rfl, Nat.le_refl _, by unfold maxLen; omega, fun k x hk => ?_⟩
  match k, hk with
  | 0, hk =>
    simp only [List.getElem?_cons_zero, Option.some.injEq] at hk
    subst hk
    exact ⟨b, 0, rfl, h.lt, h.cell rfl, h.cell rfl⟩
  | k + 1, hk => simp at hk
set_option maxRecDepth 100000 in
set_option maxHeartbeats 8000000 in
theorem Put_own (v : Value) (L : List Fl) (p t : ByteArray) (w : World) (h1 : Fls w v L) (hL : L.length ≤ 999999) (hp : ∀ f ∈ L, f.path.length ≤ maxLen) (hq : p.size ≤ maxLen) : Calls Try.prog 21 #[v, .string p, .string t] w fun e w' => ∃ v', e = .returned v' ∧ w'.ownsRow w.heap.size 43 2 v' (putF L (tl p) (tl t)).length (fv (putF L (tl p) (tl t))) ∧ Below w.heap.size w w' := by
  have H1 := Lib.hid h1
  obtain ⟨a, cap, rfl, -⟩ := h1
  have Hp := Lib.hid hp
  clear hp
  have r1 := RowAt.new w 43 #[.string p, .string t]
  obtain ⟨W1, hW1⟩ : ∃ W1, Hid (w.alloc (.cells #[.string p, .string t] 43) = W1) := ⟨_, Lib.hid rfl⟩
  rw [hW1.out] at r1
  have b1 : Below w.heap.size w W1 := by rw [← hW1.out]; exact (Below.refl _ _).alloc (Nat.le_refl _) _
  have r2 := RowAt.new W1 22 #[.slice a L.length cap, .slice (some ⟨w.heap.size, 0, none⟩) 1 1]
  obtain ⟨W2, hW2⟩ : ∃ W2, Hid (W1.alloc (.cells #[.slice a L.length cap, .slice (some ⟨w.heap.size, 0, none⟩) 1 1] 22) = W2) := ⟨_, Lib.hid rfl⟩
  rw [hW2.out] at r2
  have b12 : Below W1.heap.size W1 W2 := by rw [← hW2.out]; exact (Below.refl _ _).alloc (Nat.le_refl _) _
  have b2 := Lib.hid (b1.trans (b12.mono b1.size))
  have hf : Fls W2 (.slice (some ⟨w.heap.size, 0, none⟩) 1 1) [⟨tl p, tl t⟩] := fls_row1 (t := 43) (by
    rw [bs_tl, bs_tl]; exact r1.later b12)
  have hss := Lib.hid (fss_two r2 (H1.out.below b2.out) hf)
  have hs1 : w.heap.size + 1 = W1.heap.size := by rw [← hW1.out]; simp
  have Hs1 := Lib.hid hs1
  clear r1 b1 r2 b12 hf hs1
  go_enter Try.func21, Try.ntmps21
  go_wp2_with fail
  rw [hW1.out, Hs1.out, hW2.out]
  refine (Concat_any _ [L, [⟨tl p, tl t⟩]] _ hss.out (by simp; omega)).mono ?_
  rintro e w3 ⟨u, rfl, hu, hb⟩
  have hu2 : Fls w3 u (L ++ [⟨tl p, tl t⟩]) := by simpa using hu
  have hB3 := Lib.hid (b2.out.trans (hb.mono b2.out.size))
  clear hu hb
  go_wp2_with fail
  refine (Sort_own u (L ++ [⟨tl p, tl t⟩]) w3 hu2 (by simp; omega) ?_).mono ?_
  · intro f hf
    rcases List.mem_append.1 hf with hf | hf
    · exact Hp.out f hf
    · rw [List.mem_singleton.1 hf]
      show (tl p).length ≤ _
      rw [tl_length]; exact hq
  rintro e w4 ⟨u2, rfl, h4, hb4⟩
  have hB4 := hB3.out.trans (hb4.mono hB3.out.size)
  clear hu2 hb4
  go_wp2_with fail
  go_ret
  exact ⟨_, rfl, own_low h4 hB3.out.size, hB4⟩
theorem Put_any (v : Value) (L : List Fl) (p t : ByteArray) (w : World) (h1 : Fls w v L) (hL : L.length ≤ 999999) (hp : ∀ f ∈ L, f.path.length ≤ maxLen) (hq : p.size ≤ maxLen) : Calls Try.prog 21 #[v, .string p, .string t] w fun e w' => ∃ v', e = .returned v' ∧ Fls w' v' (putF L (tl p) (tl t)) ∧ Below w.heap.size w w' :=
  (Put_own v L p t w h1 hL hp hq).mono fun _ _ ⟨v', he, ho, hb⟩ => ⟨v', he, own_fls ho, hb⟩
end Go.Proofs.Ytbfehhblnakcbaa
