/-
  For the laws of token: the texts of tokens. Condition: at most 1,000,000 tokens.
-/
import Derived.Test.YtamhlobjolnlhaaDoorKind
namespace Go.Proofs.YtamhlobjolnlhaaDoor
open Go.RowKit Go.Shelf

def textsL (T : List Tk) : List (List UInt8) := (T.filter fun t => t.kind != 5).map Tk.text
theorem texts_take {T : List Tk} {k : Nat} {t : Tk} (h : T[k]? = some t) : textsL (T.take (k + 1)) = textsL (T.take k) ++ (if t.kind != 5 then [t.text] else []) := by
  unfold textsL
  rw [List.take_add_one, h, List.filter_append, List.map_append]
  congr 1
  simp only [Option.toList_some, List.filter_cons, List.filter_nil]
  split <;> simp
theorem texts_le {T : List Tk} {k : Nat} : (textsL (T.take k)).length ≤ k := by
  unfold textsL
  rw [List.length_map]
  exact Nat.le_trans (List.length_filter_le _ _) (by rw [List.length_take]; omega)
theorem infoStr : (Tryd.prog.info? 9).map (fun i => (i.zero, i.size, i.bytes)) = some (some (.string ⟨#[]⟩), 1, 16) := by kernel_rfl
def strV (L : List (List UInt8)) : List Value := L.map fun x => .string (bs x)
theorem str_new2 (W : World) (o : Obj) (x : ByteArray) (t : TypeId) : ∀ j u, ([.string x] : List Value)[j]? = some u → ((W.alloc o).alloc (.cells #[.string x] t)).cell? ((⟨W.heap.size + 1, 0, none⟩ : Addr).add j) = some u := by
  intro j u hj
  have h := World.alloc_heap_new (W.alloc o) (.cells #[.string x] t)
  rw [World.size_alloc] at h
  rw [add_flat, Nat.zero_add, Lib.cell_of_heap h]
  simpa using hj
set_option maxRecDepth 100000 in
set_option maxHeartbeats 8000000 in
theorem Texts_any (v : Value) (T : List Tk) (w : World) (h1 : Toks w v T) (hT : T.length ≤ 1000000) : Calls Tryd.prog 29 #[v] w fun e w' => (∃ v', e = .returned v' ∧ w'.ownsRow w.heap.size 9 1 v' (textsL T).length (strV (textsL T))) ∧ Below w.heap.size w w' := by
  obtain ⟨a, cap, rfl, hc, hm, hat⟩ := h1
  have Hat := Lib.hid hat; clear hat
  unfold maxLen at hm
  obtain ⟨i0, hi0, hz0, hz1, hz2⟩ := info_parts infoStr
  go_enter Tryd.func29, Tryd.ntmps29
  go_wp2_with fail
  go_loopw [3, 8] (fun u c wr => ∃ k : Nat, c = .int .i64 k ∧ k ≤ T.length ∧ Hid (wr.ownsRow w.heap.size 9 1 u (textsL (T.take k)).length (strV (textsL (T.take k)))) ∧ Below w.heap.size w wr) (fun _ c _ => T.length - (intOf c).toNat)
  case atStart => exact ⟨0, rfl, by omega, Lib.hid (World.ownsRow_nil _ _ _ _), Below.refl _ _⟩
  case round =>
    obtain ⟨k, rfl, hk, hown, hB⟩ := hrel
    by_cases hlt : k < T.length
    · obtain ⟨t, ht⟩ : ∃ t, T[k]? = some t := ⟨_, List.getElem?_eq_getElem hlt⟩
      obtain ⟨b, off, rfl, hbl, hli⟩ := Hat.out k t ht
      obtain ⟨c0, c1, c2, c3⟩ := hli.below hB hbl
      have hnx := texts_take ht
      have hle := texts_le (T := T) (k := k)
      have hbs := hB.size
      have Hnx := Lib.hid hnx
      clear hli ht hnx
      by_cases h5 : t.kind = 5
      · have d5 : (t.kind != 5) = false := by simp [h5]
        have ho2 : Hid ((wr.alloc (.cells #[.int .i64 t.kind, .string (bs t.text), .int .i64 t.at_, .string (bs t.lead)] 30)).ownsRow w.heap.size 9 1 u3 (textsL (T.take (k + 1))).length (strV (textsL (T.take (k + 1))))) := Lib.hid (by
          rw [Hnx.out, d5]
          simpa using hown.out.alloc _)
        have hBa : Hid (Below w.heap.size w (wr.alloc (.cells #[.int .i64 t.kind, .string (bs t.text), .int .i64 t.at_, .string (bs t.lead)] 30))) := Lib.hid (hB.alloc (by omega) _)
        clear h5
        go_wp2_with fail
        exact ⟨⟨k + 1, by go_num, by omega, ho2, hBa.out⟩, by simp [intOf]; omega⟩
      · have d5 : (t.kind != 5) = true := by simpa using h5
        clear h5
        go_wp2_with (at_builtin; refine wpList_append_own _ rfl _ _ 35 rfl w.heap.size 9 i0 (.string ⟨#[]⟩) 1 16 Tryd.underlying35 hi0 hz0 hz1 hz2 rfl (by decide) _ _ _ rfl ((hown.out.alloc _).alloc _) ⟨wr.heap.size + 1, 0, none⟩ 1 1 [.string (bs t.text)] rfl rfl (str_new2 wr _ (bs t.text) _) (by simp [Value.oneCell']) (by unfold maxLen; omega) (by omega) (by simp; omega) ?_; intro v' w2 hown' hgrow _)
        have hB2 := ((hB.alloc hbs (.cells #[.int .i64 t.kind, .string (bs t.text), .int .i64 t.at_, .string (bs t.lead)] 30)).alloc (by simp; omega) (.cells #[.string (bs t.text)] 9)).grown hgrow (by simp; omega) (fun k hk => (hown.out.lt k hk).1)
        have ho2 : Hid (w2.ownsRow w.heap.size 9 1 v' (textsL (T.take (k + 1))).length (strV (textsL (T.take (k + 1))))) := Lib.hid (by
          rw [Hnx.out, d5]
          simpa [strV] using hown')
        exact ⟨⟨k + 1, by go_num, by omega, ho2, hB2⟩, by simp [intOf]; omega⟩
    · obtain rfl : k = T.length := by omega
      rw [List.take_length] at hown
      go_wp2_with fail
      go_ret
      exact ⟨⟨_, rfl, hown.out⟩, hB⟩
end Go.Proofs.YtamhlobjolnlhaaDoor
