/-
  For the laws of lex: the document's kept names, names and texts of tokens. Condition: the text has at most 2 to the 62 bytes.
-/
import Derived.Test.YtamhlobjolnlhaaDoorAwake
import Derived.Test.YtamhlobjolnlhaaDoorMath
namespace Go.Proofs.YtamhlobjolnlhaaDoor
open Go.RowKit Go.Shelf

/-- The kept names lie in a new block. -/
theorem kept_row (w : World) : ∃ W2, Hid (w.alloc (.cells #[.string ⟨#[99, 108, 97, 115, 115]⟩, .string ⟨#[101, 120, 116, 101, 110, 100, 115]⟩, .string ⟨#[115, 116, 97, 116, 105, 99]⟩, .string ⟨#[118, 111, 105, 100]⟩, .string ⟨#[105, 110, 116]⟩, .string ⟨#[98, 111, 111, 108, 101, 97, 110]⟩, .string ⟨#[105, 102]⟩, .string ⟨#[101, 108, 115, 101]⟩, .string ⟨#[119, 104, 105, 108, 101]⟩, .string ⟨#[114, 101, 116, 117, 114, 110]⟩, .string ⟨#[112, 114, 105, 110, 116]⟩, .string ⟨#[116, 114, 117, 101]⟩, .string ⟨#[102, 97, 108, 115, 101]⟩, .string ⟨#[110, 117, 108, 108]⟩, .string ⟨#[116, 104, 105, 115]⟩, .string ⟨#[110, 101, 119]⟩] 9) = W2) ∧ W2.heap.size = w.heap.size + 1 ∧ Below w.heap.size w W2 ∧ ∀ k x, keptL[k]? = some x → W2.cell? ⟨w.heap.size, k, none⟩ = some (.string (bs x)) := by
  refine ⟨_, Lib.hid rfl, by simp, (Below.refl _ w).alloc (Nat.le_refl _) _, fun k x h => ?_⟩
  rw [Lib.cell_of_heap (World.alloc_heap_new w _)]
  have hm : (#[.string ⟨#[99, 108, 97, 115, 115]⟩, .string ⟨#[101, 120, 116, 101, 110, 100, 115]⟩, .string ⟨#[115, 116, 97, 116, 105, 99]⟩, .string ⟨#[118, 111, 105, 100]⟩, .string ⟨#[105, 110, 116]⟩, .string ⟨#[98, 111, 111, 108, 101, 97, 110]⟩, .string ⟨#[105, 102]⟩, .string ⟨#[101, 108, 115, 101]⟩, .string ⟨#[119, 104, 105, 108, 101]⟩, .string ⟨#[114, 101, 116, 117, 114, 110]⟩, .string ⟨#[112, 114, 105, 110, 116]⟩, .string ⟨#[116, 114, 117, 101]⟩, .string ⟨#[102, 97, 108, 115, 101]⟩, .string ⟨#[110, 117, 108, 108]⟩, .string ⟨#[116, 104, 105, 115]⟩, .string ⟨#[110, 101, 119]⟩] : Array Value).toList = keptL.map (fun x => Value.string (bs x)) := rfl
  show _[k]? = _
  rw [← Array.getElem?_toList, hm, List.getElem?_map, h]
  rfl
theorem kept_len : keptL.length = 16 := rfl
theorem bs_beq (s : ByteArray) (x : List UInt8) : (x == s.toList) = decide (x = tl s) := by
  rw [Lib.toList_data, Bool.eq_iff_iff]
  simp [tl]
set_option maxRecDepth 100000 in
set_option maxHeartbeats 4000000 in
theorem RefKept_any (s : ByteArray) (w : World) : Calls Tryd.prog 16 #[.string s] w fun e w' => e = .returned (.bool (decide (tl s ∈ keptL))) ∧ Below w.heap.size w w' := by
  obtain ⟨W2, hW2, hs2, hb2, hrow⟩ := kept_row w
  have Hrow := Lib.hid hrow; clear hrow
  go_enter Tryd.func16, Tryd.ntmps16
  go_wp2_with fail
  rw [hW2.out]
  go_loop [4] (fun c => ∃ k : Nat, c = .int .i64 k ∧ k ≤ 16 ∧ Hid (∀ j x, j < k → keptL[j]? = some x → x ≠ tl s)) (fun c => 16 - (intOf c).toNat)
  case atStart => exact ⟨0, rfl, by omega, Lib.hid (fun j x h => by omega)⟩
  case round =>
    obtain ⟨k, rfl, hk, hno⟩ := hrel
    by_cases hlt : k < 16
    · obtain ⟨x, hx⟩ : ∃ x, keptL[k]? = some x := ⟨_, List.getElem?_eq_getElem (by rw [kept_len]; exact hlt)⟩
      have c0 := Hrow.out k x hx
      have f := bs_beq s x
      by_cases he : x = tl s
      · have hin : Hid (decide (tl s ∈ keptL) = true) := Lib.hid (by rw [decide_eq_true_iff, ← he]; exact List.mem_of_getElem? hx)
        rw [decide_eq_true he] at f
        clear he hx
        go_wp2_with fail
        go_ret
        exact ⟨ret_bool (by rw [hin.out]), hb2⟩
      · have hn : Hid (∀ j y, j < k + 1 → keptL[j]? = some y → y ≠ tl s) := Lib.hid (fun j y hj hy => by
          rcases Nat.lt_or_ge j k with h | h
          · exact hno.out j y h hy
          · obtain rfl : j = k := by omega
            rw [hx] at hy
            exact Option.some.inj hy ▸ he)
        rw [decide_eq_false he] at f
        clear he hx hno
        go_wp2_with fail
        exact ⟨⟨k + 1, by go_num, by omega, hn⟩, by simp [intOf]; omega⟩
    · obtain rfl : k = 16 := by omega
      have hin : Hid (decide (tl s ∈ keptL) = false) := Lib.hid (by
        rw [decide_eq_false_iff_not]
        intro hm
        obtain ⟨j, hj⟩ := List.mem_iff_getElem?.1 hm
        exact hno.out j _ (by have := (List.getElem?_eq_some_iff.1 hj).1; rw [kept_len] at this; exact this) hj rfl)
      clear hno
      go_wp2_with fail
      go_ret
      exact ⟨ret_bool (by rw [hin.out]), hb2⟩
theorem name_full {l : List UInt8} (h : nameLen l = l.length) : ∀ c ∈ l, aln c = true := by
  cases l with
  | nil => simp
  | cons d r =>
    rw [nameLen] at h
    split at h
    · rename_i hd
      rw [List.length_cons] at h
      have hr : (r.takeWhile aln).length = r.length := by omega
      have he : r.takeWhile aln = r := (List.takeWhile_sublist aln).eq_of_length hr
      intro c hc
      rcases List.mem_cons.1 hc with rfl | hc
      · simp [aln, hd]
      · rw [← he] at hc
        exact tw_all hc
    · simp at h
theorem name_full_of {d : UInt8} {r : List UInt8} (hd : ltr d = true) (h : ∀ c ∈ r, aln c = true) : nameLen (d :: r) = (d :: r).length := by
  have : (r.takeWhile aln).length = r.length := tw_eq (fun c hc => h c (List.mem_of_mem_take hc)) (fun c hc => by simp at hc) (Nat.le_refl _)
  rw [nameLen, if_pos hd, this]
  rfl
theorem aln_of {c : UInt8} : aln c = (dig c || ltr c) := rfl
set_option maxRecDepth 100000 in
set_option maxHeartbeats 4000000 in
theorem RefName_any (s : ByteArray) (w : World) : Calls Tryd.prog 18 #[.string s] w fun e w' => e = .returned (.bool (nameOk (tl s))) ∧ Below w.heap.size w w' := by
  have hl := tl_length s
  obtain ⟨v, hv⟩ : ∃ v, Hid (nameOk (tl s) = v) := ⟨_, Lib.hid rfl⟩
  rw [hv.out]
  go_enter Tryd.func18, Tryd.ntmps18
  by_cases h0 : s.size = 0
  · have hd : decide ((s.size : Int) < 1) = true := by simp; omega
    have hf : v = false := by rw [← hv.out, List.eq_nil_of_length_eq_zero (hl.trans h0)]; rfl
    subst hf
    clear h0
    go_wp2_with fail
    go_ret
    exact ⟨rfl, Below.refl _ _⟩
  have hd : decide ((s.size : Int) < 1) = false := by simp; omega
  by_cases h20 : 20 < s.size
  · have hd2 : decide (20 < (s.size : Int)) = true := by simp; omega
    have hf : v = false := by rw [← hv.out]; unfold nameOk; rw [decide_eq_false (p := (tl s).length ≤ 20) (by omega)]; simp
    subst hf
    go_wp2_with fail
    go_ret
    exact ⟨rfl, Below.refl _ _⟩
  have hd2 : decide (20 < (s.size : Int)) = false := by simp; omega
  obtain ⟨c, hc⟩ : ∃ c, s[0] = c := ⟨_, rfl⟩
  have hg := tl_get s (show 0 < s.size by omega)
  rw [hc] at hg
  obtain ⟨r, hr⟩ : ∃ r, tl s = c :: r := by
    cases hs : tl s with
    | nil => rw [hs] at hg; simp at hg
    | cons d r => rw [hs] at hg; exact ⟨r, by simp at hg; rw [hg]⟩
  have Hr := Lib.hid hr
  clear hr hg
  go_wp2_with fail
  refine (letter_any c _).mono ?_
  rintro e w' ⟨rfl, rfl⟩
  obtain ⟨b0, hb0⟩ : ∃ b, Hid (ltr c = b) := ⟨_, Lib.hid rfl⟩
  rw [hb0.out]
  cases b0 with
  | false =>
    have hf : v = false := by
      rw [← hv.out, Hr.out]
      unfold nameOk
      rw [decide_eq_false (p := nameLen (c :: r) = (c :: r).length) (by rw [nameLen, if_neg (by rw [hb0.out]; simp)]; simp)]
      simp
    subst hf
    go_wp2_with fail
    go_ret
    exact ⟨rfl, Below.refl _ _⟩
  | true =>
    go_wp2_with fail
    go_loop [3] (fun x => ∃ k : Nat, x = .int .i64 k ∧ k ≤ s.size ∧ Hid (∀ d ∈ (tl s).take k, aln d = true)) (fun x => s.size - (intOf x).toNat)
    case atStart => exact ⟨0, rfl, by omega, Lib.hid (by simp)⟩
    case round =>
      obtain ⟨k, rfl, hk, hall⟩ := hrel
      by_cases hlt : k < s.size
      · obtain ⟨d, hd⟩ : ∃ d, s[k] = d := ⟨_, rfl⟩
        have hgk := tl_get s hlt
        rw [hd] at hgk
        have Hgk := Lib.hid hgk
        clear hgk
        have more : aln d = true → Hid (∀ x ∈ (tl s).take (k + 1), aln x = true) := fun h => Lib.hid (by
          intro x hx
          rw [List.take_add_one, Hgk.out] at hx
          simp only [Option.toList_some, List.mem_append, List.mem_singleton] at hx
          rcases hx with hx | rfl
          · exact hall.out x hx
          · exact h)
        have More := Lib.hid more
        clear more
        go_wp2_with fail
        refine (letter_any d _).mono ?_
        rintro e w' ⟨rfl, rfl⟩
        obtain ⟨b1, hb1⟩ : ∃ b, Hid (ltr d = b) := ⟨_, Lib.hid rfl⟩
        rw [hb1.out]
        cases b1 with
        | true =>
          have hn := More.out (by rw [aln_of, hb1.out]; simp)
          clear More
          go_wp2_with fail
          exact ⟨⟨k + 1, by go_num, by omega, hn⟩, by simp [intOf]; omega⟩
        | false =>
          go_wp2_with fail
          refine (digit_any d _).mono ?_
          rintro e w' ⟨rfl, rfl⟩
          obtain ⟨b2, hb2⟩ : ∃ b, Hid (dig d = b) := ⟨_, Lib.hid rfl⟩
          rw [hb2.out]
          cases b2 with
          | true =>
            have hn := More.out (by rw [aln_of, hb2.out]; simp)
            clear More
            go_wp2_with fail
            exact ⟨⟨k + 1, by go_num, by omega, hn⟩, by simp [intOf]; omega⟩
          | false =>
            have hf : v = false := by
              rw [← hv.out]
              unfold nameOk
              rw [decide_eq_false (p := nameLen (tl s) = (tl s).length) (fun h => by
                have := name_full h d (List.mem_of_getElem? Hgk.out)
                rw [aln_of, hb1.out, hb2.out] at this
                simp at this)]
              simp
            subst hf
            clear More
            go_wp2_with fail
            go_ret
            exact ⟨rfl, Below.refl _ _⟩
      · obtain rfl : k = s.size := by omega
        have hfull : Hid (nameLen (tl s) = (tl s).length) := Lib.hid (by
          have h := hall.out
          rw [← hl, List.take_length] at h
          rw [Hr.out] at h ⊢
          exact name_full_of hb0.out (fun x hx => h x (List.mem_cons_of_mem _ hx)))
        clear hall
        go_wp2_with fail
        refine (RefKept_any s _).mono ?_
        rintro e w' ⟨rfl, b⟩
        have hf : (!(decide (tl s ∈ keptL))) = v := by
          rw [← hv.out]
          unfold nameOk
          rw [decide_eq_true hfull.out, decide_eq_true (p := (tl s).length ≤ 20) (by omega), decide_eq_true (p := tl s ≠ []) (by rw [Hr.out]; simp)]
          simp
        go_wp2_with fail
        go_ret
        exact ⟨rfl, b⟩
theorem bs_app (a b : List UInt8) : bs (a ++ b) = bs a ++ bs b := by
  rw [← bs_tl (bs a ++ bs b)]
  congr 1
theorem bs_two (a b c : List UInt8) : bs a ++ bs b ++ bs c = bs (a ++ b ++ c) := by rw [bs_app, bs_app]
set_option maxRecDepth 100000 in
set_option maxHeartbeats 4000000 in
theorem RefUnlex_any (v : Value) (T : List Tk) (w : World) (h1 : Toks w v T) (hl : (allB T).length ≤ 1000000000) (hT : T.length ≤ 1000000) : Calls Tryd.prog 20 #[v] w fun e w' => e = .returned (.string (bs (allB T))) ∧ Below w.heap.size w w' := by
  obtain ⟨a, cap, rfl, hc, hm, hat⟩ := h1
  have Hat := Lib.hid hat; clear hat
  unfold maxLen at hm
  go_enter Tryd.func20, Tryd.ntmps20
  go_wp2_with fail
  go_loopw [3, 4] (fun c d wr => ∃ k q : Nat, Hid (wr = w.drewN q) ∧ c = .string (bs (allB (T.take k))) ∧ d = .int .i64 k ∧ k ≤ T.length) (fun _ d _ => T.length - (intOf d).toNat)
  case atStart => exact ⟨0, 0, Lib.hid rfl, rfl, rfl, Nat.zero_le _⟩
  case round =>
    obtain ⟨k, q, hq, rfl, rfl, hk⟩ := hrel
    by_cases hlt : k < T.length
    · obtain ⟨t, ht⟩ : ∃ t, T[k]? = some t := ⟨_, List.getElem?_eq_getElem hlt⟩
      obtain ⟨b, off, rfl, hbl, hli⟩ := Hat.out k t ht
      have hnx := allB_take ht
      have Hnx := Lib.hid hnx; clear hnx
      obtain ⟨c0, c1, c2, c3⟩ : t.lies wr b (off + k * 4) := by rw [hq.out]; exact hli
      have z0 := allB_le (T := T) (k := k + 1)
      rw [Hnx.out, List.length_append, List.length_append] at z0
      have z1 : (bs (allB (T.take k))).size = (allB (T.take k)).length := bs_size _
      have z2 : (bs t.text).size = t.text.length := bs_size _
      have z3 : (bs t.lead).size = t.lead.length := bs_size _
      clear hli ht
      go_wp2_with fail
      go_quiet (fail)
      go_wp2_with fail
      exact ⟨⟨k + 1, q + nq, Lib.hid (by rw [hq.out, World.drewN_drewN]), by rw [Hnx.out, bs_two], by go_num, by omega⟩, by simp [intOf]; omega⟩
    · obtain rfl : k = T.length := by omega
      rw [List.take_length]
      go_wp2_with fail
      go_ret
      exact ⟨rfl, by rw [hq.out]; exact below_draws (Below.refl _ _) q⟩
end Go.Proofs.YtamhlobjolnlhaaDoor
