/-
  For the law LexLead. Condition: the library's own variables are as they are laid.
-/
import Derived.Test.YtamhlobjolnlhaaDoorAwake
import Derived.Test.YtamhlobjolnlhaaDoorMore
namespace Go.Proofs.YtamhlobjolnlhaaDoor
open Go.RowKit Go.Shelf

theorem sp_take {T : List Tk} {k : Nat} {t : Tk} (h : T[k]? = some t) : sp (T.take (k + 1)) = sp (T.take k) ++ 32 :: t.text := by
  unfold sp
  rw [List.take_add_one, h]
  simp
theorem sp_le {T : List Tk} : (sp T).length ≤ (allB T).length + T.length := by
  induction T with
  | nil => simp [sp]
  | cons t T ih =>
    have e1 : sp (t :: T) = 32 :: t.text ++ sp T := rfl
    have e2 : allB (t :: T) = t.lead ++ t.text ++ allB T := by simp [allB, tkB]
    rw [e1, e2]
    simp only [List.length_append, List.length_cons]
    omega
theorem sp_take_le {T : List Tk} {k : Nat} : (sp (T.take k)).length ≤ (sp T).length := by
  have h : sp T = sp (T.take k) ++ sp (T.drop k) := by unfold sp; rw [← List.flatMap_append, List.take_append_drop]
  rw [h, List.length_append]
  omega
theorem bs_append (a b : List UInt8) : bs (a ++ b) = bs a ++ bs b := by
  rw [← bs_tl (bs a ++ bs b)]
  congr 1
theorem bs_space (a b : List UInt8) : bs a ++ ByteArray.mk #[32] ++ bs b = bs (a ++ 32 :: b) := by
  rw [show a ++ 32 :: b = (a ++ [32]) ++ b from by simp, bs_append, bs_append]
set_option maxRecDepth 100000 in
set_option maxHeartbeats 8000000 in
theorem lexLead_any (s : ByteArray) (w : World) (hW : LexW w) : Calls Tryd.prog 7 #[.string s] w fun e w' => e = .returned (.bool true) ∧ Below w.heap.size w w' := by
  have HW := Lib.hid hW; clear hW
  have hW4 := HW.out.size
  go_enter Tryd.func7, Tryd.ntmps7
  go_wp2_with fail
  refine (awake_any _ HW.out).mono ?_
  rintro e w1 ⟨rfl, b1⟩
  have HW1 := Lib.hid (HW.out.below b1 hW4)
  by_cases hs : 2000 < s.size
  · have hd : decide ((2000 : Int) < (s.size : Int)) = true := by simp; omega
    go_wp2_with fail
    go_ret
    exact ⟨rfl, b1⟩
  have hd : decide ((2000 : Int) < (s.size : Int)) = false := by simp; omega
  go_wp2_with fail
  refine (Lex_any _ _ HW1.out (by omega)).mono ?_
  unfold LexGives
  obtain ⟨q, hq⟩ : ∃ q, Hid (lexR 0 (tl s) = q) := ⟨_, Lib.hid rfl⟩
  rw [hq.out]
  obtain ⟨T, p, x⟩ := q
  rintro e w2 ⟨⟨v, rfl, ht⟩, b2⟩
  have B2 := b1.trans (b2.mono b1.size)
  have HW2 := Lib.hid (HW.out.below B2 hW4)
  have Ht := Lib.hid ht
  simp only at ht
  obtain ⟨a, cap, rfl, hc, hm, hat⟩ := ht
  have Hat := Lib.hid hat
  unfold maxLen at hm
  clear b1 b2 hat Ht
  by_cases h0 : x = 0
  · subst h0
    have hg := lexR_good _ (tl s) 0 (Nat.le_refl _) (by rw [hq.out]) (tl s) rfl (Nat.zero_le _)
    have hsp := lexR_spaced _ (tl s) 0 (Nat.le_refl _) (by rw [hq.out]) 0
    rw [hq.out] at hg hsp
    simp only at hg hsp
    have hall := hg.1.all
    have hfew := hg.1.few
    rw [List.drop_zero] at hall
    have hsl := sp_le (T := T)
    rw [← hall] at hsl
    rw [tl_length] at hfew hsl
    obtain ⟨T', hlex, hmap⟩ := hsp
    have Hlex := Lib.hid hlex
    have Hmap := Lib.hid hmap
    have hlen : T'.length = T.length := by simpa using congrArg List.length hmap
    clear hg hall hlex hmap
    go_wp2_with fail
    go_loop [7, 8] (fun c d => ∃ k : Nat, c = .string (bs (sp (T.take k))) ∧ d = .int .i64 k ∧ k ≤ T.length) (fun _ d => T.length - (intOf d).toNat)
    case atStart => exact ⟨0, rfl, rfl, Nat.zero_le _⟩
    case round =>
      obtain ⟨k, rfl, rfl, hk⟩ := hrel
      by_cases hlt : k < T.length
      · obtain ⟨t, ht⟩ : ∃ t, T[k]? = some t := ⟨_, List.getElem?_eq_getElem hlt⟩
        obtain ⟨b, off, rfl, hbl, c0, c1, c2, c3⟩ := Hat.out k t ht
        have hnx := sp_take ht
        have Hnx := Lib.hid hnx; clear hnx
        have z1 := sp_take_le (T := T) (k := k + 1)
        rw [Hnx.out, List.length_append, List.length_cons] at z1
        have z2 : (bs (sp (T.take k))).size = (sp (T.take k)).length := bs_size _
        have z3 : (bs t.text).size = t.text.length := bs_size _
        go_wp2_with fail
        exact ⟨⟨k + 1, by rw [Hnx.out, bs_space], by go_num, by omega⟩, by simp [intOf]; omega⟩
      · obtain rfl : k = T.length := by omega
        rw [List.take_length]
        clear hk hlt
        go_wp2_with fail
        refine (Lex_any _ _ HW2.out (by rw [bs_size]; omega)).mono ?_
        unfold LexGives
        rw [tl_bs, Hlex.out]
        rintro e w3 ⟨⟨v3, rfl, ht3⟩, b3⟩
        have B3 := B2.trans (b3.mono B2.size)
        simp only at ht3
        obtain ⟨a3, cap3, rfl, hc3, hm3, hat3⟩ := ht3
        have Hat3 := Lib.hid hat3
        have Hb3 := Lib.hid b3
        unfold maxLen at hm3
        rw [hlen] at hc3
        have hd5 : ((T.length : Int) != (T.length : Int)) = false := by simp
        clear hat3 b3
        simp only [hlen]
        go_wp2_with fail
        go_loopw [12] (fun c wr => ∃ k q : Nat, Hid (wr = w3.drewN q) ∧ c = .int .i64 k ∧ k ≤ T.length) (fun c _ => T.length - (intOf c).toNat)
        case atStart => exact ⟨0, 0, Lib.hid rfl, rfl, Nat.zero_le _⟩
        case round =>
          obtain ⟨k, q, hq3, rfl, hk⟩ := hrel
          by_cases hlt : k < T.length
          · obtain ⟨t, ht⟩ : ∃ t, T[k]? = some t := ⟨_, List.getElem?_eq_getElem hlt⟩
            obtain ⟨t', ht'⟩ : ∃ t, T'[k]? = some t := ⟨_, List.getElem?_eq_getElem (by omega)⟩
            obtain ⟨b, off, rfl, hbl, hli⟩ := Hat.out k t ht
            obtain ⟨b', off', rfl, hbl', hli'⟩ := Hat3.out k t' ht'
            have hsame := congrArg (·[k]?) Hmap.out
            simp only [List.getElem?_map, ht, ht', Option.map_some, Option.some.injEq, Prod.mk.injEq] at hsame
            obtain ⟨m1, m2, m3⟩ := hsame
            obtain ⟨c0, c1, c2, c3⟩ : t.lies wr b (off + k * 4) := by rw [hq3.out]; exact hli.below (below_draws Hb3.out q) hbl
            obtain ⟨d0, d1, d2, d3⟩ : t'.lies wr b' (off' + k * 4) := by rw [hq3.out]; exact hli'
            rw [m1] at d0
            rw [m2] at d1
            rw [m3, show bs [32] = ByteArray.mk #[32] from rfl] at d3
            clear hli hli' m1 m2 m3 ht ht'
            go_wp2_with fail
            go_quiet (fail)
            go_wp2_with fail
            exact ⟨⟨k + 1, q + nq, Lib.hid (by rw [hq3.out, World.drewN_drewN]), by go_num, by omega⟩, by simp [intOf]; omega⟩
          · obtain rfl : k = T.length := by omega
            go_wp2_with fail
            go_ret
            exact ⟨rfl, by rw [hq3.out]; exact below_draws B3 q⟩
  · have hd2 : (x != 0) = true := by simpa using h0
    go_wp2_with fail
    go_ret
    exact ⟨rfl, B2⟩
end Go.Proofs.YtamhlobjolnlhaaDoor
