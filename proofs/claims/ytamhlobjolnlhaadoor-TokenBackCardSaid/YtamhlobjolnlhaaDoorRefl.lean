/-
  For the law LexTells: the document's tokens of a text. Condition: at most 1,048,576 bytes.
-/
import Derived.Test.YtamhlobjolnlhaaDoorReft
import Derived.Deep.RegionHeldLaw
import Derived.Deep.AppendLies
namespace Go.Proofs.YtamhlobjolnlhaaDoor
open Go.RowKit Go.Shelf

theorem below_drew {B : Nat} {a w : World} (h : Below B a w) : Below B a w.drew := below_draws h 1
theorem rows_add (T : List Tk) (t : Tk) : T.flatMap Tk.row ++ t.row = (T ++ [t]).flatMap Tk.row := by simp
set_option maxRecDepth 100000 in
set_option maxHeartbeats 8000000 in
theorem RefLex_any (s : ByteArray) (w : World) (hs : s.size ≤ 1048576) : Calls Tryd.prog 13 #[.string s] w (LexGives w s) := by
  have hl := tl_length s
  obtain ⟨i0, hi0, hz0, hz1, hz2⟩ := info_parts infoTok
  have hd : decide ((1048576 : Int) < (s.size : Int)) = false := by simp; omega
  go_enter Tryd.func13, Tryd.ntmps13
  go_wp2_with fail
  go_loopw [5, 6] (fun v c wr => ∃ (k : Nat) (T : List Tk), c = .int .i64 k ∧ k ≤ s.size ∧ Hid (LexAt (tl s) k T) ∧ Hid (wr.ownsRow w.heap.size 30 4 v T.length (T.flatMap Tk.row)) ∧ Hid (Below w.heap.size w wr)) (fun _ c _ => s.size - (intOf c).toNat)
  case atStart => exact ⟨0, [], rfl, Nat.zero_le _, Lib.hid (LexAt.start _), Lib.hid (World.ownsRow_nil _ _ _ _), Lib.hid (Below.refl _ _)⟩
  case round =>
    obtain ⟨k, T, rfl, hk, hat, hown, hB⟩ := hrel
    have hTl := hat.out.2.1
    obtain ⟨p, hp⟩ : ∃ p, Hid ((sep ((tl s).drop k)).1 = p) := ⟨_, Lib.hid rfl⟩
    obtain ⟨b, hb⟩ : ∃ b, Hid ((sep ((tl s).drop k)).2 = b) := ⟨_, Lib.hid rfl⟩
    have hpl := sep_le ((tl s).drop k)
    rw [hp.out, List.length_drop, hl] at hpl
    go_wp2_with fail
    refine (between_any s k _ (by omega) hk).mono ?_
    rw [hp.out, hb.out]
    rintro e w' ⟨rfl, rfl⟩
    cases b with
    | false =>
      have hfin : Hid (lexR 0 (tl s) = ([], k + p, 32)) := Lib.hid (by have := hat.out.sep_err hb.out; rwa [hp.out] at this)
      go_wp2_with fail
      go_ret3
      unfold LexGives
      rw [hfin.out]
      exact ⟨⟨.slice none 0 0, rfl, toks_nil _⟩, hB.out⟩
    | true =>
      have hdk := List.drop_drop (i := p) (j := k) (l := tl s)
      have hbs := hB.out.size
      by_cases hend : k + p = s.size
      · have hnil : ((tl s).drop k).drop p = [] := by rw [hdk]; exact List.drop_of_length_le (by omega)
        have hfin : Hid (lexR 0 (tl s) = (T ++ [tokAt s 5 k (k + p) 0], 0, 0)) := Lib.hid (by have := hat.out.last hb.out (by rw [hp.out]; exact hnil); rwa [hp.out] at this)
        have hd2 : (((k + p : Nat) : Int) == (s.size : Int)) = true := by rw [beq_iff_eq]; omega
        have hrow : (tokAt s 5 k (k + p) 0).row = [.int .i64 5, .string ⟨#[]⟩, .int .i64 ((k + p : Nat) : Int), .string (s.extract k s.size)] := by
          rw [tokAt_row, ← hend, show s.extract (k + p) (k + p + 0) = ⟨#[]⟩ from by rw [ext_bs]; simp [bs]]
        have Hrow := Lib.hid hrow
        have Hend := Lib.hid hend
        clear hrow hnil hdk hend
        go_wp2_with (at_builtin; refine wpList_append_own _ rfl _ _ 23 rfl w.heap.size 30 i0 _ 4 48 Tryd.underlying23 hi0 hz0 hz1 hz2 rfl (by decide) _ _ _ rfl (hown.out.alloc _) ⟨wr.heap.size, 0, none⟩ 1 1 [.int .i64 5, .string ⟨#[]⟩, .int .i64 ((k + p : Nat) : Int), .string (s.extract k s.size)] rfl rfl (tok_new _ _ _ _ _ _) (tok_one _ _ _ _) (by unfold maxLen; omega) (by omega) (by simp; omega) ?_; intro v' w2 hown' hgrow _)
        rw [← Hrow.out, rows_add] at hown'
        have hB2 := (hB.out.alloc hbs _).grown hgrow (by simp; omega) (fun k hk => (hown.out.lt k hk).1)
        go_ret3
        unfold LexGives
        rw [hfin.out]
        exact ⟨⟨v', rfl, own_toks hown'⟩, hB2⟩
      · have hne : (tl s).drop (k + p) ≠ [] := by
          intro e
          have := congrArg List.length e
          rw [List.length_drop, hl, List.length_nil] at this
          omega
        have hd2 : (((k + p : Nat) : Int) == (s.size : Int)) = false := by rw [beq_eq_false_iff_ne]; omega
        have hd3 : ((k : Int) + (p : Int) == (s.size : Int)) = false := by rw [beq_eq_false_iff_ne]; omega
        have hne2 : ((tl s).drop k).drop p ≠ [] := by rw [hdk]; exact hne
        have Hne2 := Lib.hid hne2
        have Hdk := Lib.hid hdk
        have hfc := first_cases ((tl s).drop (k + p))
        obtain ⟨F, hF⟩ : ∃ F, Hid (first ((tl s).drop (k + p)) = F) := ⟨_, Lib.hid rfl⟩
        obtain ⟨kind, n, err⟩ := F
        rw [hF.out, List.length_drop, hl] at hfc
        dsimp only at hfc
        have hsum : ((k : Int) + (p : Int)) = ((k + p : Nat) : Int) := by omega
        have Hsum := Lib.hid hsum
        clear hne hne2 hdk hsum
        go_wp2_with fail
        simp only [Hsum.out]
        refine (token_any s (k + p) _ (by omega) (by omega)).mono ?_
        rw [hF.out]
        rintro e w3 ⟨rfl, b3⟩
        have hB3 : Hid (Below w.heap.size w w3) := Lib.hid (hB.out.trans (b3.mono hbs))
        have hown3 : Hid (w3.ownsRow w.heap.size 30 4 u5 T.length (T.flatMap Tk.row)) := Lib.hid (own_below hown.out b3)
        have hbs3 := hB3.out.size
        clear b3
        rcases hfc with ⟨n0, rfl, n1, n2, n3⟩ | ⟨rfl, he, rfl⟩
        · have hnx : Hid (LexAt (tl s) (k + p + n) (T ++ [tokAt s kind k (k + p) n])) := Lib.hid (by
            have := hat.out.next hb.out (by rw [hp.out]; exact Hne2.out) (by rw [hp.out, Hdk.out, hF.out])
            rw [hp.out, Hdk.out, hF.out] at this
            exact this)
          have hkP : k ≤ k + p := by omega
          have hPn : k + p + n ≤ s.size := by omega
          have hrow := tokAt_row s kind k (k + p) n
          clear hat hp hpl hF Hsum Hdk Hne2 hd2 hd3 hend n1
          generalize k + p = P at *
          have Hrow := Lib.hid hrow
          clear hrow
          have q1 : (0 : Int) ≤ (P : Int) := by omega
          have q2 : (P : Int) ≤ (P : Int) + n := by omega
          have q3 : (P : Int) + n ≤ (s.size : Int) := by omega
          have q5 : (k : Int) ≤ (P : Int) := by omega
          have q6 : (P : Int) ≤ (s.size : Int) := by omega
          have q7 : IntKind.i64.wrap ((P : Int) + n) = (P : Int) + n := IntWalk.i64_in _ (by omega)
          have q8 : ((P : Int) + n).toNat = P + n := by omega
          have q9 : (0 : Int) ≤ (k : Int) := by omega
          go_wp2_with fail
          go_region_held_law (fun _ => True) (first | go_keep | trivial)
            ((refine step_append_lies _ (by rfl) _ _ _ (by rfl) w.heap.size 30 i0 _ 4 48 Tryd.underlying23 hi0 hz0 hz1 hz2 rfl (by decide) _ T.length _ (by rfl) (hown3.out.alloc _) ⟨w3.heap.size, 0, none⟩ 1 1 [.int .i64 kind, .string (s.extract P (P + n)), .int .i64 (P : Int), .string (s.extract k P)] (by rfl) rfl (fun j u hj => tok_new w3 _ _ _ _ 30 j u hj) (tok_one _ _ _ _) (by omega) (by unfold maxLen; omega) (by omega) (by simp; omega) (w3.heap.size + 1) (by simp) ?_; intro g cap' w2 hown' hgrow _ _; have HB2 : Hid (Below w.heap.size w w2) := by first | exact Lib.hid (Below.grown (hB3.out.alloc hbs3 _) hgrow (by simp; omega) (fun k hk => (hown3.out.lt k hk).1)) | exact Lib.hid (Below.grown (below_drew (hB3.out.alloc hbs3 _)) hgrow (by simp; omega) (fun k hk => (hown3.out.lt k hk).1)) | exact Lib.hid (Below.grown ((below_drew hB3.out).alloc hbs3 _) hgrow (by simp; omega) (fun k hk => (hown3.out.lt k hk).1)) | exact Lib.hid (Below.grown (below_draws (hB3.out.alloc hbs3 _) _) hgrow (by simp; omega) (fun k hk => (hown3.out.lt k hk).1)) | exact Lib.hid (Below.grown ((below_draws hB3.out _).alloc hbs3 _) hgrow (by simp; omega) (fun k hk => (hown3.out.lt k hk).1)) | (trace_state; fail)))
          have Hown2 : Hid (w2.ownsRow w.heap.size 30 4 (.slice (some ⟨g, 0, none⟩) (T.length + 1) cap') (T ++ [tokAt s kind k P n]).length ((T ++ [tokAt s kind k P n]).flatMap Tk.row)) := by
            rw [← rows_add, Hrow.out, List.length_append, List.length_singleton]
            exact Lib.hid hown'
          clear hown' hgrow hown hown3 hB hB3
          go_wp2_with fail
          exact ⟨⟨P + n, _, by go_num, by omega, hnx, Hown2, HB2⟩, by simp [intOf]; omega⟩
        · have hfin : Hid (lexR 0 (tl s) = ([], k + p, err)) := Lib.hid (by
            have := hat.out.first_err hb.out (by rw [hp.out]; exact Hne2.out) (by rw [hp.out, Hdk.out, hF.out]; dsimp only; omega)
            rwa [hp.out, Hdk.out, hF.out] at this)
          have hed : (err != 0) = true := by rw [bne_iff_ne]; omega
          go_wp2_with fail
          go_ret3
          unfold LexGives
          rw [hfin.out]
          exact ⟨⟨.slice none 0 0, rfl, toks_nil _⟩, hB3.out⟩
end Go.Proofs.YtamhlobjolnlhaaDoor
