/-
  For the laws of archive: what the listed variables hold; the head of a file, by the program. Condition: paths and texts of at most 100,000 bytes; the listed variables hold what the program's text lays.
-/
import Derived.Test.YtpnfjiglphogoadDoorWhole
import Derived.Test.YtpnfjiglphogoadDoorCount
import Derived.Test.YtpnfjiglphogoadDoorSamer
import Derived.Lib.ItoaNum
import Derived.Lib.SmallJoins
import Derived.Lib.AppendIntMem
import Derived.Deep.RegionHeld3
import Derived.Lib.LaidTab
namespace Go.Proofs.YtpnfjiglphogoadDoor
open Go.RowKit Go.Shelf
set_option linter.unusedSimpArgs false

def Pow (w : World) : Prop := Lib.TabIs Tryd.prog w "internal/strconv.uint64pow10" .u64 Lib.pow10Tab
theorem var_below {w w' : World} {n : String} {g : Nat} {x : Array Value} (hg : Tryd.prog.globalNamed n = some g) (h : w.var? Tryd.prog n = some x) (hb : Below w.heap.size w w') : w'.var? Tryd.prog n = some x := by
  unfold World.var? at h ⊢
  rw [hg] at h ⊢
  simp only [Option.bind_some] at h ⊢
  have hlt : g < w.heap.size := by
    rcases Nat.lt_or_ge g w.heap.size with h' | h'
    · exact h'
    · rw [Array.getElem?_eq_none h'] at h; cases h
  rw [hb.block g hlt]
  exact h
noncomputable def gNum (n : String) : Nat := (Tryd.prog.globalNamed n).getD 0
theorem gPow : Tryd.prog.globalNamed "internal/strconv.uint64pow10" = some (gNum "internal/strconv.uint64pow10") := by kernel_rfl
theorem gES : Tryd.prog.globalNamed "strconv.ErrSyntax" = some (gNum "strconv.ErrSyntax") := by kernel_rfl
theorem gER : Tryd.prog.globalNamed "strconv.ErrRange" = some (gNum "strconv.ErrRange") := by kernel_rfl
/-- What the listed variables hold. -/
structure AW (w : World) : Prop where
  pow : Pow w
  err : ∃ t p t' p', w.var? Tryd.prog "strconv.ErrSyntax" = some #[.iface t p] ∧ w.var? Tryd.prog "strconv.ErrRange" = some #[.iface t' p']
  max : ∃ m, w.cell? ⟨3, 0, none⟩ = some (.int .i64 m)
theorem AW.below {w w' : World} (h : AW w) (hb : Below w.heap.size w w') : AW w' := by
  obtain ⟨h1, ⟨t, p, t', p', h2, h3⟩, m, h4⟩ := h
  exact ⟨var_below gPow h1 hb, ⟨t, p, t', p', var_below gES h2 hb, var_below gER h3 hb⟩, m, (hb.cell (p := ⟨3, 0, none⟩) (World.block_lt_of_cell? w _ h4)).trans h4⟩
theorem bs_app (a b : List UInt8) : bs a ++ bs b = bs (a ++ b) := by
  rw [← bs_tl (bs a ++ bs b)]
  simp [tl]
theorem app_bs (a : List UInt8) (s : ByteArray) : bs a ++ s = bs (a ++ tl s) := by rw [← bs_app, bs_tl]
theorem ret_str {a b : ByteArray} (h : a = b) : Ending.returned (.string a) = Ending.returned (.string b) := by rw [h]
theorem wholeS_bs (s : ByteArray) : wholeS s = bs (whole (tl s)) := by rw [← bs_tl (wholeS s), whole_tl]
/-- How many lines a text has. -/
def cnt (t : By) : Nat := (lns (bs t)).length
theorem cnt_le (t : By) : cnt t ≤ t.length := by have := lns_len (bs t); rw [bs_size] at this; exact this
def fileW : By := [102, 105, 108, 101, 32]
/-- The head of a file. -/
def headL (f : Fl) : By := fileW ++ f.path ++ [32] ++ Lib.decDigits (cnt f.text) ++ (if cutOf f.text then [33] else []) ++ [10]
theorem dec_le : ∀ (k u : Nat), u < 10 ^ (k + 1) → (Lib.decDigits u).length ≤ k + 1
  | 0, u, h => by rw [Lib.decDigits, dif_pos (by omega)]; simp
  | k + 1, u, h => by
    rw [Lib.decDigits]
    split
    · simp
    · have := dec_le k (u / 10) (by rw [Nat.pow_succ] at h; omega)
      simp; omega
theorem headL_le {f : Fl} (h1 : f.path.length ≤ 100000) (h2 : f.text.length ≤ 100000) : (headL f).length ≤ 100020 := by
  have h3 := cnt_le f.text
  have h4 := dec_le 5 (cnt f.text) (by omega)
  unfold headL
  simp only [List.length_append, List.length_cons, List.length_nil, fileW]
  split <;> simp <;> omega
theorem Itoa_any (n : Nat) (hn : n ≤ 1000000) (w : World) (hp : Pow w) : Calls Tryd.prog 24 #[.int .i64 n] w fun e w' => e = .returned (.string (bs (Lib.decDigits n))) ∧ Below w.heap.size w w' := by
  refine (Tryd.strconv_Itoa n (by omega) (by omega) w hp).mono ?_
  rintro e w1 ⟨rfl, k, os, rfl⟩
  refine ⟨?_, Lib.below_grow _ _ (Nat.le_refl _) _ _⟩
  rw [Lib.itoa, if_neg (by omega), Int.toNat_natCast]
/-- Within Head: the file's box, the listed variables, what lies below. -/
structure HS (w : World) (f : Fl) (W : World) : Prop where
  row : RowAt W w.heap.size 34 #[.string (bs f.path), .string (bs f.text)]
  aw : AW W
  bel : Below w.heap.size w W
theorem HS.all {w W : World} {f : Fl} (h : HS w f W) : W.cell? ⟨w.heap.size, 0, none⟩ = some (.string (bs f.path)) ∧ W.cell? ⟨w.heap.size, 1, none⟩ = some (.string (bs f.text)) ∧ HS w f W :=
  ⟨h.row.cell (j := 0) rfl, h.row.cell (j := 1) rfl, h⟩
theorem HS.later {w W W' : World} {f : Fl} (h : HS w f W) (hb : Below W.heap.size W W') : HS w f W' := ⟨h.row.later hb, h.aw.below hb, h.bel.trans (hb.mono h.bel.size)⟩
theorem HS.drew {w W : World} {f : Fl} (h : HS w f W) : HS w f W.drew := h.later (below_drew (Below.refl _ _))
theorem HS.new {w : World} (f : Fl) (h : AW w) : HS w f (w.alloc (.cells #[.string (bs f.path), .string (bs f.text)] 34)) :=
  ⟨RowAt.new w 34 _, h.below ((Below.refl _ w).alloc (Nat.le_refl _) _), (Below.refl _ w).alloc (Nat.le_refl _) _⟩
theorem Whole_q (t t2 : By) (ht : t.length ≤ 100000) (h : whole t = t2) (W : World) (m : Nat) : Calls Tryd.prog 21 #[.string (bs t)] (W.drewN m) fun e w'' => e = .returned (.string (bs t2)) ∧ ∃ q, w'' = W.drewN q := by
  subst h
  refine (Whole_any (bs t) (by rw [bs_size]; omega) _).mono ?_
  rintro e w' ⟨rfl, rfl⟩
  exact ⟨by rw [wholeS_bs, tl_bs], _, rfl⟩
set_option maxRecDepth 100000 in
set_option maxHeartbeats 8000000 in
theorem Head_any (f : Fl) (h1 : f.path.length ≤ 100000) (h2 : f.text.length ≤ 100000) (w : World) (hW : AW w) : Calls Tryd.prog 15 #[.agg #[.string (bs f.path), .string (bs f.text)]] w fun e w' => e = .returned (.string (bs (headL f))) ∧ Below w.heap.size w w' := by
  obtain ⟨W1, hW1⟩ : ∃ W1, Hid (w.alloc (.cells #[.string (bs f.path), .string (bs f.text)] 34) = W1) := ⟨_, Lib.hid rfl⟩
  have hs1 : HS w f W1 := by rw [← hW1.out]; exact HS.new f hW
  have hc := cnt_le f.text
  have hd := dec_le 5 (cnt f.text) (by omega)
  obtain ⟨N, hN⟩ : ∃ N, Hid (cnt f.text = N) := ⟨_, Lib.hid rfl⟩
  rw [hN.out] at hc hd
  obtain ⟨X, hX⟩ : ∃ X, Hid (Lib.decDigits N = X) := ⟨_, Lib.hid rfl⟩
  rw [hX.out] at hd
  obtain ⟨r, hr⟩ : ∃ r, Hid (headL f = r) := ⟨_, Lib.hid rfl⟩
  rw [hr.out]
  obtain ⟨t2, ht2⟩ : ∃ t2, Hid (whole f.text = t2) := ⟨_, Lib.hid rfl⟩
  obtain ⟨d, hd2⟩ : ∃ d, Hid ((t2 == f.text) = d) := ⟨_, Lib.hid rfl⟩
  clear hW
  go_enter Tryd.func15, Tryd.ntmps15
  go_wp2_with fail
  rw [hW1.out]
  obtain ⟨d0, d1, -⟩ := hs1.all
  have z1 : ¬ 9223372036854775807 < 5 + List.length f.path := by omega
  have z2 : ¬ 9223372036854775807 < 5 + List.length f.path + 1 := by omega
  have z3 : ¬ 9223372036854775807 < 5 + List.length f.path + 1 + X.length := by omega
  go_region_held3 (fun W => W.cell? ⟨w.heap.size, 0, none⟩ = some (.string (bs f.path)) ∧ W.cell? ⟨w.heap.size, 1, none⟩ = some (.string (bs f.text)) ∧ HS w f W)
    (first | exact HS.all (by assumption) | exact HS.all (HS.drew (by assumption)) | exact HS.all (HS.drew (And.right (And.right (by assumption)))))
    (first
      | (go_at_call 25; refine (Count_any (bs f.text) (by rw [bs_size]; omega) _).mono ?_; rw [show (lns (bs f.text)).length = N from hN.out]; rintro e w' ⟨rfl, hb⟩; have hs' := HS.later (And.right (And.right (by assumption))) hb)
      | (go_at_call 24; refine (Itoa_any N (by omega) _ (HS.aw (And.right (And.right (by assumption)))).pow).mono ?_; rw [hX.out]; rintro e w' ⟨rfl, hb⟩; have hs' := HS.later (And.right (And.right (by assumption))) hb))
  all_goals
    have hend := And.right (And.right (by assumption : _ ∧ _ ∧ HS w f _))
    have Hend := Lib.hid hend
    obtain ⟨e0, e1, -⟩ := hend.all
    have Q : Hid (∀ W m, Calls Tryd.prog 21 #[.string (bs f.text)] (World.drewN W m) fun e w'' => e = .returned (.string (bs t2)) ∧ ∃ q, w'' = W.drewN q) := Lib.hid fun W m => Whole_q f.text t2 h2 ht2.out W m
    clear hend
    cases hdd : d with
    | true =>
      have hdt := hd2.out
      rw [hdd] at hdt
      have hsum : Hid (bs fileW ++ bs f.path ++ bs [32] ++ bs X ++ bs [10] = bs r) := Lib.hid (by
        have hcd : cutOf f.text = false := by
          have := hdt
          unfold cutOf; rw [ht2.out]; simpa using hdt
        rw [← hr.out]; unfold headL; rw [hcd, hN.out, hX.out]; simp only [bs_app]; simp)
      clear hdd
      go_wp2_with fail
      go_quiet (with_reducible exact Q.out _ _)
      go_wp2_with fail
      go_ret
      exact ⟨ret_str hsum.out, below_draws Hend.out.bel _⟩
    | false =>
      have hdt := hd2.out
      rw [hdd] at hdt
      have hsum : Hid (bs fileW ++ bs f.path ++ bs [32] ++ bs X ++ bs [33] ++ bs [10] = bs r) := Lib.hid (by
        have hcd : cutOf f.text = true := by
          have := hdt
          unfold cutOf; rw [ht2.out]; simpa using hdt
        rw [← hr.out]; unfold headL; rw [hcd, hN.out, hX.out]; simp only [bs_app]; simp)
      clear hdd
      go_wp2_with fail
      go_quiet (with_reducible exact Q.out _ _)
      go_wp2_with fail
      go_ret
      exact ⟨ret_str hsum.out, below_draws Hend.out.bel _⟩
end Go.Proofs.YtpnfjiglphogoadDoor
