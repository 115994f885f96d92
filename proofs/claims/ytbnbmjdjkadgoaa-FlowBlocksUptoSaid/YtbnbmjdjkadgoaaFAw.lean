/-
  For the laws on the parser: the tokens of a text that is at hand, by fuel. No program. No condition.
-/
import Derived.Test.YtbnbmjdjkadgoaaXPa
import Derived.Test.YtbnbmjdjkadgoaaFRc
import Derived.Deep.Cut
namespace Go.Proofs.Ytbnbmjdjkadgoaa.X
set_option linter.unusedVariables false

def sepF : Nat → List UInt8 → Nat × Bool
  | 0, _ => (0, true)
  | _ + 1, [] => (0, true)
  | f + 1, c :: r =>
    if blank c = true then ((sepF f r).1 + 1, (sepF f r).2)
    else if c = 47 ∧ r.head? = some 47 then ((sepF f (r.drop (lineLen r))).1 + (lineLen r + 1), (sepF f (r.drop (lineLen r))).2)
    else if c = 47 ∧ r.head? = some 42 then
      match closeAt (r.drop 1) with
      | none => (0, false)
      | some n => ((sepF f (r.drop (n + 3))).1 + (n + 4), (sepF f (r.drop (n + 3))).2)
    else (0, true)
theorem sepF_eq : ∀ (f : Nat) (l : List UInt8), l.length ≤ f → sepF f l = sep l
  | 0, l, h => by
    obtain rfl : l = [] := List.eq_nil_of_length_eq_zero (by omega)
    rw [sep, sepF]
  | f + 1, [], _ => by rw [sep, sepF]
  | f + 1, c :: r, h => by
    rw [List.length_cons] at h
    rw [sep, sepF, sepF_eq f r (by omega), sepF_eq f (r.drop (lineLen r)) (by rw [List.length_drop]; omega)]
    split
    · rfl
    split
    · rfl
    split
    · cases hc : closeAt (r.drop 1) with
      | none => rfl
      | some n =>
        simp only
        rw [sepF_eq f (r.drop (n + 3)) (by rw [List.length_drop]; omega)]
    · rfl
def lexF : Nat → Nat → List UInt8 → List Tk × Nat × Int
  | 0, _, _ => ([], 0, 0)
  | f + 1, n, l =>
    if (sepF f l).2 = false then ([], n + (sepF f l).1, 32)
    else if l.drop (sepF f l).1 = [] then ([⟨5, [], ((n + (sepF f l).1 : Nat) : Int), l.take (sepF f l).1⟩], 0, 0)
    else if (first (l.drop (sepF f l).1)).2.1 = 0 then ([], n + (sepF f l).1, (first (l.drop (sepF f l).1)).2.2)
    else
      if (lexF f (n + (sepF f l).1 + (first (l.drop (sepF f l).1)).2.1) ((l.drop (sepF f l).1).drop (first (l.drop (sepF f l).1)).2.1)).2.2 ≠ 0 then
        ([], (lexF f (n + (sepF f l).1 + (first (l.drop (sepF f l).1)).2.1) ((l.drop (sepF f l).1).drop (first (l.drop (sepF f l).1)).2.1)).2)
      else (⟨(first (l.drop (sepF f l).1)).1, (l.drop (sepF f l).1).take (first (l.drop (sepF f l).1)).2.1, ((n + (sepF f l).1 : Nat) : Int), l.take (sepF f l).1⟩ ::
        (lexF f (n + (sepF f l).1 + (first (l.drop (sepF f l).1)).2.1) ((l.drop (sepF f l).1).drop (first (l.drop (sepF f l).1)).2.1)).1, 0, 0)
theorem lexF_eq : ∀ (f n : Nat) (l : List UInt8), l.length < f → lexF f n l = lexR n l
  | f + 1, n, l, h => by
    rw [lexR, lexF, sepF_eq f l (by omega)]
    by_cases h1 : (sep l).2 = false
    · rw [if_pos h1, if_pos h1]
    rw [if_neg h1, if_neg h1]
    by_cases h2 : l.drop (sep l).1 = []
    · rw [if_pos h2, if_pos h2]
    rw [if_neg h2, if_neg h2]
    by_cases h3 : (first (l.drop (sep l).1)).2.1 = 0
    · rw [if_pos h3, if_pos h3]
    rw [if_neg h3, if_neg h3]
    have h4 : 0 < (l.drop (sep l).1).length := List.length_pos_iff.2 h2
    rw [lexF_eq f _ _ (by rw [List.length_drop] at h4; rw [List.length_drop, List.length_drop]; omega)]
def fileE (f : Nat) (l : List UInt8) : List Nd × Int × Int :=
  if (lexF f 0 l).2.2 ≠ 0 then ([], (lexF f 0 l).2.2, (lexF f 0 l).2.1)
  else fileQ (lexF f 0 l).1 (filLF (fuelT (lexF f 0 l).1) (lexF f 0 l).1 0 [])
theorem fileE_eq {f : Nat} {l : List UInt8} (h : l.length < f) : fileE f l = fileR l := by unfold fileE fileR; rw [lexF_eq f 0 l h]
def oneE (f : Nat) (l : List UInt8) (rule : Int) : Option Nd × Int × Int :=
  if (lexF f 0 l).2.2 ≠ 0 then (none, (lexF f 0 l).2.2, (lexF f 0 l).2.1)
  else oneQ (lexF f 0 l).1 (oneF (fuelT (lexF f 0 l).1) (lexF f 0 l).1 rule)
theorem oneE_eq {f : Nat} {l : List UInt8} (h : l.length < f) (rule : Int) : oneE f l rule = oneR l rule := by unfold oneE oneR; rw [lexF_eq f 0 l h]
end Go.Proofs.Ytbnbmjdjkadgoaa.X
/-
  For the laws of flow: the document's examples. No program. No condition.
-/
namespace Go.Proofs.Ytbnbmjdjkadgoaa.F
open X (oneE fileE oneE_eq fileE_eq oneR fileR)
set_option linter.unusedVariables false

def t1 : List UInt8 := [123, 114, 101, 116, 117, 114, 110, 59, 109, 40, 41, 59, 125]
def t2 : List UInt8 := [105, 102, 40, 97, 41, 114, 101, 116, 117, 114, 110, 32, 49, 59, 101, 108, 115, 101, 32, 119, 104, 105, 108, 101, 40, 116, 114, 117, 101, 41, 123, 125]
def t3 : List UInt8 := [99, 108, 97, 115, 115, 32, 65, 123, 105, 110, 116, 32, 109, 40, 41, 123, 125, 125]
def b1 : Nd := (oneE 40 t1 2).1.getD zN
def b2 : Nd := (oneE 40 t2 2).1.getD zN
def l3 : List Nd := (fileE 40 t3).1
set_option maxRecDepth 100000
theorem one1 : oneE 40 t1 2 = (some b1, 0, 0) := by kernel_rfl
theorem one2 : oneE 40 t2 2 = (some b2, 0, 0) := by kernel_rfl
theorem file3 : fileE 40 t3 = (l3, 0, 0) := by kernel_rfl
def x1 : Nd := (deadN b1).getD zN
theorem dead1 : deadN b1 = some x1 := by kernel_rfl
theorem kind1 : x1.hd.kind = 8 := by kernel_rfl
theorem ends2 : endsN b2 = false := by kernel_rfl
theorem ends1 : endsN x1 = true := by kernel_rfl
theorem reach1 : reachN b1 = 2 := by kernel_rfl
theorem check3 : filesM 0 [l3] = some (190, 0, 12) := by kernel_rfl
theorem cnt1 : b1.cnt = 4 := by kernel_rfl
theorem cntx : x1.cnt ≤ 4 := by decide +kernel
theorem cnt2 : b2.cnt ≤ 20 := by decide +kernel
theorem cnt3 : cntL l3 ≤ 20 := by decide +kernel
end Go.Proofs.Ytbnbmjdjkadgoaa.F
/-
  For the laws of flow: the document's examples hold. No condition.
-/
namespace Go.Proofs.Ytbnbmjdjkadgoaa.F
open Go.RowKit Go.Shelf
open Go.Proofs.Ytbnbmjdjkadgoaa.X (wp_gen three_row one_any file_any oneE_eq fileE_eq)
set_option linter.unusedSimpArgs false
set_option linter.unusedVariables false

theorem One1 (w : World) : Calls Try.prog 36 #[.string ⟨#[123, 114, 101, 116, 117, 114, 110, 59, 109, 40, 41, 59, 125]⟩, .int .i64 2] w fun e w' => (∃ kv, e = .returned (.tuple #[.agg #[.int .i64 b1.hd.kind, .string (bs b1.hd.text), .string (bs b1.hd.type), .int .i64 b1.hd.n, .int .i64 b1.hd.fr, .int .i64 b1.hd.to_, .int .i64 b1.hd.at_, .int .i64 b1.hd.tat, kv], .agg #[.int .i64 0, .int .i64 0, .int .i64 0]]) ∧ KidsAt w' b1.kids kv) ∧ Below w.heap.size w w' := by
  refine (one_any ⟨#[123, 114, 101, 116, 117, 114, 110, 59, 109, 40, 41, 59, 125]⟩ 2 w (by decide)).mono ?_
  rintro e w' ⟨⟨kv, rfl, hk⟩, hb⟩
  have h : X.oneR (tl ⟨#[123, 114, 101, 116, 117, 114, 110, 59, 109, 40, 41, 59, 125]⟩) 2 = (some b1, 0, 0) := by rw [← oneE_eq (f := 40) (by decide)]; exact one1
  rw [h] at hk
  exact ⟨⟨kv, by rw [h]; rfl, hk⟩, hb⟩
theorem One2 (w : World) : Calls Try.prog 36 #[.string ⟨#[105, 102, 40, 97, 41, 114, 101, 116, 117, 114, 110, 32, 49, 59, 101, 108, 115, 101, 32, 119, 104, 105, 108, 101, 40, 116, 114, 117, 101, 41, 123, 125]⟩, .int .i64 2] w fun e w' => (∃ kv, e = .returned (.tuple #[.agg #[.int .i64 b2.hd.kind, .string (bs b2.hd.text), .string (bs b2.hd.type), .int .i64 b2.hd.n, .int .i64 b2.hd.fr, .int .i64 b2.hd.to_, .int .i64 b2.hd.at_, .int .i64 b2.hd.tat, kv], .agg #[.int .i64 0, .int .i64 0, .int .i64 0]]) ∧ KidsAt w' b2.kids kv) ∧ Below w.heap.size w w' := by
  refine (one_any ⟨#[105, 102, 40, 97, 41, 114, 101, 116, 117, 114, 110, 32, 49, 59, 101, 108, 115, 101, 32, 119, 104, 105, 108, 101, 40, 116, 114, 117, 101, 41, 123, 125]⟩ 2 w (by decide)).mono ?_
  rintro e w' ⟨⟨kv, rfl, hk⟩, hb⟩
  have h : X.oneR (tl ⟨#[105, 102, 40, 97, 41, 114, 101, 116, 117, 114, 110, 32, 49, 59, 101, 108, 115, 101, 32, 119, 104, 105, 108, 101, 40, 116, 114, 117, 101, 41, 123, 125]⟩) 2 = (some b2, 0, 0) := by rw [← oneE_eq (f := 40) (by decide)]; exact one2
  rw [h] at hk
  exact ⟨⟨kv, by rw [h]; rfl, hk⟩, hb⟩
theorem File3 (w : World) : Calls Try.prog 33 #[.string ⟨#[99, 108, 97, 115, 115, 32, 65, 123, 105, 110, 116, 32, 109, 40, 41, 123, 125, 125]⟩] w fun e w' => (∃ v, e = .returned (.tuple #[v, .agg #[.int .i64 0, .int .i64 0, .int .i64 0]]) ∧ KidsAt w' l3 v) ∧ Below w.heap.size w w' := by
  refine (file_any ⟨#[99, 108, 97, 115, 115, 32, 65, 123, 105, 110, 116, 32, 109, 40, 41, 123, 125, 125]⟩ w (by decide)).mono ?_
  rintro e w' ⟨⟨v, ps, rfl, ho, hp⟩, hb⟩
  have h : X.fileR (tl ⟨#[99, 108, 97, 115, 115, 32, 65, 123, 105, 110, 116, 32, 109, 40, 41, 123, 125, 125]⟩) = (l3, 0, 0) := by rw [← fileE_eq (f := 40) (by decide)]; exact file3
  rw [h] at hp
  exact ⟨⟨v, by rw [h], by have := ho.kids; rw [hp] at this; exact this⟩, hb⟩
theorem kids_files {W : World} {g : Nat} {v : Value} {l : List Nd} (hr : RowAt W g 42 #[v]) (hk : KidsAt W l v) : FilesAt W (.slice (some ⟨g, 0, none⟩) 1 1) [l] :=
  ⟨_, 1, rfl, Nat.le_refl _, by unfold maxLen; omega, fun k x hx => by
    have h0 : k = 0 := by have := (List.getElem?_eq_some_iff.1 hx).1; simp at this; omega
    subst h0
    obtain rfl : l = x := by simpa using hx
    exact ⟨g, 0, v, rfl, hr.cell rfl, hk⟩⟩
set_option maxRecDepth 100000 in
set_option maxHeartbeats 16000000 in
theorem awake_any (w : World) : Calls Try.prog 24 #[] w fun e w' => e = .returned (.bool true) ∧ Below w.heap.size w w' := by
  go_enter Try.func24, Try.ntmps24
  go_wp2_with fail
  refine (One1 w).mono ?_
  rintro e w1 ⟨⟨kv, rfl, hk1⟩, b1'⟩
  obtain ⟨a1, c1, rfl, -⟩ := hk1.get
  have KH1 := Lib.hid hk1
  have B1 := Lib.hid b1'
  clear hk1 b1'
  obtain ⟨n1, hn1⟩ : ∃ n, Hid (b1.kids.length = n) := ⟨_, Lib.hid rfl⟩
  rw [hn1.out] at KH1
  rw [hn1.out]
  go_upto_region 2 with fail
  refine wp_gen (fun W => RowAt W w1.heap.size 44 (b1.hd.vals (.slice a1 n1 c1)) ∧ Below w1.heap.size w1 W) ⟨(RowAt.new w1 44 (b1.hd.vals (.slice a1 n1 c1))).alloc _, ((Below.refl _ w1).alloc (Nat.le_refl _) _).alloc (by simp) _⟩ ?_
  rintro W2 ⟨r2, b2'⟩
  have RA := Lib.hid r2
  have hlA := r2.lt
  have KA := Lib.hid (fun U (hU : Below W2.heap.size W2 U) => (KH1.out.below b2').below hU)
  have B2 := Lib.hid (B1.out.trans (b2'.mono B1.out.size))
  clear r2 b2'
  go_wp2_with fail
  refine (One2 W2).mono ?_
  rintro e w3 ⟨⟨kv, rfl, hk3⟩, b3'⟩
  obtain ⟨a3, c3, rfl, -⟩ := hk3.get
  have KH3 := Lib.hid hk3
  have B3 := Lib.hid (B2.out.trans (b3'.mono B2.out.size))
  have b23 := Lib.hid b3'
  clear hk3 b3'
  obtain ⟨n3, hn3⟩ : ∃ n, Hid (b2.kids.length = n) := ⟨_, Lib.hid rfl⟩
  rw [hn3.out] at KH3
  rw [hn3.out]
  go_upto_region 3 with fail
  refine wp_gen (fun W => RowAt W w3.heap.size 44 (b2.hd.vals (.slice a3 n3 c3)) ∧ Below w3.heap.size w3 W) ⟨(RowAt.new w3 44 (b2.hd.vals (.slice a3 n3 c3))).alloc _, ((Below.refl _ w3).alloc (Nat.le_refl _) _).alloc (by simp) _⟩ ?_
  rintro W4 ⟨r4, b4'⟩
  have RB := Lib.hid r4
  have KB := Lib.hid (fun U (hU : Below W4.heap.size W4 U) => (KH3.out.below b4').below hU)
  have B4 := Lib.hid (B3.out.trans (b4'.mono B3.out.size))
  have b24 := Lib.hid (b23.out.trans (b4'.mono b23.out.size))
  clear r4 b4'
  go_wp2_with fail
  refine (File3 W4).mono ?_
  rintro e w5 ⟨⟨v5, rfl, hk5⟩, b5'⟩
  obtain ⟨a5, c5, rfl, -⟩ := hk5.get
  have KH5 := Lib.hid hk5
  have B5 := Lib.hid (B4.out.trans (b5'.mono B4.out.size))
  have b45 := Lib.hid b5'
  clear hk5 b5'
  obtain ⟨n5, hn5⟩ : ∃ n, Hid (l3.length = n) := ⟨_, Lib.hid rfl⟩
  rw [hn5.out] at KH5
  rw [hn5.out]
  go_upto_region 4 with fail
  refine wp_gen (fun W => Below w5.heap.size w5 W) ((Below.refl _ w5).alloc (Nat.le_refl _) _) ?_
  intro W6 b6'
  have KC := Lib.hid (fun U (hU : Below W6.heap.size W6 U) => (KH5.out.below b6').below hU)
  have B6 := Lib.hid (B5.out.trans (b6'.mono B5.out.size))
  have b46 := Lib.hid (b45.out.trans (b6'.mono b45.out.size))
  have b26 := Lib.hid (b24.out.trans (b46.out.mono b24.out.size))
  clear b6'
  have hdc : Hid (∀ x, deadN b1 = some x → x.cnt ≤ 2000000) := Lib.hid (fun x hx => by rw [dead1] at hx; obtain rfl := Option.some.inj hx; exact Nat.le_trans cntx (by omega))
  have call := Lib.hid (Dead_any b1 (.slice a1 n1 c1) W6 (by rw [cnt1]; omega) (KA.out W6 b26.out) hdc.out)
  have CA := Lib.hid (fun U (hU : Below W2.heap.size W2 U) => (show Cells U w1.heap.size 0 b1.hd (.slice a1 n1 c1) from Cells.row (RA.out.later hU)))
  obtain ⟨d0, d1, d2, d3, d4, d5, d6, d7, d8⟩ := CA.out W6 b26.out
  simp only [Nat.zero_add] at d1 d2 d3 d4 d5 d6 d7 d8
  go_wp2_with fail
  refine call.out.mono ?_
  rintro e w7 ⟨⟨kx, rfl, hkx⟩, b7'⟩
  rw [dead1] at hkx ⊢
  have ex : (some x1).getD zN = x1 := rfl
  rw [ex] at hkx ⊢
  obtain ⟨ax, cx, rfl, -⟩ := hkx.get
  have KHX := Lib.hid hkx
  have B7 := Lib.hid (B6.out.trans (b7'.mono B6.out.size))
  have b67 := Lib.hid b7'
  have b27 := Lib.hid (b26.out.trans (b7'.mono b26.out.size))
  clear hkx b7' d0 d1 d2 d3 d4 d5 d6 d7 d8 call ex
  obtain ⟨nx, hnx⟩ : ∃ n, Hid (x1.kids.length = n) := ⟨_, Lib.hid rfl⟩
  rw [hnx.out] at KHX
  rw [hnx.out]
  go_upto_region 5 with fail
  refine wp_gen (fun W => RowAt W w7.heap.size 44 (x1.hd.vals (.slice ax nx cx)) ∧ Below w7.heap.size w7 W) ⟨RowAt.new w7 44 (x1.hd.vals (.slice ax nx cx)), (Below.refl _ w7).alloc (Nat.le_refl _) _⟩ ?_
  rintro W8 ⟨r8, b8'⟩
  have RX := Lib.hid r8
  have KX := Lib.hid (fun U (hU : Below W8.heap.size W8 U) => (KHX.out.below b8').below hU)
  have B8 := Lib.hid (B7.out.trans (b8'.mono B7.out.size))
  have b68 := Lib.hid (b67.out.trans (b8'.mono b67.out.size))
  have b28 := Lib.hid (b27.out.trans (b8'.mono b27.out.size))
  clear r8 b8'
  obtain ⟨W9, hW9⟩ : ∃ W9, Hid (W8.alloc (.cells #[.slice a5 n5 c5] 42) = W9) := ⟨_, Lib.hid rfl⟩
  have b89 : Hid (Below W8.heap.size W8 W9) := by rw [← hW9.out]; exact Lib.hid ((Below.refl _ W8).alloc (Nat.le_refl _) _)
  have hF : Hid (FilesAt W9 (.slice (some ⟨W8.heap.size, 0, none⟩) 1 1) [l3]) := Lib.hid (by
    refine kids_files (v := .slice a5 n5 c5) (by rw [← hW9.out]; exact RowAt.new W8 42 _) ?_
    exact KC.out W9 (b68.out.trans (b89.out.mono b68.out.size)))
  have call := Lib.hid (Check_any _ [l3] W9 (fun l hl => by obtain rfl := List.mem_singleton.1 hl; exact Nat.le_trans cnt3 (by omega)) (by simp) hF.out)
  rw [check3] at call
  go_wp2_with fail
  rw [hW9.out]
  refine call.out.mono ?_
  rintro e w10 ⟨rfl, b10⟩
  have eR : resM (some (190, 0, 12)) = .agg #[.int .i64 190, .int .i64 0, .int .i64 12] := rfl
  rw [eR]
  have b8t := Lib.hid (b89.out.trans (b10.mono b89.out.size))
  clear b10 call eR hF
  go_upto_region 6 with fail
  refine wp_gen (fun W => RowAt W w10.heap.size 34 #[.int .i64 190, .int .i64 0, .int .i64 12] ∧ Below w10.heap.size w10 W) ⟨RowAt.new w10 34 _, (Below.refl _ w10).alloc (Nat.le_refl _) _⟩ ?_
  rintro W11 ⟨r11, b11⟩
  have RM := Lib.hid r11
  have bt := Lib.hid (b8t.out.trans (b11.mono b8t.out.size))
  have B11 := Lib.hid (B8.out.trans (bt.out.mono B8.out.size))
  clear r11 b11
  have CX := Lib.hid (fun U (hU : Below W8.heap.size W8 U) => (show Cells U w7.heap.size 0 x1.hd (.slice ax nx cx) from Cells.row (RX.out.later hU)))
  have CB := Lib.hid (fun U (hU : Below W4.heap.size W4 U) => (show Cells U w3.heap.size 0 b2.hd (.slice a3 n3 c3) from Cells.row (RB.out.later hU)))
  have b48 := Lib.hid (b46.out.trans (b68.out.mono b46.out.size))
  have b4t := Lib.hid (b48.out.trans (bt.out.mono b48.out.size))
  have b2t := Lib.hid (b28.out.trans (bt.out.mono b28.out.size))
  have k0 := (CX.out W11 bt.out).c0
  rw [kind1] at k0
  obtain ⟨d0, d1, d2, d3, d4, d5, d6, d7, d8⟩ := CB.out W11 b4t.out
  simp only [Nat.zero_add] at d1 d2 d3 d4 d5 d6 d7 d8
  have call := Lib.hid (Ends_any b2 (.slice a3 n3 c3) W11 (Nat.le_trans cnt2 (by omega)) (KB.out W11 b4t.out))
  rw [ends2] at call
  go_wp2_with fail
  refine call.out.mono ?_
  rintro e w12 ⟨rfl, b12⟩
  have bu := Lib.hid (bt.out.trans (b12.mono bt.out.size))
  have RM2 := Lib.hid (RM.out.later b12)
  have B12 := Lib.hid (B11.out.trans (b12.mono B11.out.size))
  have b2u := Lib.hid (b2t.out.trans (b12.mono b2t.out.size))
  clear b12 d0 d1 d2 d3 d4 d5 d6 d7 d8 k0 call
  obtain ⟨d0, d1, d2, d3, d4, d5, d6, d7, d8⟩ := CX.out w12 bu.out
  simp only [Nat.zero_add] at d1 d2 d3 d4 d5 d6 d7 d8
  have call := Lib.hid (Ends_any x1 (.slice ax nx cx) w12 (Nat.le_trans cntx (by omega)) (KX.out w12 bu.out))
  rw [ends1] at call
  go_wp2_with fail
  refine call.out.mono ?_
  rintro e w13 ⟨rfl, b13⟩
  have m0 : w13.cell? ⟨w10.heap.size, 0, none⟩ = some (.int .i64 190) := (RM2.out.later b13).cell rfl
  have m2 : w13.cell? ⟨w10.heap.size, 2, none⟩ = some (.int .i64 12) := (RM2.out.later b13).cell rfl
  have B13 := Lib.hid (B12.out.trans (b13.mono B12.out.size))
  have b2v := Lib.hid (b2u.out.trans (b13.mono b2u.out.size))
  clear b13 d0 d1 d2 d3 d4 d5 d6 d7 d8 call
  obtain ⟨d0, d1, d2, d3, d4, d5, d6, d7, d8⟩ := CA.out w13 b2v.out
  simp only [Nat.zero_add] at d1 d2 d3 d4 d5 d6 d7 d8
  have call := Lib.hid (Reached_any b1 (.slice a1 n1 c1) w13 (by rw [cnt1]; omega) (KA.out w13 b2v.out))
  rw [reach1] at call
  go_wp2_with fail
  refine call.out.mono ?_
  rintro e w14 ⟨rfl, b14⟩
  have B14 := Lib.hid (B13.out.trans (b14.mono B13.out.size))
  clear b14 d0 d1 d2 d3 d4 d5 d6 d7 d8 call m0 m2
  go_wp2_with fail
  go_ret
  exact ⟨rfl, B14.out⟩
end Go.Proofs.Ytbnbmjdjkadgoaa.F
