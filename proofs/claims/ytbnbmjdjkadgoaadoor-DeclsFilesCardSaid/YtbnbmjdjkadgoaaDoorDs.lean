/-
  For the laws of decls: what the parser gives is small; the document's example. Condition: the table of the powers of ten holds them.
-/
import Derived.Test.YtbnbmjdjkadgoaaDoorDr
import Derived.Test.YtbnbmjdjkadgoaaDoorXPt
namespace Go.Proofs.YtbnbmjdjkadgoaaDoor.D
open Go.RowKit Go.Shelf Go.Maps Go.WideMaps
set_option linter.unusedSimpArgs false
set_option linter.unusedVariables false
theorem file_cnt2 (l : B8) : cntL (X.fileR l).1 ≤ l.length + 1 := by
  unfold X.fileR
  by_cases h0 : (X.lexR 0 l).2.2 = 0
  · rw [if_neg (by simpa using h0)]
    have hG := X.lex_good l.length 0 l (Nat.le_refl _) h0
    have hok := (X.filL_ok (X.LexOk.good hG) (X.fuelT (X.lexR 0 l).1) 0 [] hG.pos).2
    have hlen := hG.len
    generalize X.filLF (X.fuelT (X.lexR 0 l).1) (X.lexR 0 l).1 0 [] = q at hok
    unfold X.fileQ
    match q with
    | none => simp [cntL]
    | some (.bad p c) => simp [cntL]
    | some (.ok l m) =>
      obtain ⟨k1, k2, k3⟩ := hok l m rfl
      simp only
      cases l.find? (fun n => decide (200 < n.ht)) with
      | some n => simp [cntL]
      | none => simp only [cntL] at k3 ⊢; omega
  · rw [if_pos h0]
    simp [cntL]
/-- Small, with short names. -/
def Pn (t : Nd) : Prop := ∃ T, X.AllN T t ∧ (∀ tk ∈ T, tk.text.length ≤ 1500) ∧ t.cnt ≤ 2000
theorem Pn.ok (t : Nd) (h : Pn t) : t.hd.text.length ≤ 10000000 ∧ t.kids.length ≤ 1000000 ∧ t.cnt ≤ 900000 ∧ ∀ k ∈ t.kids, Pn k := by
  obtain ⟨T, h1, h2, h3⟩ := h
  have hc := cnt_kids t
  have hl := cntL_len t.kids
  refine ⟨?_, by omega, by omega, fun k hk => ⟨T, X.an_mem (X.an_kids h1) hk, h2, ?_⟩⟩
  · rcases (X.an_hd h1).1 with h | ⟨tk, m, h⟩
    · rw [h]; exact Nat.zero_le _
    · rw [h]; have := h2 tk m; omega
  · have := cntL_mem hk; omega
theorem file_P {s : B8} (hs : s.length ≤ 1500) : ∀ n ∈ (X.fileR s).1, Pn n := fun n hn => by
  have hc := file_cnt2 s
  have hm := cntL_mem hn
  rcases X.file_tok s with ⟨_, h⟩ | ⟨h0, h, _⟩
  · rw [h] at hn; cases hn
  · have hl := X.file_len s
    rw [if_pos h0] at hl
    exact ⟨_, X.an_mem h hn, fun tk htk => Nat.le_trans (hl tk htk) hs, by omega⟩
theorem file_class (s : B8) : ∀ n ∈ (X.fileR s).1, kd n = 1 := fun n hn => by
  rcases X.file_tok s with ⟨_, h⟩ | ⟨h0, _, h⟩
  · rw [h] at hn; cases hn
  · exact h n hn
theorem files_P {ss : List B8} (h : okTexts ss = true) : ∀ l ∈ filesR ss, ∀ n ∈ l, Pn n := fun l hl n hn => by
  unfold okTexts at h
  rw [Bool.and_eq_true, List.all_eq_true] at h
  obtain ⟨s, hs, rfl⟩ := List.mem_map.1 hl
  exact file_P (of_decide_eq_true (h.2 s hs)) n hn
theorem files_total {ss : List B8} (h : okTexts ss = true) : total (filesR ss) ≤ 10000 := by
  unfold okTexts at h
  rw [Bool.and_eq_true, List.all_eq_true] at h
  have h6 := of_decide_eq_true h.1
  have : ∀ l : List B8, (∀ s ∈ l, s.length ≤ 1500) → total (filesR l) ≤ l.length * 1501 := by
    intro l
    induction l with
    | nil => intro _; exact Nat.le_refl _
    | cons s l ih =>
      intro hl
      have h1 := ih (fun x hx => hl x (List.mem_cons_of_mem _ hx))
      have h2 := file_cnt2 s
      have h3 := hl s (by simp)
      unfold filesR at h1 ⊢
      rw [List.map_cons, total_cons, List.length_cons]
      omega
  have h1 := this ss (fun s hs => of_decide_eq_true (h.2 s hs))
  omega
def t0 : B8 := [99, 108, 97, 115, 115, 32, 65, 123, 105, 110, 116, 32, 102, 59, 105, 110, 116, 32, 109, 40, 105, 110, 116, 32, 97, 41, 123, 105, 110, 116, 32, 98, 61, 97, 59, 114, 101, 116, 117, 114, 110, 32, 98, 59, 125, 125]
def n0 : List Nd := (X.fileE 60 t0).1
theorem file0 : X.fileE 60 t0 = (n0, 0, 0) := by kernel_rfl
theorem file0R : X.fileR t0 = (n0, 0, 0) := by rw [← X.fileE_eq (f := 60) (by decide)]; exact file0
theorem dgt_small {n : Nat} (h : n < 10) : dgt n = [UInt8.ofNat (48 + n)] := by unfold dgt; rw [Go.Lib.decDigits, dif_pos h]
def idA : B8 := [65, 46, 109, 40, 41]
def E0 : List En := [⟨1, [65], [65], [], [], false, [], 0, 6⟩, ⟨2, [65, 46, 102], [102], [65], [105, 110, 116], false, [], 0, 12⟩, ⟨3, idA, [109], [65], [105, 110, 116], false, [[105, 110, 116]], 0, 18⟩,
  ⟨4, idL idA 0, [97], idA, [105, 110, 116], false, [], 0, 24⟩, ⟨4, idL idA 1, [98], idA, [105, 110, 116], false, [], 0, 31⟩]
theorem tab0 : table [n0] = (E0, none) := by kernel_rfl
theorem tab00 : (table [n0, n0]).2 = some ⟨1, [65], [65], [], [], false, [], 1, 6⟩ := by kernel_rfl
theorem find0 : findE E0 [65, 46, 109, 40, 41, 35, 49] = some ⟨4, idL idA 1, [98], idA, [105, 110, 116], false, [], 0, 31⟩ := by
  unfold findE E0
  simp only [idL, dgt_small (show 0 < 10 by omega), dgt_small (show 1 < 10 by omega)]
  decide +kernel
theorem of0 : (ofE E0 [65]).length = 2 := by
  unfold ofE E0
  simp only [idL, dgt_small (show 0 < 10 by omega), dgt_small (show 1 < 10 by omega)]
  decide +kernel
theorem n0_P : ∀ l ∈ [n0], ∀ n ∈ l, Pn n := fun l hl n hn => by
  obtain rfl := List.mem_singleton.1 hl
  refine file_P (s := t0) (by decide) n ?_
  rw [file0R]
  exact hn
theorem n0_cnt : total [n0] ≤ 100 := by
  have this : cntL n0 ≤ t0.length + 1 := by
    have h := file_cnt2 t0
    rw [file0R] at h
    exact h
  rw [total_cons]
  have e : t0.length = 46 := rfl
  show cntL n0 + 0 ≤ _
  omega
theorem File0 (w : World) : Calls Tryd.prog 16 #[.string ⟨#[99, 108, 97, 115, 115, 32, 65, 123, 105, 110, 116, 32, 102, 59, 105, 110, 116, 32, 109, 40, 105, 110, 116, 32, 97, 41, 123, 105, 110, 116, 32, 98, 61, 97, 59, 114, 101, 116, 117, 114, 110, 32, 98, 59, 125, 125]⟩] w fun e w' => (∃ a c, e = .returned (.tuple #[.slice a n0.length c, .agg #[.int .i64 0, .int .i64 0, .int .i64 0]]) ∧ KidsAt w' n0 (.slice a n0.length c)) ∧ Below w.heap.size w w' := by
  refine (X.file_any ⟨#[99, 108, 97, 115, 115, 32, 65, 123, 105, 110, 116, 32, 102, 59, 105, 110, 116, 32, 109, 40, 105, 110, 116, 32, 97, 41, 123, 105, 110, 116, 32, 98, 61, 97, 59, 114, 101, 116, 117, 114, 110, 32, 98, 59, 125, 125]⟩ w (by decide)).mono ?_
  rintro e w' ⟨⟨v, ps, rfl, ho, hp⟩, hb⟩
  have h : X.fileR (tl ⟨#[99, 108, 97, 115, 115, 32, 65, 123, 105, 110, 116, 32, 102, 59, 105, 110, 116, 32, 109, 40, 105, 110, 116, 32, 97, 41, 123, 105, 110, 116, 32, 98, 61, 97, 59, 114, 101, 116, 117, 114, 110, 32, 98, 59, 125, 125]⟩) = (n0, 0, 0) := file0R
  rw [h] at hp
  have hk : KidsAt w' n0 v := by obtain ⟨F, hF⟩ := ho.sup; have := hF.kids; rw [hp] at this; exact this
  obtain ⟨a, c, rfl, _⟩ := hk.get
  exact ⟨⟨a, c, by rw [h], hk⟩, hb⟩
theorem files_one {W : World} {g : Nat} {v : Value} {l : List Nd} (hr : RowAt W g 42 #[v]) (hk : KidsAt W l v) : FilesAt W (.slice (some ⟨g, 0, none⟩) 1 1) [l] :=
  ⟨_, 1, rfl, Nat.le_refl _, by unfold maxLen; omega, fun k x hx => by
    have h0 : k = 0 := by have := (List.getElem?_eq_some_iff.1 hx).1; simp at this; omega
    subst h0
    obtain rfl : l = x := by simpa using hx
    exact ⟨g, 0, v, rfl, hr.cell rfl, hk⟩⟩
theorem files_two {W : World} {g : Nat} {v : Value} {l : List Nd} (hr : RowAt W g 42 #[v, v]) (hk : KidsAt W l v) : FilesAt W (.slice (some ⟨g, 0, none⟩) 2 2) [l, l] :=
  ⟨_, 2, rfl, Nat.le_refl _, by unfold maxLen; omega, fun k x hx => by
    have h0 : k = 0 ∨ k = 1 := by have := (List.getElem?_eq_some_iff.1 hx).1; simp at this; omega
    rcases h0 with rfl | rfl
    · obtain rfl : l = x := by simpa using hx
      exact ⟨g, 0, v, rfl, hr.cell rfl, hk⟩
    · obtain rfl : l = x := by simpa using hx
      exact ⟨g, 0, v, rfl, hr.cell rfl, hk⟩⟩
theorem Met0 (w : World) : Calls Tryd.prog 19 #[.string ⟨#[65]⟩, .string ⟨#[109]⟩] w fun e w' => e = .returned (.string ⟨#[65, 46, 109, 40, 41]⟩) ∧ w' = w := by
  have h := Method_any ⟨#[65]⟩ ⟨#[109]⟩ w (by decide)
  rw [show (⟨#[65]⟩ ++ ⟨#[46]⟩ ++ ⟨#[109]⟩ ++ ⟨#[40, 41]⟩ : ByteArray) = ⟨#[65, 46, 109, 40, 41]⟩ by kernel_rfl] at h
  exact h
theorem Fld0 (w : World) : Calls Tryd.prog 20 #[.string ⟨#[65]⟩, .string ⟨#[102]⟩] w fun e w' => e = .returned (.string ⟨#[65, 46, 102]⟩) ∧ w' = w := by
  have h := Field_any ⟨#[65]⟩ ⟨#[102]⟩ w (by decide)
  rw [show (⟨#[65]⟩ ++ ⟨#[46]⟩ ++ ⟨#[102]⟩ : ByteArray) = ⟨#[65, 46, 102]⟩ by kernel_rfl] at h
  exact h
theorem Loc0 (w : World) (hp : Pow w) : Calls Tryd.prog 18 #[.string ⟨#[65, 46, 109, 40, 41]⟩, .int .i64 1] w fun e w' => e = .returned (.string ⟨#[65, 46, 109, 40, 41, 35, 49]⟩) ∧ Below w.heap.size w w' := by
  have h := Local_any ⟨#[65, 46, 109, 40, 41]⟩ 1 (by decide) (by omega) w hp
  rw [dgt_small (show 1 < 10 by omega), show (⟨#[65, 46, 109, 40, 41]⟩ ++ ⟨#[35]⟩ ++ bs [UInt8.ofNat (48 + 1)] : ByteArray) = ⟨#[65, 46, 109, 40, 41, 35, 49]⟩ by kernel_rfl] at h
  exact h
theorem Cls0 (w : World) : Calls Tryd.prog 17 #[.string ⟨#[65]⟩] w fun e w' => e = .returned (.string ⟨#[65]⟩) ∧ w' = w := Class_any ⟨#[65]⟩ w
theorem E0_params : ∀ e ∈ E0, e.params.length ≤ 100000000 := by
  have : ∀ e ∈ E0, e.params.length ≤ 1 := by
    unfold E0
    intro e he
    simp only [List.mem_cons, List.not_mem_nil, or_false] at he
    rcases he with rfl | rfl | rfl | rfl | rfl <;> simp
  exact fun e he => Nat.le_trans (this e he) (by omega)
theorem Find0 (w : World) (v : Value) (h : EnsAt w v E0) : Calls Tryd.prog 10 #[v, .string ⟨#[65, 46, 109, 40, 41, 35, 49]⟩] w fun e w' => (∃ a c, e = .returned (.tuple #[.agg #[.int .i64 4, .string (bs (idL idA 1)), .string ⟨#[98]⟩, .string ⟨#[65, 46, 109, 40, 41]⟩, .string ⟨#[105, 110, 116]⟩, .bool false, .slice a 0 c, .int .i64 0, .int .i64 31], .bool true])) ∧ Below w.heap.size w w' := by
  refine (Find_any w v E0 h E0_params ⟨#[65, 46, 109, 40, 41, 35, 49]⟩).mono ?_
  rintro e w' ⟨hf, hb⟩
  rw [show findE E0 (tl ⟨#[65, 46, 109, 40, 41, 35, 49]⟩) = some ⟨4, idL idA 1, [98], idA, [105, 110, 116], false, [], 0, 31⟩ from find0] at hf
  obtain ⟨pv, rfl, hs⟩ := hf
  obtain ⟨a, c, rfl, _⟩ := hs
  exact ⟨⟨a, c, rfl⟩, hb⟩
theorem Of0 (w : World) (v : Value) (h : EnsAt w v E0) : Calls Tryd.prog 14 #[v, .string ⟨#[65]⟩] w fun e w' => (∃ a c, e = .returned (.slice a 2 c)) ∧ Below w.heap.size w w' := by
  refine (Of_any w v E0 h E0_params (by decide) ⟨#[65]⟩).mono ?_
  rintro e w' ⟨⟨v', ps, rfl, ho, hp⟩, hb⟩
  obtain ⟨a, c, rfl, _⟩ := ho.at_
  refine ⟨⟨a, c, ?_⟩, hb⟩
  rw [hp, show (ofE E0 (tl ⟨#[65]⟩)).length = 2 from of0]
set_option maxRecDepth 100000 in
set_option maxHeartbeats 16000000 in
theorem awake_any (w : World) (hp : Pow w) : Calls Tryd.prog 6 #[] w fun e w' => e = .returned (.bool true) ∧ Below w.heap.size w w' := by
  have HPw := Lib.hid hp
  clear hp
  go_enter Tryd.func6, Tryd.ntmps6
  go_wp2_with fail
  refine (File0 w).mono ?_
  rintro e w1 ⟨⟨a, c, rfl, hk⟩, b1⟩
  obtain ⟨nl, hnl⟩ : ∃ n, Hid (n0.length = n) := ⟨_, Lib.hid rfl⟩
  rw [hnl.out] at hk ⊢
  have KH := Lib.hid hk
  have B1 := Lib.hid b1
  clear hk b1
  go_upto_region 2 with fail
  refine X.wp_gen (fun V => Below w1.heap.size w1 V) ((Below.refl _ _).alloc (Nat.le_refl _) _) ?_
  intro V bv
  have KV := Lib.hid (KH.out.below bv)
  have BV := Lib.hid (B1.out.trans (bv.mono B1.out.size))
  clear bv
  have RF : RowAt (V.alloc (.cells #[.slice a nl c] 42)) V.heap.size 42 #[.slice a nl c] := RowAt.new V 42 _
  have bA : Below V.heap.size V (V.alloc (.cells #[.slice a nl c] 42)) := (Below.refl _ V).alloc (Nat.le_refl _) _
  have CT := Lib.hid (Table_any [n0] (.slice (some ⟨V.heap.size, 0, none⟩) 1 1) (V.alloc (.cells #[.slice a nl c] 42)) (files_one RF (KV.out.below bA)) Pn Pn.ok n0_P (Nat.le_trans n0_cnt (by omega)) (pow_below HPw.out (BV.out.trans (bA.mono BV.out.size))))
  rw [tab0] at CT
  have BA := Lib.hid (BV.out.trans (bA.mono BV.out.size))
  clear RF bA
  go_wp2_with fail
  refine CT.out.mono ?_
  rintro e w2 ⟨⟨v2, ps2, rfl, own2, hps2⟩, b2⟩
  have hps2' : ps2.map (·.1) = E0 := hps2
  have HE2 : Hid (EnsAt w2 v2 E0) := Lib.hid (by rw [← hps2']; exact own2.at_)
  obtain ⟨va, vc, hv2, -⟩ : ∃ a c, v2 = .slice a E0.length c ∧ True := by obtain ⟨a, c, h, _⟩ := HE2.out; exact ⟨a, c, h, trivial⟩
  rw [show E0.length = 5 from rfl] at hv2
  subst hv2
  have B2 := Lib.hid (BA.out.trans (b2.mono BA.out.size))
  have KV2 := Lib.hid ((KV.out.below ((Below.refl _ V).alloc (Nat.le_refl _) (.cells #[.slice a nl c] 42))).below b2)
  clear own2 hps2 hps2' b2
  go_upto_region 3 with fail
  refine X.wp_gen (fun V => RowAt V w2.heap.size 30 #[.int .i64 0, .int .i64 0, .int .i64 0] ∧ Below w2.heap.size w2 V) ⟨RowAt.new w2 30 _, (Below.refl _ _).alloc (Nat.le_refl _) _⟩ ?_
  rintro V3 ⟨r3, b3⟩
  have R3 := Lib.hid r3
  have HE3 := Lib.hid (HE2.out.below b3)
  have KV3 := Lib.hid (KV2.out.below b3)
  have B3 := Lib.hid (B2.out.trans (b3.mono B2.out.size))
  clear r3 b3
  have CF := Lib.hid (Find0 V3 _ HE3.out)
  go_wp2_with fail
  refine CF.out.mono ?_
  rintro e w4 ⟨⟨fa, fc, rfl⟩, b4⟩
  have R4 := Lib.hid (R3.out.later b4)
  have HE4 := Lib.hid (HE3.out.below b4)
  have KV4 := Lib.hid (KV3.out.below b4)
  have B4 := Lib.hid (B3.out.trans (b4.mono B3.out.size))
  clear b4
  go_upto_region 4 with fail
  refine X.wp_gen (fun V => RowAt V w4.heap.size 34 #[.int .i64 4, .string (bs (idL idA 1)), .string ⟨#[98]⟩, .string ⟨#[65, 46, 109, 40, 41]⟩, .string ⟨#[105, 110, 116]⟩, .bool false, .slice fa 0 fc, .int .i64 0, .int .i64 31] ∧ Below w4.heap.size w4 V) ⟨RowAt.new w4 34 _, (Below.refl _ _).alloc (Nat.le_refl _) _⟩ ?_
  rintro V5 ⟨r5, b5⟩
  have Q5 := Lib.hid r5
  have R5 := Lib.hid (R4.out.later b5)
  have HE5 := Lib.hid (HE4.out.below b5)
  have KV5 := Lib.hid (KV4.out.below b5)
  have B5 := Lib.hid (B4.out.trans (b5.mono B4.out.size))
  clear r5 b5
  have RF : RowAt (V5.alloc (.cells #[.slice a nl c, .slice a nl c] 42)) V5.heap.size 42 #[.slice a nl c, .slice a nl c] := RowAt.new V5 42 _
  have bA : Below V5.heap.size V5 (V5.alloc (.cells #[.slice a nl c, .slice a nl c] 42)) := (Below.refl _ V5).alloc (Nat.le_refl _) _
  have CT2 := Lib.hid (Table_any [n0, n0] (.slice (some ⟨V5.heap.size, 0, none⟩) 2 2) (V5.alloc (.cells #[.slice a nl c, .slice a nl c] 42)) (files_two RF (KV5.out.below bA)) Pn Pn.ok (fun l hl n hn => n0_P l (by simpa using hl) n hn) (by rw [total_cons]; have h1 := n0_cnt; have h2 := total_cons n0 []; omega) (pow_below HPw.out (B5.out.trans (bA.mono B5.out.size))))
  have B5A := Lib.hid (B5.out.trans (bA.mono B5.out.size))
  have R5A := Lib.hid (R5.out.later bA)
  have Q5A := Lib.hid (Q5.out.later bA)
  have HE5A := Lib.hid (HE5.out.below bA)
  clear RF bA
  go_wp2_with fail
  refine CT2.out.mono ?_
  rintro e w6 ⟨ht6, b6⟩
  unfold TableIs at ht6
  rw [tab00] at ht6
  obtain rfl := ht6
  have R6 := Lib.hid (R5A.out.later b6)
  have Q6 := Lib.hid (Q5A.out.later b6)
  have HE6 := Lib.hid (HE5A.out.below b6)
  have B6 := Lib.hid (B5A.out.trans (b6.mono B5A.out.size))
  clear b6
  go_upto_region 5 with fail
  refine X.wp_gen (fun V => RowAt V w6.heap.size 30 #[.int .i64 150, .int .i64 1, .int .i64 6] ∧ Below w6.heap.size w6 V) ⟨RowAt.new w6 30 _, (Below.refl _ _).alloc (Nat.le_refl _) _⟩ ?_
  rintro V7 ⟨r7, b7⟩
  have S7 := Lib.hid r7
  have R7 := R6.out.later b7
  have Q7 := Q6.out.later b7
  have HE7 := Lib.hid (HE6.out.below b7)
  have B7 := Lib.hid (B6.out.trans (b7.mono B6.out.size))
  have q0 : V7.cell? ⟨w2.heap.size, 0, none⟩ = some (.int .i64 0) := R7.cell rfl
  have q2 : V7.cell? ⟨w4.heap.size, 2, none⟩ = some (.string ⟨#[98]⟩) := Q7.cell rfl
  have q3 : V7.cell? ⟨w4.heap.size, 3, none⟩ = some (.string ⟨#[65, 46, 109, 40, 41]⟩) := Q7.cell rfl
  clear r7 b7 R7 Q7
  have CO := Lib.hid (Of0 V7 _ HE7.out)
  go_wp2_with fail
  refine CO.out.mono ?_
  rintro e w8 ⟨⟨oa, oc, rfl⟩, b8⟩
  have S8 := S7.out.later b8
  have B8 := Lib.hid (B7.out.trans (b8.mono B7.out.size))
  have s0 : w8.cell? ⟨w6.heap.size, 0, none⟩ = some (.int .i64 150) := S8.cell rfl
  have s1 : w8.cell? ⟨w6.heap.size, 1, none⟩ = some (.int .i64 1) := S8.cell rfl
  clear S8 b8 q0 q2 q3
  go_wp2_with fail
  refine (Cls0 w8).mono ?_
  rintro e w' ⟨rfl, hw⟩
  have hw := hw.symm
  subst hw
  go_wp2_with fail
  refine (Met0 w8).mono ?_
  rintro e w' ⟨rfl, hw⟩
  have hw := hw.symm
  subst hw
  have CL := Lib.hid (Loc0 w8 (pow_below HPw.out B8.out))
  go_wp2_with fail
  refine CL.out.mono ?_
  rintro e w9 ⟨rfl, b9⟩
  have B9 := Lib.hid (B8.out.trans (b9.mono B8.out.size))
  clear b9
  go_wp2_with fail
  refine (Fld0 w9).mono ?_
  rintro e w' ⟨rfl, hw⟩
  have hw := hw.symm
  subst hw
  go_wp2_with fail
  go_ret
  exact ⟨rfl, B9.out⟩
end Go.Proofs.YtbnbmjdjkadgoaaDoor.D
