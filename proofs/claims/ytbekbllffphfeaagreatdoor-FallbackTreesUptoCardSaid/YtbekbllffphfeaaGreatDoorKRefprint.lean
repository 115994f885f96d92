/-
  For the laws of marker: parts printed, by the reference. Condition: at most 1,000 parts of texts of at most 100,000 bytes each, marks of at most 100,000.
-/
import Derived.Test.YtbekbllffphfeaaGreatDoorKRefmark
namespace Go.Proofs.YtbekbllffphfeaaGreatDoor.K
open Go.RowKit Go.Shelf
set_option linter.unusedSimpArgs false

/-- A text, and the mark behind it. -/
def secL (t : By) (c : UInt8) (n : Nat) (x : By) : By := whole t ++ mk c n (cutOf t) x
theorem secL_le (t : By) (c : UInt8) (n : Nat) (x : By) : (secL t c n x).length ≤ t.length + n + x.length + 4 := by
  have := whole_le t
  have := mk_le c n (cutOf t) x
  unfold secL
  rw [List.length_append]; omega
set_option maxRecDepth 100000 in
set_option maxHeartbeats 8000000 in
theorem refsection_same (t : By) (ht : t.length ≤ 100000) (c : UInt8) (n : Nat) (hn : n ≤ 100000) (x : By) (hx : x.length ≤ 100) (w : World) : Calls Tryz.prog 61 #[.string (bs t), .string (bs [c]), .int .i64 n, .string (bs x)] w fun e w' => e = .returned (.string (bs (secL t c n x))) ∧ w' = w := by
  obtain ⟨t2, ht2⟩ : ∃ t2, Hid (wholeS (bs t) = bs t2 ∧ whole t = t2) := ⟨_, Lib.hid ⟨by rw [wholeS_bs, tl_bs], rfl⟩⟩
  have htl : t2.length ≤ 100001 := by rw [← ht2.out.2]; have := whole_le t; omega
  have hcd : cutOf t = !decide (t2 = t) := by unfold cutOf; rw [ht2.out.2]; simp
  obtain ⟨m, hm⟩ : ∃ m, Hid (mk c n (cutOf t) x = m) := ⟨_, Lib.hid rfl⟩
  have hml : m.length ≤ 100103 := by rw [← hm.out]; have := mk_le c n (cutOf t) x; omega
  have hfin : Hid (secL t c n x = t2 ++ m) := Lib.hid (by unfold secL; rw [ht2.out.2, hm.out])
  rw [hcd] at hm
  rw [hfin.out]
  obtain ⟨d, hd⟩ : ∃ d, Hid (decide (t2 = t) = d) := ⟨_, Lib.hid rfl⟩
  rw [hd.out] at hm
  have hdt : (t2 == t) = d := by rw [← hd.out, Bool.eq_iff_iff]; simp
  have hdt2 : ((bs t2).toList == (bs t).toList) = d := by rw [Lib.toList_data, Lib.toList_data]; exact hdt
  have Hdt := Lib.hid hdt
  clear hcd hdt hdt2
  go_enter Tryz.func61, Tryz.ntmps61
  go_wp2_with fail
  refine (RefWhole_any (bs t) (by rw [bs_size]; omega) _).mono ?_
  rw [ht2.out.1]
  rintro e w' ⟨rfl, rfl⟩
  have hdt := Hdt.out
  cases hdd : d with
  | true =>
    rw [hdd] at hdt hm
    go_wp2_with fail
    refine (refmark_same c n hn _ x hx _).mono ?_
    rw [show (!true) = false from rfl] at hm
    rw [hm.out]
    rintro e w' ⟨rfl, rfl⟩
    go_wp2_with fail
    go_ret
    exact ⟨ret_str (bs_app _ _), rfl⟩
  | false =>
    rw [hdd] at hdt hm
    go_wp2_with fail
    refine (refmark_same c n hn _ x hx _).mono ?_
    rw [show (!false) = true from rfl] at hm
    rw [hm.out]
    rintro e w' ⟨rfl, rfl⟩
    go_wp2_with fail
    go_ret
    exact ⟨ret_str (bs_app _ _), rfl⟩
theorem clashL_old (p : Pt) (m : Nat) : clashL p m true = mk 60 m false oursW ++ secL p.a 124 m baseW ++ secL p.o 61 m [] ++ secL p.b 62 m theirsW := by
  simp [clashL, secL]
theorem clashL_new (p : Pt) (m : Nat) : clashL p m false = mk 60 m false oursW ++ secL p.a 61 m [] ++ secL p.b 62 m theirsW := by
  simp [clashL, secL]
theorem refsection_q (t : By) (ht : t.length ≤ 100000) (c : UInt8) (m : Nat) (hm : m ≤ 100000) (x : By) (hx : x.length ≤ 100) (r : By) (hr : secL t c m x = r) (W : World) (n : Nat) : Calls Tryz.prog 61 #[.string (bs t), .string (bs [c]), .int .i64 m, .string (bs x)] (W.drewN n) fun e w'' => e = .returned (.string (bs r)) ∧ ∃ q, w'' = W.drewN q := by
  subst hr
  exact Calls.quiet_of_same (refsection_same t ht c m hm x hx _)
set_option maxRecDepth 100000 in
set_option maxHeartbeats 8000000 in
theorem RefPrint_any (v : Value) (L : List Pt) (n : Int) (m : Nat) (hm : max n 1 = (m : Int)) (hm2 : m ≤ 100000) (old : Bool) (hl : L.length ≤ 20000) (hok : ∀ p ∈ L, okS p) (w : World) (hv : Prts w v L) :
    Calls Tryz.prog 40 #[v, .int .i64 n, .bool old] w fun e w' => e = .returned (.string (bs (printM L m old))) ∧ Below w.heap.size w w' := by
  obtain ⟨a, cap, rfl, hc, hcm, hat⟩ := hv
  unfold maxLen at hcm
  have Hat := Lib.hid hat
  have Hok := Lib.hid hok
  clear hat hok
  obtain ⟨r, hr⟩ : ∃ r, Hid (printM L m old = r) := ⟨_, Lib.hid rfl⟩
  rw [hr.out]
  go_enter Tryz.func40, Tryz.ntmps40
  go_wp2_with fail
  go_loopw [7, 8] (fun s c wr => ∃ k : Nat, c = .int .i64 k ∧ k ≤ L.length ∧ s = .string (bs (printM (L.take k) m old)) ∧ Hid (Below w.heap.size w wr)) (fun _ c _ => L.length - (intOf c).toNat)
  case atStart => exact ⟨0, rfl, by omega, rfl, Lib.hid (Below.refl _ _)⟩
  case round =>
    obtain ⟨k, rfl, hk, rfl, hB⟩ := hrel
    have hbs := hB.out.size
    have hpl := printM_take_le Hok.out hm2 old hl k
    obtain ⟨X, hX⟩ : ∃ X, Hid (printM (L.take k) m old = X) := ⟨_, Lib.hid rfl⟩
    rw [hX.out] at hpl
    rw [hX.out]
    by_cases hlt : k < L.length
    · obtain ⟨p, hp⟩ : ∃ p, L[k]? = some p := ⟨_, List.getElem?_eq_getElem hlt⟩
      obtain ⟨b, off, rfl, hbl, l0, l1, l2, l3⟩ := Hat.out k p hp
      have c0 : wr.cell? ⟨b, off + k * 4, none⟩ = some (.bool p.clash) := (hB.out.cell (p := ⟨b, off + k * 4, none⟩) hbl).trans l0
      have c1 : wr.cell? ⟨b, off + k * 4 + 1, none⟩ = some (.string (bs p.o)) := (hB.out.cell (p := ⟨b, off + k * 4 + 1, none⟩) hbl).trans l1
      have c2 : wr.cell? ⟨b, off + k * 4 + 2, none⟩ = some (.string (bs p.a)) := (hB.out.cell (p := ⟨b, off + k * 4 + 2, none⟩) hbl).trans l2
      have c3 : wr.cell? ⟨b, off + k * 4 + 3, none⟩ = some (.string (bs p.b)) := (hB.out.cell (p := ⟨b, off + k * 4 + 3, none⟩) hbl).trans l3
      have hpo := Hok.out p (List.mem_of_getElem? hp)
      have hnx : Hid (printM (L.take (k + 1)) m old = X ++ oneP m old p) := Lib.hid (by rw [← hX.out]; exact printM_take hp m old)
      have Hpo := Lib.hid hpo
      obtain ⟨ho, ha, hb⟩ := hpo
      clear l0 l1 l2 l3 hp
      obtain ⟨W2, hW2⟩ : ∃ W2, Hid (wr.alloc (.cells #[.bool p.clash, .string (bs p.o), .string (bs p.a), .string (bs p.b)] 53) = W2) := ⟨_, Lib.hid rfl⟩
      have B2 : Hid (Below wr.heap.size wr W2) := by rw [← hW2.out]; exact Lib.hid ((Below.refl _ wr).alloc (Nat.le_refl _) _)
      have R2 : Hid (RowAt W2 wr.heap.size 53 #[.bool p.clash, .string (bs p.o), .string (bs p.a), .string (bs p.b)]) := by rw [← hW2.out]; exact Lib.hid (RowAt.new wr 53 _)
      have B3 := Lib.hid (hB.out.trans (B2.out.mono hbs))
      cases hcl : p.clash with
      | false =>
        have e1 : Hid (oneP m old p = p.a) := Lib.hid (by unfold oneP; rw [hcl]; rfl)
        rw [hcl] at c0 hW2 R2
        rw [e1.out] at hnx
        have hfin : Hid (bs X ++ bs p.a = bs (printM (L.take (k + 1)) m old)) := Lib.hid (by rw [hnx.out, bs_app])
        clear hcl
        go_wp2_with fail
        rw [hW2.out]
        exact ⟨⟨k + 1, by go_num, by omega, congrArg Value.string hfin.out, B3⟩, by simp [intOf]; omega⟩
      | true =>
        have e1 : Hid (oneP m old p = clashL p m old) := Lib.hid (by unfold oneP; rw [hcl]; rfl)
        rw [hcl] at c0 hW2 R2
        rw [e1.out] at hnx
        clear hcl
        obtain ⟨M1, hM1⟩ : ∃ M, Hid (mk 60 m false oursW = M) := ⟨_, Lib.hid rfl⟩
        have k1 : M1.length ≤ 100010 := by rw [← hM1.out]; have := mk_le 60 m false oursW; have : oursW.length = 4 := rfl; omega
        obtain ⟨M4, hM4⟩ : ∃ M, Hid (secL p.b 62 m theirsW = M) := ⟨_, Lib.hid rfl⟩
        have k4 : M4.length ≤ 200020 := by rw [← hM4.out]; have := secL_le p.b 62 m theirsW; have : theirsW.length = 6 := rfl; omega
        go_wp2_with fail
        rw [hW2.out]
        refine (refmark_same 60 m hm2 false oursW (by decide) _).mono ?_
        rw [hM1.out]
        rintro e w' ⟨rfl, rfl⟩
        have d0 := R2.out.cell (j := 0) rfl
        have d1 := R2.out.cell (j := 1) rfl
        have d2 := R2.out.cell (j := 2) rfl
        have d3 := R2.out.cell (j := 3) rfl
        clear c0 c1 c2 c3
        cases old with
        | true =>
          obtain ⟨M2, hM2⟩ : ∃ M, Hid (secL p.a 124 m baseW = M) := ⟨_, Lib.hid rfl⟩
          have k2 : M2.length ≤ 200020 := by rw [← hM2.out]; have := secL_le p.a 124 m baseW; have : baseW.length = 4 := rfl; omega
          obtain ⟨M3, hM3⟩ : ∃ M, Hid (secL p.o 61 m [] = M) := ⟨_, Lib.hid rfl⟩
          have k3 : M3.length ≤ 200020 := by rw [← hM3.out]; have := secL_le p.o 61 m []; have : ([] : By).length = 0 := rfl; omega
          have hfin : Hid (bs X ++ bs M1 ++ bs M2 ++ bs M3 ++ bs M4 = bs (printM (L.take (k + 1)) m true)) := Lib.hid (by
            rw [hnx.out, clashL_old, hM1.out, hM2.out, hM3.out, hM4.out]; simp only [bs_app, List.append_assoc])
          have Q1 : Hid (∀ n, Calls Tryz.prog 61 #[.string (bs p.a), .string ⟨#[124]⟩, .int .i64 m, .string ⟨#[98, 97, 115, 101]⟩] (w'.drewN n) fun e w'' => e = .returned (.string (bs M2)) ∧ ∃ q, w'' = w'.drewN q) := Lib.hid fun n => refsection_q p.a ha 124 m hm2 baseW (by decide) M2 hM2.out w' n
          have Q2 : Hid (∀ n, Calls Tryz.prog 61 #[.string (bs p.o), .string ⟨#[61]⟩, .int .i64 m, .string ⟨#[]⟩] (w'.drewN n) fun e w'' => e = .returned (.string (bs M3)) ∧ ∃ q, w'' = w'.drewN q) := Lib.hid fun n => refsection_q p.o ho 61 m hm2 [] (by decide) M3 hM3.out w' n
          go_wp2_with fail
          go_quiet (first | with_reducible exact Q1.out _ | with_reducible exact Q2.out _)
          go_wp2_with fail
          refine (refsection_same p.b hb 62 m hm2 theirsW (by decide) _).mono ?_
          rw [hM4.out]
          rintro e w'' ⟨rfl, rfl⟩
          go_wp2_with fail
          exact ⟨⟨k + 1, by go_num, by omega, congrArg Value.string hfin.out, Lib.hid (below_draws B3.out _)⟩, by simp [intOf]; omega⟩
        | false =>
          obtain ⟨M2, hM2⟩ : ∃ M, Hid (secL p.a 61 m [] = M) := ⟨_, Lib.hid rfl⟩
          have k2 : M2.length ≤ 200020 := by rw [← hM2.out]; have := secL_le p.a 61 m []; have : ([] : By).length = 0 := rfl; omega
          have hfin : Hid (bs X ++ bs M1 ++ bs M2 ++ bs M4 = bs (printM (L.take (k + 1)) m false)) := Lib.hid (by
            rw [hnx.out, clashL_new, hM1.out, hM2.out, hM4.out]; simp only [bs_app, List.append_assoc])
          go_wp2_with fail
          refine (refsection_same p.a ha 61 m hm2 [] (by decide) _).mono ?_
          rw [hM2.out]
          rintro e w'' ⟨rfl, rfl⟩
          go_wp2_with fail
          refine (refsection_same p.b hb 62 m hm2 theirsW (by decide) _).mono ?_
          rw [hM4.out]
          rintro e w'' ⟨rfl, rfl⟩
          go_wp2_with fail
          exact ⟨⟨k + 1, by go_num, by omega, congrArg Value.string hfin.out, B3⟩, by simp [intOf]; omega⟩
    · obtain rfl : k = L.length := by omega
      rw [List.take_length, hr.out] at hX
      go_wp2_with fail
      go_ret
      exact ⟨ret_str (congrArg bs hX.out.symm), hB.out⟩
end Go.Proofs.YtbekbllffphfeaaGreatDoor.K
