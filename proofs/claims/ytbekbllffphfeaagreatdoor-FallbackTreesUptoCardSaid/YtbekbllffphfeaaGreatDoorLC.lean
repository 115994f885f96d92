/-
  For the laws of weave: the document's own kind of a chunk. No condition.
-/
import Derived.Test.YtbekbllffphfeaaGreatDoorDA
import Derived.Test.YtbekbllffphfeaaGreatDoorPA
import Derived.Deep.QuietTactic
import Derived.BigQuiet
import Derived.Test.YtbekbllffphfeaaGreatDoorLB
import Derived.Deep.AppendLies
import Derived.Deep.RegionHeldLaw
import Derived.Deep.CutRange
import Derived.StillTailTactics
namespace Go.Proofs.YtbekbllffphfeaaGreatDoor.L
open Go.RowKit Go.Shelf
set_option linter.unusedSimpArgs false
set_option linter.unusedVariables false

theorem take_eq_step {A B : List Int} {k : Nat} {x y : Int} (hx : A[k]? = some x) (hy : B[k]? = some y) : A.take (k + 1) = B.take (k + 1) ↔ (A.take k = B.take k ∧ x = y) := by
  have la := (List.getElem?_eq_some_iff.1 hx).1
  have lb := (List.getElem?_eq_some_iff.1 hy).1
  rw [List.take_add_one, List.take_add_one, hx, hy]
  constructor
  · intro h
    have h2 := List.append_inj h (by rw [List.length_take, List.length_take]; omega)
    exact ⟨h2.1, by simpa using h2.2⟩
  · rintro ⟨h1, h2⟩
    rw [h1, h2]
set_option maxRecDepth 100000 in
set_option maxHeartbeats 4000000 in
theorem SameI_any (v1 v2 : Value) (A B : List Int) (w : World) (h1 : Ints w .i64 v1 A) (h2 : Ints w .i64 v2 B) :
    Calls Tryz.prog 106 #[v1, v2] w fun e w' => e = .returned (.bool (decide (A = B))) ∧ ∃ q, w' = w.drewN q := by
  obtain ⟨a1, c1, rfl, hc1, hm1, hat1⟩ := h1.at
  obtain ⟨a2, c2, rfl, hc2, hm2, hat2⟩ := h2.at
  unfold maxLen at hm1 hm2
  obtain ⟨n, hn⟩ : ∃ n, Hid (A.length = n) := ⟨_, Lib.hid rfl⟩
  obtain ⟨m, hm⟩ : ∃ n, Hid (B.length = n) := ⟨_, Lib.hid rfl⟩
  obtain ⟨d, hd⟩ : ∃ d, Hid (decide (A = B) = d) := ⟨_, Lib.hid rfl⟩
  rw [hd.out]
  rw [hn.out] at hc1 ⊢
  rw [hm.out] at hc2 ⊢
  have Hat1 := Lib.hid hat1
  have Hat2 := Lib.hid hat2
  clear hat1 hat2 h1 h2
  by_cases hnm : n = m
  · subst hnm
    have d0 : ((n : Int) != (n : Int)) = false := by simp
    go_enter Tryz.func106, Tryz.ntmps106
    go_wp2_with fail
    go_loopw [5] (fun i wr => ∃ k : Nat, k ≤ n ∧ i = .int .i64 k ∧ Hid (A.take k = B.take k) ∧ ∃ q, Hid (wr = w.drewN q)) (fun i _ => n + 1 - (intOf i).toNat)
    case atStart => exact ⟨0, Nat.zero_le _, rfl, Lib.hid rfl, 0, Lib.hid rfl⟩
    case round =>
      obtain ⟨k, hk, rfl, hE, q, hq⟩ := hrel
      rcases Nat.lt_or_ge k n with hlt | hlt
      · obtain ⟨x, hx⟩ := get_lt (l := A) (k := k) (by rw [hn.out]; exact hlt)
        obtain ⟨y, hy⟩ := get_lt (l := B) (k := k) (by rw [hm.out]; exact hlt)
        obtain ⟨b1, o1, rfl, -, e1⟩ := Hat1.out k x hx
        obtain ⟨b2, o2, rfl, -, e2⟩ := Hat2.out k y hy
        have f1 : wr.cell? ⟨b1, o1 + k, none⟩ = some (.int .i64 x) := by rw [hq.out]; exact e1
        have f2 : wr.cell? ⟨b2, o2 + k, none⟩ = some (.int .i64 y) := by rw [hq.out]; exact e2
        have d1 : decide ((k : Int) < (n : Int)) = true := decide_eq_true (by omega)
        have d2 : (0 : Int) ≤ (k : Int) := by omega
        have d3 : (k : Int) < (n : Int) := by omega
        have hst := Lib.hid (take_eq_step hx hy)
        have hne : Hid (x ≠ y → A ≠ B) := Lib.hid (fun h e => by subst e; rw [hx] at hy; exact h (by simpa using hy))
        clear hx hy e1 e2
        by_cases hxy : x = y
        · have d4 : (x == y) = true := by simpa using hxy
          have d5 : (x != y) = false := by simpa using hxy
          have hE2 : Hid (A.take (k + 1) = B.take (k + 1)) := Lib.hid (hst.out.2 ⟨hE.out, hxy⟩)
          clear hxy
          go_wp2_with fail
          go_quiet (fail)
          go_wp2_with fail
          exact ⟨⟨k + 1, by omega, by go_num, hE2, q + nq, Lib.hid (by rw [hq.out, World.drewN_drewN])⟩, by simp [intOf]; omega⟩
        · have d4 : (x == y) = false := by simpa using hxy
          have d5 : (x != y) = true := by simpa using hxy
          have hdd : Hid (d = false) := Lib.hid (by rw [← hd.out]; exact decide_eq_false (hne.out hxy))
          clear hxy
          go_wp2_with fail
          go_quiet (fail)
          go_wp2_with fail
          go_ret
          exact ⟨by rw [hdd.out]; rfl, q + nq, by rw [hq.out, World.drewN_drewN]⟩
      · have d1 : decide ((k : Int) < (n : Int)) = false := decide_eq_false (by omega)
        have hdd : Hid (d = true) := Lib.hid (by
          have h := hE.out
          rw [List.take_of_length_le (by rw [hn.out]; exact hlt), List.take_of_length_le (by rw [hm.out]; exact hlt)] at h
          rw [← hd.out]; exact decide_eq_true h)
        go_wp2_with fail
        go_ret
        exact ⟨by rw [hdd.out]; rfl, q, hq.out⟩
  · have d0 : ((n : Int) != (m : Int)) = true := by simp; omega
    have d0' : ((n : Int) == (m : Int)) = false := by simp; omega
    have hdd : Hid (d = false) := Lib.hid (by rw [← hd.out]; exact decide_eq_false (fun e => hnm (by rw [← hn.out, ← hm.out, e])))
    go_enter Tryz.func106, Tryz.ntmps106
    go_wp2_with fail
    go_ret
    exact ⟨by rw [hdd.out]; rfl, 0, rfl⟩
set_option maxRecDepth 100000 in
set_option maxHeartbeats 4000000 in
theorem RefKind_any (v1 v2 v3 : Value) (A B C : List Int) (w : World) (h1 : Ints w .i64 v1 A) (h2 : Ints w .i64 v2 B) (h3 : Ints w .i64 v3 C) :
    Calls Tryz.prog 87 #[v1, v2, v3] w fun e w' => e = .returned (.int .i64 (kindN A B C)) ∧ ∃ q, w' = w.drewN q := by
  have C1 := Lib.hid (SameI_any v1 v2 A B w h1 h2)
  have C2 := Lib.hid (fun q => SameI_any v1 v3 A C (w.drewN q) h1 h3)
  have C3 := Lib.hid (fun q => SameI_any v2 v3 B C (w.drewN q) h2 h3)
  unfold kindN
  obtain ⟨a1, c1, rfl, -⟩ := h1.at
  obtain ⟨a2, c2, rfl, -⟩ := h2.at
  obtain ⟨a3, c3, rfl, -⟩ := h3.at
  clear h1 h2 h3
  obtain ⟨p, hp⟩ : ∃ p, Hid (decide (A = B) = p) := ⟨_, Lib.hid rfl⟩
  obtain ⟨q, hq⟩ : ∃ q, Hid (decide (A = C) = q) := ⟨_, Lib.hid rfl⟩
  obtain ⟨r, hr⟩ : ∃ r, Hid (decide (B = C) = r) := ⟨_, Lib.hid rfl⟩
  rw [hp.out] at C1
  rw [hq.out] at C2
  rw [hr.out] at C3
  obtain ⟨K, hK⟩ : ∃ K : Int, Hid ((if A = B then (if A = C then 0 else 2) else if A = C then 1 else if B = C then 3 else 4) = K) := ⟨_, Lib.hid rfl⟩
  have HK : Hid (K = (if p then (if q then 0 else 2) else if q then 1 else if r then 3 else 4)) := Lib.hid (by
    rw [← hK.out, ← hp.out, ← hq.out, ← hr.out]
    simp only [decide_eq_true_eq])
  rw [hK.out]
  go_enter Tryz.func87, Tryz.ntmps87
  go_wp2_with fail
  refine C1.out.mono ?_
  rintro e w1 ⟨rfl, n1, rfl⟩
  go_wp2_with fail
  refine (C2.out n1).mono ?_
  rintro e w2 ⟨rfl, n2, rfl⟩
  rw [World.drewN_drewN]
  cases p with
  | true =>
    cases q with
    | true =>
      go_wp2_with fail
      go_ret
      exact ⟨by rw [HK.out]; rfl, _, rfl⟩
    | false =>
      go_wp2_with fail
      go_ret
      exact ⟨by rw [HK.out]; rfl, _, rfl⟩
  | false =>
    cases q with
    | true =>
      go_wp2_with fail
      go_ret
      exact ⟨by rw [HK.out]; rfl, _, rfl⟩
    | false =>
      go_wp2_with fail
      refine (C3.out (n1 + n2)).mono ?_
      rintro e w3 ⟨rfl, n3, rfl⟩
      rw [World.drewN_drewN]
      cases r with
      | true =>
        go_wp2_with fail
        go_ret
        exact ⟨by rw [HK.out]; rfl, _, rfl⟩
      | false =>
        go_wp2_with fail
        go_ret
        exact ⟨by rw [HK.out]; rfl, _, rfl⟩
end Go.Proofs.YtbekbllffphfeaaGreatDoor.L
/-
  For the laws of weave: the document's own chunks. Condition: at most 2,000 numbers each.
-/
namespace Go.Proofs.YtbekbllffphfeaaGreatDoor.L
open Go.RowKit Go.Shelf
set_option linter.unusedSimpArgs false
set_option linter.unusedVariables false

set_option maxRecDepth 100000 in
set_option maxHeartbeats 16000000 in
theorem RefChunks_any (v1 v2 v3 : Value) (A B C : List Int) (w : World) (h1 : Ints w .i64 v1 A) (h2 : Ints w .i64 v2 B) (h3 : Ints w .i64 v3 C) (l1 : A.length ≤ 2600) (l2 : B.length ≤ 2600) (l3 : C.length ≤ 2600) :
    Calls Tryz.prog 73 #[v1, v2, v3] w fun e w' => ∃ v, e = .returned v ∧ w'.ownsRow w.heap.size 101 7 v (chunksOf A B C).length (fck (chunksOf A B C)) ∧ Below w.heap.size w w' := by
  have H1 := Lib.hid h1
  have H2 := Lib.hid h2
  have H3 := Lib.hid h3
  have CM1 := Lib.hid (RefMatch_any v1 v2 A B w h1 h2 (by omega) (by omega))
  have CM2 := Lib.hid (fun U (hU : Below w.heap.size w U) => RefMatch_any v1 v3 A C U (h1.below hU) (h3.below hU) (by omega) (by omega))
  obtain ⟨i0, hi0, hz0, hz1, hz2⟩ := info_parts infoCk
  obtain ⟨a1, c1, rfl, hc1, hm1, -⟩ := h1.at
  obtain ⟨a2, c2, rfl, hc2, hm2, -⟩ := h2.at
  obtain ⟨a3, c3, rfl, hc3, hm3, -⟩ := h3.at
  unfold maxLen at hm1 hm2 hm3
  clear h1 h2 h3
  obtain ⟨lo, hlo⟩ : ∃ n, Hid (A.length = n) := ⟨_, Lib.hid rfl⟩
  obtain ⟨la, hla⟩ : ∃ n, Hid (B.length = n) := ⟨_, Lib.hid rfl⟩
  obtain ⟨lb, hlb⟩ : ∃ n, Hid (C.length = n) := ⟨_, Lib.hid rfl⟩
  obtain ⟨M, hM⟩ : ∃ M, Hid (matchOf A B = M) := ⟨_, Lib.hid rfl⟩
  obtain ⟨R, hR⟩ : ∃ R, Hid (matchOf A C = R) := ⟨_, Lib.hid rfl⟩
  have lM : Hid (M.length = lo) := Lib.hid (by rw [← hM.out, matchOf_length]; exact hlo.out)
  have lR : Hid (R.length = lo) := Lib.hid (by rw [← hR.out, matchOf_length]; exact hlo.out)
  have hIS : Hid (InvP M R ⟨lo, la, lb⟩ ⟨0, 0, 0⟩) := Lib.hid (InvP.start lM.out lR.out (by rw [← hM.out, ← hla.out]; exact (match_ok l1 l2).1) (by rw [← hR.out, ← hlb.out]; exact (match_ok l1 l3).1))
  have hCH : Hid (chunksOf A B C = (cutsAt M R ⟨lo, la, lb⟩ ⟨0, 0, 0⟩).map (ckOf A B C)) := Lib.hid (by unfold chunksOf; rw [hM.out, hR.out, hlo.out, hla.out, hlb.out])
  rw [hM.out] at CM1
  rw [hR.out] at CM2
  rw [hCH.out]
  rw [hlo.out] at CM1 CM2 H1 l1 hc1 ⊢
  rw [hla.out] at CM1 H2 l2 hc2 ⊢
  rw [hlb.out] at CM2 H3 l3 hc3 ⊢
  obtain ⟨Al, hAl⟩ : ∃ Al, Hid (cutsAt M R ⟨lo, la, lb⟩ ⟨0, 0, 0⟩ = Al) := ⟨_, Lib.hid rfl⟩
  rw [hAl.out]
  go_enter Tryz.func73, Tryz.ntmps73
  go_wp2_with fail
  refine CM1.out.mono ?_
  rintro e w1 ⟨m1, rfl, I1, b1⟩
  have B1 := Lib.hid b1
  clear b1
  go_wp2_with fail
  refine (CM2.out w1 B1.out).mono ?_
  rintro e w2 ⟨m2, rfl, I2, b2⟩
  have B2 := Lib.hid (B1.out.trans (b2.mono B1.out.size))
  have J1 := I1.below b2
  obtain ⟨p1, k1, rfl, e1, e2, at1⟩ := ints_at J1
  obtain ⟨p2, k2, rfl, e3, e4, at2⟩ := ints_at I2
  have At1 := Lib.hid at1
  have At2 := Lib.hid at2
  have T1 := Lib.hid (H1.out.below B2.out)
  have T2 := Lib.hid (H2.out.below B2.out)
  have T3 := Lib.hid (H3.out.below B2.out)
  clear at1 at2 J1 I1 I2 b2
  unfold maxLen at e2 e4
  rw [lM.out] at e1 ⊢
  rw [lR.out] at e3 ⊢
  go_wp2_with fail
  go_loopw [9, 10, 11, 12] (fun out p q s wr => ∃ (P : P3) (pre : List (P3 × P3)), p = .int .i64 (P.o : Nat) ∧ q = .int .i64 (P.a : Nat) ∧ s = .int .i64 (P.b : Nat) ∧ Hid (InvP M R ⟨lo, la, lb⟩ P) ∧ Hid (Al = pre ++ cutsAt M R ⟨lo, la, lb⟩ P) ∧ pre.length ≤ P.o + P.a + P.b ∧ Hid (wr.ownsRow w2.heap.size 101 7 out pre.length (fck (pre.map (ckOf A B C)))) ∧ Hid (Below w2.heap.size w2 wr)) (fun _ p q s _ => lo + la + lb - ((intOf p).toNat + (intOf q).toNat + (intOf s).toNat))
  case atStart => exact ⟨⟨0, 0, 0⟩, [], rfl, rfl, rfl, hIS, Lib.hid (by rw [hAl.out]; rfl), Nat.zero_le _, Lib.hid (World.ownsRow_nil _ _ _ _), Lib.hid (Below.refl _ _)⟩
  case round =>
    obtain ⟨⟨po, pa, pb⟩, pre, rfl, rfl, rfl, hI, hAP, hpl, hown, hB⟩ := hrel
    dsimp only at hpl ⊢
    have io : po ≤ lo := hI.out.o
    have ia : pa ≤ la := hI.out.a
    have ib : pb ≤ lb := hI.out.b
    obtain ⟨wo, rfl⟩ : ∃ wo, wo = wr := ⟨wr, rfl⟩
    obtain ⟨tb, htb⟩ : ∃ tb, Hid (decide (¬ (po = lo ∧ pa = la ∧ pb = lb)) = tb) := ⟨_, Lib.hid rfl⟩
    go_upto_region 7 with fail
    go_cut [38] from 23 to 146 (fun v wx => v = .bool tb ∧ wo = wx)
    case first =>
      go_wp2_with fail
      all_goals
        go_meet
        case rel =>
          refine ⟨?_, rfl⟩
          rw [← htb.out]
          congr 1
          symm
          first
          | (rw [decide_eq_true_iff]; omega)
          | (rw [decide_eq_false_iff_not]; omega)
          | (rw [Bool.eq_iff_iff]; simp only [Bool.or_eq_true, decide_eq_true_eq]; omega)
    case rest =>
      obtain ⟨rfl, rfl⟩ := hcut
      cases tb with
      | false =>
        have hE : po = lo ∧ pa = la ∧ pb = lb := by have h := htb.out; simpa using h
        have hfin : Hid (Al = pre) := Lib.hid (by
          have h := hAP.out
          obtain ⟨rfl, rfl, rfl⟩ := hE
          rwa [cutsAt_end, List.append_nil] at h)
        have hbw : Hid (Below w.heap.size w wo) := Lib.hid (B2.out.trans (hB.out.mono B2.out.size))
        clear hE
        go_wp2_with fail
        go_ret
        refine ⟨_, rfl, ?_, hbw.out⟩
        rw [hfin.out, List.length_map]
        exact own_low hown.out B2.out.size
      | true =>
        have hne : (⟨po, pa, pb⟩ : P3) ≠ ⟨lo, la, lb⟩ := by
          intro h
          have h2 := htb.out
          simp only [P3.mk.injEq] at h
          rw [decide_eq_true_iff] at h2
          exact h2 h
        obtain ⟨S, hS⟩ : ∃ S, Hid (stab (M.drop po) (R.drop po) pa pb = S) := ⟨_, Lib.hid rfl⟩
        obtain ⟨⟨no, na, nb⟩, hN⟩ : ∃ N, Hid (nxt M R ⟨lo, la, lb⟩ ⟨po, pa, pb⟩ = N) := ⟨_, Lib.hid rfl⟩
        obtain ⟨hI2, x1, x2, x3, x4⟩ := hI.out.next hne
        have hcn := cutsAt_next hI.out hne
        rw [hN.out] at hI2 x1 x2 x3 x4 hcn
        have HI2 := Lib.hid hI2
        have y1 : no ≤ lo := hI2.o
        have y2 : na ≤ la := hI2.a
        have y3 : nb ≤ lb := hI2.b
        have hAP2 : Hid (Al = (pre ++ [((⟨po, pa, pb⟩ : P3), (⟨no, na, nb⟩ : P3))]) ++ cutsAt M R ⟨lo, la, lb⟩ ⟨no, na, nb⟩) := Lib.hid (by rw [hAP.out, hcn, List.append_assoc]; rfl)
        have hSl : S ≤ lo - po := by
          have h := (stab_le (M.drop po) (R.drop po) pa pb).1
          rw [hS.out, List.length_drop, lM.out] at h
          exact h
        have hNe : Hid (S ≠ 0 → no = po + S ∧ na = pa + S ∧ nb = pb + S) := Lib.hid (fun h => by
          have h1 := hN.out
          unfold nxt at h1
          dsimp only at h1
          rw [hS.out, if_neg h] at h1
          simp only [P3.mk.injEq] at h1
          exact ⟨h1.1.symm, h1.2.1.symm, h1.2.2.symm⟩)
        have hNz : Hid (S = 0 → (uns (M.drop po) (R.drop po) po).getD ⟨lo, la, lb⟩ = ⟨no, na, nb⟩) := Lib.hid (fun h => by
          have h1 := hN.out
          unfold nxt at h1
          dsimp only at h1
          rwa [hS.out, if_pos h] at h1)
        simp only [P3.sum] at x4
        dsimp only at x1 x2 x3
        clear hI2 hne hcn hN
        go_wp2_with fail
        go_loop [13] (fun c => ∃ n : Nat, c = .int .i64 n ∧ n ≤ S) (fun c => S + 1 - (intOf c).toNat)
        case atStart => exact ⟨0, rfl, Nat.zero_le _⟩
        case round =>
          obtain ⟨n, rfl, hn⟩ := hrel
          obtain ⟨nb2, hnb⟩ : ∃ b, Hid (decide (n < S) = b) := ⟨_, Lib.hid rfl⟩
          go_upto_region 9 with fail
          go_cut [68] from 39 to 70 (fun v wx => v = .bool nb2 ∧ wo = wx)
          case first =>
            rcases Nat.lt_or_ge n S with hlt | hlt
            · obtain ⟨g1, g2⟩ := stab_run (L := M.drop po) (R := R.drop po) (a := pa) (b := pb) (k := n) (by rw [hS.out]; exact hlt)
              rw [List.getElem?_drop] at g1 g2
              obtain ⟨bm, om, rfl, f1⟩ := At1.out wo hB.out _ _ g1
              obtain ⟨br, or_, rfl, f2⟩ := At2.out wo hB.out _ _ g2
              obtain rfl : true = nb2 := by rw [← hnb.out]; exact (decide_eq_true hlt).symm
              have d1 : decide (po + n < lo) = true := decide_eq_true (by omega)
              have d2 : po + n < lo := by omega
              clear g1 g2
              go_wp2_with fail
              go_meet
              case rel => exact ⟨rfl, rfl⟩
            · obtain rfl : n = S := by omega
              obtain rfl : false = nb2 := by rw [← hnb.out]; exact (decide_eq_false (by omega)).symm
              rcases Nat.lt_or_ge (po + n) lo with hin | hin
              · have d1 : decide (po + n < lo) = true := decide_eq_true (by omega)
                obtain ⟨x, hx⟩ := get_lt (l := M) (k := po + n) (by rw [lM.out]; exact hin)
                obtain ⟨y, hy⟩ := get_lt (l := R) (k := po + n) (by rw [lR.out]; exact hin)
                obtain ⟨bm, om, rfl, f1⟩ := At1.out wo hB.out _ _ hx
                obtain ⟨br, or_, rfl, f2⟩ := At2.out wo hB.out _ _ hy
                have hst := stab_stop (L := M.drop po) (R := R.drop po) (a := pa) (b := pb)
                rw [hS.out, List.getElem?_drop, List.getElem?_drop, hx, hy] at hst
                have hno : ¬ (x = (pa : Int) + n ∧ y = (pb : Int) + n) := fun h => hst ⟨by rw [h.1]; push_cast; rfl, by rw [h.2]; push_cast; rfl⟩
                clear hst hx hy
                by_cases hx2 : x = (pa : Int) + n
                · have t1 : (x == (pa : Int) + n) = true := by simpa using hx2
                  have t2 : (y == (pb : Int) + n) = false := by simpa using fun h => hno ⟨hx2, h⟩
                  clear hx2 hno
                  go_wp2_with fail
                  go_meet
                  case rel => exact ⟨rfl, rfl⟩
                · have t1 : (x == (pa : Int) + n) = false := by simpa using hx2
                  clear hx2 hno
                  go_wp2_with fail
                  go_meet
                  case rel => exact ⟨rfl, rfl⟩
              · have d1 : decide (po + n < lo) = false := decide_eq_false (by omega)
                go_wp2_with fail
                go_meet
                case rel => exact ⟨rfl, rfl⟩
          case rest =>
            obtain ⟨rfl, rfl⟩ := hcut
            cases nb2 with
            | true =>
              have hlt : n < S := by have h := hnb.out; simpa using h
              go_wp2_with fail
              go_round
              case rel => exact ⟨n + 1, by go_num, by omega⟩
              case measure => simp [intOf]; omega
            | false =>
              obtain rfl : n = S := by have h := hnb.out; simp at h; omega
              clear hnb hn
              obtain ⟨zb, t3⟩ : ∃ zb, ((n : Int) == 0) = zb := ⟨_, rfl⟩
              go_upto_if 81 with fail
              go_cut [14, 15, 16] from 82 to 117 (fun x y z wx => x = .int .i64 (no : Nat) ∧ y = .int .i64 (na : Nat) ∧ z = .int .i64 (nb : Nat) ∧ wo = wx)
              case first =>
                cases zb with
                | false =>
                  have hn0 : n ≠ 0 := by intro h; rw [h] at t3; cases t3
                  obtain ⟨n1, n2, n3⟩ := hNe.out hn0
                  clear hn0
                  go_wp2_with fail
                  go_meet
                  case rel => exact ⟨congrArg (Value.int .i64) (by omega), congrArg (Value.int .i64) (by omega), congrArg (Value.int .i64) (by omega), rfl⟩
                | true =>
                  have hn0 : n = 0 := by have h := eq_of_beq t3; omega
                  have hU0 := Lib.hid (hNz.out hn0)
                  have Hn0 := Lib.hid hn0
                  clear hn0
                  go_wp2_with fail
                  go_loop [14] (fun c => ∃ i : Nat, c = .int .i64 i ∧ po ≤ i ∧ i ≤ lo ∧ Hid ((uns (M.drop i) (R.drop i) i).getD ⟨lo, la, lb⟩ = ⟨no, na, nb⟩)) (fun c => lo + 1 - (intOf c).toNat)
                  case atStart => exact ⟨po, congrArg (Value.int .i64) (by have := Hn0.out; omega), Nat.le_refl _, io, hU0⟩
                  case round =>
                    obtain ⟨i, rfl, hpi, hil, hU⟩ := hrel
                    rcases Nat.lt_or_ge i lo with hin | hin
                    · have d1 : decide (i < lo) = true := decide_eq_true hin
                      obtain ⟨x, hx⟩ := get_lt (l := M) (k := i) (by rw [lM.out]; exact hin)
                      obtain ⟨y, hy⟩ := get_lt (l := R) (k := i) (by rw [lR.out]; exact hin)
                      obtain ⟨bm, om, rfl, f1⟩ := At1.out wo hB.out _ _ hx
                      obtain ⟨br, or_, rfl, f2⟩ := At2.out wo hB.out _ _ hy
                      have hst := uns_step hx hy
                      have hU2 := hU.out
                      rw [hst] at hU2
                      clear hst hx hy
                      have hgo : Hid (¬ (0 ≤ x ∧ 0 ≤ y) → (uns (M.drop (i + 1)) (R.drop (i + 1)) (i + 1)).getD ⟨lo, la, lb⟩ = ⟨no, na, nb⟩) := Lib.hid (fun h => by rwa [if_neg h] at hU2)
                      have hend : Hid (0 ≤ x ∧ 0 ≤ y → no = i ∧ na = x.toNat ∧ nb = y.toNat) := Lib.hid (fun h => by
                        rw [if_pos h] at hU2
                        simp only [Option.getD_some, P3.mk.injEq] at hU2
                        exact ⟨hU2.1.symm, hU2.2.1.symm, hU2.2.2.symm⟩)
                      clear hU2
                      by_cases hx0 : x < 0
                      · have t4 : decide (x < 0) = true := decide_eq_true hx0
                        have hU3 : Hid ((uns (M.drop (i + 1)) (R.drop (i + 1)) (i + 1)).getD ⟨lo, la, lb⟩ = ⟨no, na, nb⟩) := Lib.hid (hgo.out (by omega))
                        clear hx0
                        go_wp2_with fail
                        go_round
                        case rel => exact ⟨i + 1, by go_num, by omega, by omega, hU3⟩
                        case measure => simp [intOf]; omega
                      · have t4 : decide (x < 0) = false := decide_eq_false hx0
                        by_cases hy0 : y < 0
                        · have t5 : decide (y < 0) = true := decide_eq_true hy0
                          have hU3 : Hid ((uns (M.drop (i + 1)) (R.drop (i + 1)) (i + 1)).getD ⟨lo, la, lb⟩ = ⟨no, na, nb⟩) := Lib.hid (hgo.out (by omega))
                          clear hx0 hy0
                          go_wp2_with fail
                          go_round
                          case rel => exact ⟨i + 1, by go_num, by omega, by omega, hU3⟩
                          case measure => simp [intOf]; omega
                        · have t5 : decide (y < 0) = false := decide_eq_false hy0
                          have N := Lib.hid (hend.out ⟨by omega, by omega⟩)
                          go_wp2_with fail
                          go_meet
                          case rel => exact ⟨congrArg (Value.int .i64) (by have := N.out; omega), congrArg (Value.int .i64) (by have := N.out; omega), congrArg (Value.int .i64) (by have := N.out; omega), rfl⟩
                    · have d1 : decide (i < lo) = false := decide_eq_false (by omega)
                      have hU2 := hU.out
                      rw [uns_end (by rw [lM.out]; exact hin)] at hU2
                      simp only [Option.getD_none, P3.mk.injEq] at hU2
                      have N := Lib.hid hU2
                      clear hU2
                      go_wp2_with fail
                      go_meet
                      case rel => exact ⟨congrArg (Value.int .i64) (by have := N.out; omega), congrArg (Value.int .i64) (by have := N.out; omega), congrArg (Value.int .i64) (by have := N.out; omega), rfl⟩
              case rest =>
                obtain ⟨rfl, rfl, rfl, rfl⟩ := hcut
                clear t3 hNe hNz
                obtain ⟨s1, r1, j1⟩ := (T1.out.below hB.out).cut po no x1 (by rw [hlo.out]; exact y1) (po : Int) (no : Int) rfl rfl
                obtain ⟨s2, r2, j2⟩ := (T2.out.below hB.out).cut pa na x2 (by rw [hla.out]; exact y2) (pa : Int) (na : Int) rfl rfl
                obtain ⟨s3, r3, j3⟩ := (T3.out.below hB.out).cut pb nb x3 (by rw [hlb.out]; exact y3) (pb : Int) (nb : Int) rfl rfl
                have CK := Lib.hid (fun q => RefKind_any s1 s2 s3 _ _ _ (wo.drewN q) j1 j2 j3)
                obtain ⟨K, hK⟩ : ∃ K, Hid (kindN ((A.drop po).take (no - po)) ((B.drop pa).take (na - pa)) ((C.drop pb).take (nb - pb)) = K) := ⟨_, Lib.hid rfl⟩
                rw [hK.out] at CK
                have hck : Hid (ckv (ckOf A B C ((⟨po, pa, pb⟩ : P3), (⟨no, na, nb⟩ : P3))) = [.int .i64 K, .int .i64 (po : Nat), .int .i64 (no : Nat), .int .i64 (pa : Nat), .int .i64 (na : Nat), .int .i64 (pb : Nat), .int .i64 (nb : Nat)]) := Lib.hid (by rw [← hK.out]; rfl)
                have hbs := hB.out.size
                clear j1 j2 j3
                go_wp2_with fail
                go_region_held_law (fun _ => True) (first | go_keep | trivial)
                  (first
                    | (refine step_append_lies _ (by rfl) _ _ _ (by rfl) w2.heap.size 101 i0 _ 7 56 Tryz.underlying96 hi0 hz0 hz1 hz2 rfl (by decide) _ pre.length _ (by rfl) (hown.out.alloc _) ⟨wo.heap.size, 0, none⟩ 1 1 [.int .i64 K, .int .i64 (po : Nat), .int .i64 (no : Nat), .int .i64 (pa : Nat), .int .i64 (na : Nat), .int .i64 (pb : Nat), .int .i64 (nb : Nat)] (by rfl) rfl (fun j u hj => ck_new wo ⟨K, ⟨po, pa, pb⟩, ⟨no, na, nb⟩⟩ 101 j u hj) (ck_one ⟨K, ⟨po, pa, pb⟩, ⟨no, na, nb⟩⟩) (by omega) (by unfold maxLen; omega) (by omega) (by simp; omega) (wo.heap.size + 1) (by simp) ?_; intro g cap' w8 hown' hgrow _ _; have HB2 : Hid (Below w2.heap.size w2 w8) := by first | exact Lib.hid (Below.grown (hB.out.alloc hbs _) hgrow (by simp; omega) (fun k hk => (hown.out.lt k hk).1)) | exact Lib.hid (Below.grown (below_draws (hB.out.alloc hbs _) _) hgrow (by simp; omega) (fun k hk => (hown.out.lt k hk).1)) | exact Lib.hid (Below.grown ((below_draws hB.out _).alloc hbs _) hgrow (by simp; omega) (fun k hk => (hown.out.lt k hk).1)) | (trace_state; fail))
                    | (go_at_call 87; refine (CK.out _).mono ?_; rintro e w9 ⟨rfl, q9, rfl⟩))
                have Hown2 : Hid (w8.ownsRow w2.heap.size 101 7 (.slice (some ⟨g, 0, none⟩) (pre.length + 1) cap') (pre ++ [((⟨po, pa, pb⟩ : P3), (⟨no, na, nb⟩ : P3))]).length (fck ((pre ++ [((⟨po, pa, pb⟩ : P3), (⟨no, na, nb⟩ : P3))]).map (ckOf A B C)))) := Lib.hid (by
                  rw [List.length_append, List.map_append, List.map_cons, List.map_nil, fck_snoc, hck.out]
                  exact hown')
                clear hown' hgrow hown hB
                go_wp2_with fail
                exact ⟨⟨⟨no, na, nb⟩, _, rfl, rfl, rfl, HI2, hAP2, by rw [List.length_append]; simp; omega, Hown2, HB2⟩, by simp [intOf]; omega⟩
end Go.Proofs.YtbekbllffphfeaaGreatDoor.L
/-
  For the laws of weave: the document's own chunks of rows of texts. Condition: at most 2,000 texts each.
-/
namespace Go.Proofs.YtbekbllffphfeaaGreatDoor.L
open Go.RowKit Go.Shelf Go.Maps Go.WideMaps
set_option linter.unusedSimpArgs false
set_option linter.unusedVariables false

set_option maxRecDepth 100000 in
set_option maxHeartbeats 4000000 in
theorem RefParts_any (v1 v2 v3 : Value) (o a b : List ByteArray) (w : World) (h1 : Vals w v1 (o.map .string)) (h2 : Vals w v2 (a.map .string)) (h3 : Vals w v3 (b.map .string)) (hl1 : o.length ≤ 2600) (hl2 : a.length ≤ 2600) (hl3 : b.length ≤ 2600) (hs1 : ∀ s ∈ o, s.size ≤ maxLen) (hs2 : ∀ s ∈ a, s.size ≤ maxLen) (hs3 : ∀ s ∈ b, s.size ≤ maxLen) :
    Calls Tryz.prog 55 #[v1, v2, v3] w fun e w' => ∃ v, e = .returned v ∧ w'.ownsRow w.heap.size 101 7 v (chunksT o a b).length (fck (chunksT o a b)) ∧ Below w.heap.size w w' := by
  obtain ⟨p1, k1, rfl, -, -, -⟩ := h1.at
  obtain ⟨p2, k2, rfl, -, -, -⟩ := h2.at
  obtain ⟨p3, k3, rfl, -, -, -⟩ := h3.at
  generalize (o.map Value.string).length = z1 at h1 ⊢
  generalize (a.map Value.string).length = z2 at h2 ⊢
  generalize (b.map Value.string).length = z3 at h3 ⊢
  have bA : Below w.heap.size w (w.alloc (.cells #[.slice p1 z1 k1, .slice p2 z2 k2, .slice p3 z3 k3] 55)) := (Below.refl _ _).alloc (Nat.le_refl _) _
  have hv : Vals (w.alloc (.cells #[.slice p1 z1 k1, .slice p2 z2 k2, .slice p3 z3 k3] 55)) (.slice (some ⟨w.heap.size, 0, none⟩) 3 3) [.slice p1 z1 k1, .slice p2 z2 k2, .slice p3 z3 k3] := vals_of_row (vs := [.slice p1 z1 k1, .slice p2 z2 k2, .slice p3 z3 k3]) (RowAt.new _ _ _) (by simp [maxLen])
  have g1 := h1.below bA
  have g2 := h2.below bA
  have g3 := h3.below bA
  have Hv := Lib.hid hv; clear hv
  have HB := Lib.hid bA; clear bA
  go_enter Tryz.func55, Tryz.ntmps55
  go_wp2_with fail
  refine (RefNumbers_any _ [.slice p1 z1 k1, .slice p2 z2 k2, .slice p3 z3 k3] [o, a, b] _ Hv.out rfl (fun j x ss hx hs => ?_) (by simp)).mono ?_
  · match j with
    | 0 => simp at hx hs; subst hx hs; exact ⟨g1, by omega, hs1⟩
    | 1 => simp at hx hs; subst hx hs; exact ⟨g2, by omega, hs2⟩
    | 2 => simp at hx hs; subst hx hs; exact ⟨g3, by omega, hs3⟩
    | j + 3 => simp at hx
  rintro e w1 ⟨v, vals, rfl, hvals, hvl, hout, b1⟩
  obtain ⟨x0, e0, i0⟩ := hout 0 (numRow [] o) rfl
  obtain ⟨x1, e1, i1⟩ := hout 1 (numRow (knownBy [] o) a) rfl
  obtain ⟨x2, e2, i2⟩ := hout 2 (numRow (knownBy (knownBy [] o) a) b) rfl
  obtain ⟨av, cv, rfl, -, -, hat⟩ := hvals.at
  rw [show vals.length = 3 from hvl]
  obtain ⟨bb, oo, rfl, -, c0⟩ := hat 0 _ e0
  obtain ⟨bb', oo', hh, -, c1⟩ := hat 1 _ e1
  cases hh
  obtain ⟨bb', oo', hh, -, c2⟩ := hat 2 _ e2
  cases hh
  rw [Nat.add_zero] at c0
  have n0 : (numRow [] o).length ≤ 2600 := by rw [numRow_length]; exact hl1
  have n1 : (numRow (knownBy [] o) a).length ≤ 2600 := by rw [numRow_length]; exact hl2
  have n2 : (numRow (knownBy (knownBy [] o) a) b).length ≤ 2600 := by rw [numRow_length]; exact hl3
  have b2 : Below w.heap.size w w1 := HB.out.trans (b1.mono (by simp))
  clear hout hat e0 e1 e2 hvals b1
  have I0 := Lib.hid i0; clear i0
  have I1 := Lib.hid i1; clear i1
  have I2 := Lib.hid i2; clear i2
  have Hb2 := Lib.hid b2; clear b2
  have htx : chunksT o a b = chunksOf (numRow [] o) (numRow (knownBy [] o) a) (numRow (knownBy (knownBy [] o) a) b) := rfl
  generalize numRow [] o = y0 at n0 I0 htx
  generalize numRow (knownBy [] o) a = y1 at n1 I1 htx
  generalize numRow (knownBy (knownBy [] o) a) b = y2 at n2 I2 htx
  have Htx := Lib.hid htx; clear htx
  go_wp2_with fail
  go_still_tail 9, (by kernel_rfl)
  change wpList _ _ _ _ _ w1.drew
  obtain ⟨V, hV⟩ : ∃ V, Hid (w1.drew = V) := ⟨_, Lib.hid rfl⟩
  have J0 : Hid (Ints V .i64 x0 y0) := by rw [← hV.out]; exact I0
  have J1 : Hid (Ints V .i64 x1 y1) := by rw [← hV.out]; exact I1
  have J2 : Hid (Ints V .i64 x2 y2) := by rw [← hV.out]; exact I2
  have HbV : Hid (Below w.heap.size w V) := by rw [← hV.out]; exact Lib.hid (below_draws Hb2.out 1)
  rw [hV.out]
  clear hV I0 I1 I2 Hb2 c0 c1 c2
  go_wp2_with fail
  refine (RefChunks_any _ _ _ y0 y1 y2 V J0.out J1.out J2.out n0 n1 n2).mono ?_
  rintro e w2 ⟨u, rfl, hown, hb⟩
  have hs := HbV.out.size
  have Hown := Lib.hid (own_low hown hs)
  have Hb3 := Lib.hid (HbV.out.trans (hb.mono hs))
  clear hown hb hs
  go_wp2_with fail
  go_ret
  exact ⟨_, rfl, by rw [Htx.out]; exact Hown.out, Hb3.out⟩
end Go.Proofs.YtbekbllffphfeaaGreatDoor.L
