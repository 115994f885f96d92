/-
  For the laws of flow: the walk of FlowBlocks. Condition: at most 1,048,576 nodes came in.
-/
import Derived.Test.YtbnbmjdjkadgoaaFBr
namespace Go.Proofs.Ytbnbmjdjkadgoaa.F
open Go.RowKit Go.Shelf
open Go.Proofs.Ytbnbmjdjkadgoaa.X (wp_gen three_row)
set_option linter.unusedSimpArgs false
set_option linter.unusedVariables false

theorem blk_cnt (L : List Nd) : (blkN L).cnt = cntL L + 1 := by unfold blkN; rw [Nd.cnt]
theorem blk_ends (L : List Nd) : endsN (blkN L) = (L.map endsN).all id := by
  rw [ends_kids]
  rfl
theorem deadL_snoc (X : Nd) : ∀ (e : Bool) (L : List Nd), deadL true e (L ++ [X]) = (deadL true e L).or (if e || !((L.map endsN).all id) then some X else deadN X)
  | e, [] => by
    rw [List.nil_append, deadL, deadL, deadL]
    cases e <;> simp
  | e, t :: ts => by
    rw [List.cons_append, deadL, deadL, deadL_snoc X _ ts, List.map_cons, List.all_cons]
    cases e with
    | true => simp
    | false =>
      cases he : endsN t <;> simp [Option.or_assoc]
theorem dead_more (L : List Nd) (X : Nd) : deadN (blkN (L ++ [X])) = (deadN (blkN L)).or (if (L.map endsN).all id then deadN X else some X) := by
  unfold blkN
  rw [deadN, deadN, show decide ((⟨5, [], [], 0, 0, 0, 0, 0⟩ : Hd).kind = 5) = true from rfl, deadL_snoc]
  cases h : (L.map endsN).all id <;> simp
theorem tsz {w : World} (x : Obj) : (w.alloc x).heap.size = w.heap.size + 1 := by simp
set_option maxRecDepth 100000 in
set_option maxHeartbeats 16000000 in
theorem Blocks_any (L : List Nd) (X : Nd) (vl kx : Value) (w : World) (hml : cntL L ≤ 1048576) (hmx : X.cnt ≤ 1048576) (hl : KidsAt w L vl) (hk : KidsAt w X.kids kx) : Calls Try.prog 7 #[vl, .agg #[.int .i64 X.hd.kind, .string (bs X.hd.text), .string (bs X.hd.type), .int .i64 X.hd.n, .int .i64 X.hd.fr, .int .i64 X.hd.to_, .int .i64 X.hd.at_, .int .i64 X.hd.tat, kx]] w fun e w' => e = .returned (.bool true) ∧ Below w.heap.size w w' := by
  have HL0 := Lib.hid hl
  have HK0 := Lib.hid hk
  have HEl := Lib.hid hl.get
  obtain ⟨al, capl, rfl, -⟩ := hl.get
  obtain ⟨ax, capx, rfl, -⟩ := hk.get
  clear hk hl
  obtain ⟨n, hn⟩ : ∃ n, Hid (L.length = n) := ⟨_, Lib.hid rfl⟩
  obtain ⟨nx, hnx⟩ : ∃ n, Hid (X.kids.length = n) := ⟨_, Lib.hid rfl⟩
  rw [hn.out] at HL0
  rw [hnx.out] at HK0
  rw [hn.out, hnx.out]
  obtain ⟨A, hA⟩ : ∃ A, Hid (A = blkN L) := ⟨_, Lib.hid rfl⟩
  have hAk : Hid (A.kids = L) := Lib.hid (by rw [hA.out]; rfl)
  have hAm : A.cnt ≤ 2000000 := by rw [hA.out, blk_cnt]; omega
  have hXm : X.cnt ≤ 2000000 := by omega
  obtain ⟨M, hM⟩ : ∃ M, Hid (M = blkN (L ++ [X])) := ⟨_, Lib.hid rfl⟩
  obtain ⟨E, hE⟩ : ∃ E, Hid (L.map endsN = E) := ⟨_, Lib.hid rfl⟩
  have hEl : Hid (E.length = n) := Lib.hid (by rw [← hE.out, List.length_map]; exact hn.out)
  have hAe : Hid (endsN A = E.all id) := Lib.hid (by rw [hA.out, blk_ends, hE.out])
  obtain ⟨W1, hW1⟩ : ∃ W1, Hid (w.alloc (.cells #[.int .i64 X.hd.kind, .string (bs X.hd.text), .string (bs X.hd.type), .int .i64 X.hd.n, .int .i64 X.hd.fr, .int .i64 X.hd.to_, .int .i64 X.hd.at_, .int .i64 X.hd.tat, .slice ax nx capx] 44) = W1) := ⟨_, Lib.hid rfl⟩
  have B1 : Hid (Below w.heap.size w W1) := by rw [← hW1.out]; exact Lib.hid ((Below.refl _ w).alloc (Nat.le_refl _) _)
  have R1 : Hid (RowAt W1 w.heap.size 44 (X.hd.vals (.slice ax nx capx))) := by rw [← hW1.out]; exact Lib.hid (RowAt.new w 44 _)
  have hs1 := B1.out.size
  have HT := Lib.hid (fun U (hU : Below W1.heap.size W1 U) => (show Cells U w.heap.size 0 X.hd (.slice ax nx capx) from Cells.row (R1.out.later hU)))
  have HK := Lib.hid (fun U (hU : Below W1.heap.size W1 U) => (HK0.out.below B1.out).below hU)
  have HL := Lib.hid (fun U (hU : Below W1.heap.size W1 U) => (HL0.out.below B1.out).below hU)
  obtain ⟨fa, hfa⟩ : ∃ f, Hid (fewN A = f) := ⟨_, Lib.hid rfl⟩
  obtain ⟨fx, hfx⟩ : ∃ f, Hid (fewN X = f) := ⟨_, Lib.hid rfl⟩
  go_enter Try.func7, Try.ntmps7
  go_wp2_with fail
  rw [hW1.out]
  refine (awake_any W1).mono ?_
  rintro e w2 ⟨rfl, b2⟩
  have Q2 := Lib.hid b2
  clear b2
  go_upto_region 5 with fail
  refine wp_gen (fun W => RowAt W w2.heap.size 44 (A.hd.vals (.slice al n capl)) ∧ Below w2.heap.size w2 W) ⟨by rw [hA.out]; exact RowAt.new w2 44 ((blkN L).hd.vals (.slice al n capl)), (Below.refl _ w2).alloc (Nat.le_refl _) _⟩ ?_
  rintro W3 ⟨r3, b3⟩
  have HA := Lib.hid (fun U (hU : Below W3.heap.size W3 U) => (show Cells U w2.heap.size 0 A.hd (.slice al n capl) from Cells.row (r3.later hU)))
  have HKA := Lib.hid (fun U (hU : Below W1.heap.size W1 U) => (by rw [hAk.out]; exact HL.out U hU : KidsAt U A.kids (.slice al n capl)))
  have Q3 := Lib.hid (Q2.out.trans (b3.mono Q2.out.size))
  clear b3 r3
  obtain ⟨d0, d1, d2, d3, d4, d5, d6, d7, d8⟩ := HA.out W3 (Below.refl _ _)
  simp only [Nat.zero_add] at d1 d2 d3 d4 d5 d6 d7 d8
  have call := Lib.hid (few_any A _ W3 hAm ⟨.slice al n capl, rfl, HKA.out W3 Q3.out⟩)
  change Hid (Calls Try.prog 25 #[.agg #[.int .i64 A.hd.kind, .string (bs A.hd.text), .string (bs A.hd.type), .int .i64 A.hd.n, .int .i64 A.hd.fr, .int .i64 A.hd.to_, .int .i64 A.hd.at_, .int .i64 A.hd.tat, .slice al n capl]] _ _) at call
  rw [hfa.out] at call
  go_wp2_with fail
  refine call.out.mono ?_
  rintro e w4 ⟨rfl, b4⟩
  have Q34 := Lib.hid b4
  have Q4 := Lib.hid (Q3.out.trans (b4.mono Q3.out.size))
  clear b4 call d0 d1 d2 d3 d4 d5 d6 d7 d8
  obtain ⟨d0, d1, d2, d3, d4, d5, d6, d7, d8⟩ := HT.out w4 Q4.out
  simp only [Nat.zero_add] at d1 d2 d3 d4 d5 d6 d7 d8
  have call := Lib.hid (few_any X _ w4 hXm ⟨.slice ax nx capx, rfl, HK.out w4 Q4.out⟩)
  change Hid (Calls Try.prog 25 #[.agg #[.int .i64 X.hd.kind, .string (bs X.hd.text), .string (bs X.hd.type), .int .i64 X.hd.n, .int .i64 X.hd.fr, .int .i64 X.hd.to_, .int .i64 X.hd.at_, .int .i64 X.hd.tat, .slice ax nx capx]] _ _) at call
  rw [hfx.out] at call
  go_wp2_with fail
  refine call.out.mono ?_
  rintro e w5 ⟨rfl, b5⟩
  have Q35 := Lib.hid (Q34.out.trans (b5.mono Q34.out.size))
  have Q5 := Lib.hid (Q4.out.trans (b5.mono Q4.out.size))
  clear b5 call d0 d1 d2 d3 d4 d5 d6 d7 d8
  cases fa with
  | false =>
    go_wp2_with fail
    go_ret
    exact ⟨rfl, B1.out.trans (Q5.out.mono hs1)⟩
  | true =>
  cases fx with
  | false =>
    go_wp2_with fail
    go_ret
    exact ⟨rfl, B1.out.trans (Q5.out.mono hs1)⟩
  | true =>
    have hAs := (few_ok hfa.out).2
    have hXs := (few_ok hfx.out).2
    have hn4 : n ≤ 400 := by
      have h1 := cntL_len L
      have h2 : A.cnt = cntL L + 1 := by rw [hA.out, blk_cnt]
      have h3 := hn.out
      omega
    go_wp2_with fail
    go_loopw [9, 10] (fun y z wr => ∃ k : Nat, z = .int .i64 k ∧ k ≤ n ∧ y = .bool ((E.take k).all id) ∧ Hid (Below w5.heap.size w5 wr)) (fun _ z _ => n - (intOf z).toNat)
    case atStart => exact ⟨0, rfl, Nat.zero_le _, by simp, Lib.hid (Below.refl _ _)⟩
    case round =>
      obtain ⟨k, rfl, hkn, rfl, hB⟩ := hrel
      have hbs := hB.out.size
      obtain ⟨s, hs⟩ : ∃ s, Hid ((E.take k).all id = s) := ⟨_, Lib.hid rfl⟩
      rw [hs.out]
      have QW := Lib.hid (Q5.out.trans (hB.out.mono Q5.out.size))
      have QW3 := Lib.hid (Q35.out.trans (hB.out.mono Q35.out.size))
      by_cases hlt : k < n
      · obtain ⟨x, hx⟩ : ∃ x, L[k]? = some x := ⟨_, List.getElem?_eq_getElem (by have := hn.out; omega)⟩
        have hEx : E[k]? = some (endsN x) := by rw [← hE.out, List.getElem?_map, hx]; rfl
        have Hst := Lib.hid (all_take_succ hEx)
        rw [hs.out] at Hst
        obtain ⟨q, hq⟩ : ∃ q, Hid (endsN x = q) := ⟨_, Lib.hid rfl⟩
        rw [hq.out] at Hst
        have i1 : (k : Int) < (n : Int) := by omega
        have i0 : (0 : Int) ≤ (k : Int) := by omega
        cases s with
        | false =>
          clear hx hEx
          go_wp2_with fail
          exact ⟨⟨k + 1, by go_num, by omega, by rw [Hst.out]; rfl, hB⟩, by simp [intOf]; omega⟩
        | true =>
          obtain ⟨a9, c9, e9, -, -, hr9⟩ := (HL.out wr QW.out).get
          obtain ⟨b, off, kv, ea, cs, hkv⟩ := hr9 k x hx
          simp only [Value.slice.injEq] at e9
          obtain ⟨e1, e2, e3⟩ := e9
          subst e1
          subst ea
          have hxm : x.cnt ≤ 2000000 := by have := cntL_mem (List.mem_of_getElem? hx); omega
          have call := Lib.hid (Ends_any x kv wr hxm hkv)
          rw [hq.out] at call
          obtain ⟨ak, ck, rfl, -⟩ := hkv.get
          obtain ⟨d0, d1, d2, d3, d4, d5, d6, d7, d8⟩ := cs
          clear hx hEx hr9 e2 e3 hkv
          go_wp2_with fail
          refine call.out.mono ?_
          rintro e w6 ⟨rfl, b6⟩
          have B6 := Lib.hid (hB.out.trans (b6.mono hbs))
          clear b6 call d0 d1 d2 d3 d4 d5 d6 d7 d8
          go_wp2_with fail
          exact ⟨⟨k + 1, by go_num, by omega, by rw [Hst.out]; rfl, B6⟩, by simp [intOf]; omega⟩
      · have hkn2 : k = n := by omega
        have hni : ¬ ((k : Int) < (n : Int)) := by omega
        have hsA : Hid (endsN A = s) := Lib.hid (by rw [hAe.out, ← hs.out, hkn2, ← hEl.out, List.take_length])
        clear hkn2
        obtain ⟨ww, hww⟩ : ∃ ww, ww = wr := ⟨_, rfl⟩
        subst hww
        have Hdc : Hid (∀ x, deadN A = some x → x.cnt ≤ 2000000) := Lib.hid (fun x hx => by have := dead_cnt A x hx; omega)
        obtain ⟨d0, d1, d2, d3, d4, d5, d6, d7, d8⟩ := HA.out ww QW3.out
        simp only [Nat.zero_add] at d1 d2 d3 d4 d5 d6 d7 d8
        have call := Lib.hid (Dead_any A (.slice al n capl) ww hAm (HKA.out ww QW.out) Hdc.out)
        go_wp2_with fail
        refine call.out.mono ?_
        rintro e w7 ⟨⟨ky, rfl, hky⟩, b7⟩
        have Q7 := Lib.hid (QW.out.trans (b7.mono QW.out.size))
        have Q37 := Lib.hid (QW3.out.trans (b7.mono QW3.out.size))
        obtain ⟨D, hD⟩ : ∃ x, Hid ((deadN A).getD zN = x) := ⟨_, Lib.hid rfl⟩
        obtain ⟨dead, hdead⟩ : ∃ b, Hid ((deadN A).isSome = b) := ⟨_, Lib.hid rfl⟩
        rw [hD.out] at hky ⊢
        rw [hdead.out]
        have HKD0 := Lib.hid hky
        obtain ⟨ad, cd, rfl, -⟩ := hky.get
        obtain ⟨nd, hnd⟩ : ∃ n, Hid (D.kids.length = n) := ⟨_, Lib.hid rfl⟩
        rw [hnd.out] at HKD0
        rw [hnd.out]
        clear b7 hky d0 d1 d2 d3 d4 d5 d6 d7 d8 call
        go_upto_region 15 with fail
        refine wp_gen (fun W => RowAt W w7.heap.size 44 (D.hd.vals (.slice ad nd cd)) ∧ Below w7.heap.size w7 W) ⟨RowAt.new w7 44 (D.hd.vals (.slice ad nd cd)), (Below.refl _ w7).alloc (Nat.le_refl _) _⟩ ?_
        rintro W8 ⟨r8, b8⟩
        have HD := Lib.hid (fun U (hU : Below W8.heap.size W8 U) => (show Cells U w7.heap.size 0 D.hd (.slice ad nd cd) from Cells.row (r8.later hU)))
        have HKD := Lib.hid (fun U (hU : Below W8.heap.size W8 U) => (HKD0.out.below b8).below hU)
        have Q8 := Lib.hid (Q7.out.trans (b8.mono Q7.out.size))
        have Q38 := Lib.hid (Q37.out.trans (b8.mono Q37.out.size))
        clear b8 r8
        obtain ⟨d0, d1, d2, d3, d4, d5, d6, d7, d8⟩ := HT.out W8 Q8.out
        simp only [Nat.zero_add] at d1 d2 d3 d4 d5 d6 d7 d8
        have HX8 := Lib.hid (fun U (hU : Below W8.heap.size W8 U) => HK.out U (Q8.out.trans (hU.mono Q8.out.size)))
        obtain ⟨qs, al2, cap2, hqm, eq, -, -, hrp⟩ := (HL.out W8 Q8.out).rows
        simp only [Value.slice.injEq] at eq
        obtain ⟨e1, e2, e3⟩ := eq
        subst e1 e3
        have hql : Hid (qs.length = n) := Lib.hid e2.symm
        have hqk : Hid (∀ p ∈ qs, KidsAt W8 p.1.kids p.2) := Lib.hid (fun p hp => by
          obtain ⟨k, hk⟩ := List.mem_iff_getElem?.1 hp
          obtain ⟨_, _, _, _, h⟩ := hrp k p hk
          exact h)
        have hqo : Hid (∀ p ∈ qs, p.2.oneCell' = true) := Lib.hid (fun p hp => slice_one (hqk.out p hp))
        have hqn : Hid (n ≤ 400) := Lib.hid hn4
        have HRP := Lib.hid (fun U (hU : Below W8.heap.size W8 U) => RowP.below hrp hU)
        have HQm := Lib.hid hqm
        have hn5 : 0 + n ≤ 5000000 := by omega
        have hn6 : n + 1 ≤ 5000000 := by omega
        have hql2 : Hid (([] ++ qs).length = n) := Lib.hid (by rw [List.nil_append]; exact hql.out)
        have hXo : Hid (∀ p ∈ [(X, Value.slice ax nx capx)], p.2.oneCell' = true) := Lib.hid (fun p hp => by obtain rfl := List.mem_singleton.1 hp; rfl)
        clear e2 hqm hrp
        have HS8 := Lib.hid (fun U (hU : Below W8.heap.size W8 U) => (by
          obtain ⟨d0, d1, d2, d3, d4, d5, d6, d7, d8⟩ := HT.out U (Q8.out.trans (hU.mono Q8.out.size))
          simp only [Nat.zero_add] at d1 d2 d3 d4 d5 d6 d7 d8
          exact ⟨d0, d1, d2, d3, d4, d5, d6, d7, d8⟩ : U.cell? ⟨w.heap.size, 0, none⟩ = some (.int .i64 X.hd.kind) ∧ U.cell? ⟨w.heap.size, 1, none⟩ = some (.string (bs X.hd.text)) ∧ U.cell? ⟨w.heap.size, 2, none⟩ = some (.string (bs X.hd.type)) ∧ U.cell? ⟨w.heap.size, 3, none⟩ = some (.int .i64 X.hd.n) ∧ U.cell? ⟨w.heap.size, 4, none⟩ = some (.int .i64 X.hd.fr) ∧ U.cell? ⟨w.heap.size, 5, none⟩ = some (.int .i64 X.hd.to_) ∧ U.cell? ⟨w.heap.size, 6, none⟩ = some (.int .i64 X.hd.at_) ∧ U.cell? ⟨w.heap.size, 7, none⟩ = some (.int .i64 X.hd.tat) ∧ U.cell? ⟨w.heap.size, 8, none⟩ = some (.slice ax nx capx)))
        clear d0 d1 d2 d3 d4 d5 d6 d7 d8
        refine region15 L X (.slice ax nx capx) ax nx capx rfl n al capl qs W8 _ w.heap.size (show 59 ≤ 91 by decide) rfl rfl HS8.out hql.out HQm.out.symm HRP.out hqo.out hqk.out HX8.out hn6 ?_
        · rintro a' w9 ⟨x52, x53, x54, x55, x56, x57, x58, G, u, cu, rfl, r9, k9, b9⟩
          have HM := Lib.hid (fun U (hU : Below w9.heap.size w9 U) => (show Cells U G 0 M.hd (.slice u (n + 1) cu) from Cells.row (by rw [hM.out]; exact r9.later hU)))
          have HKM := Lib.hid (fun U (hU : Below w9.heap.size w9 U) => (by rw [hM.out]; exact k9.below hU : KidsAt U M.kids (.slice u (n + 1) cu)))
          have Q9 := Lib.hid (Q8.out.trans (b9.mono Q8.out.size))
          have Q39 := Lib.hid (Q38.out.trans (b9.mono Q38.out.size))
          have S9 := Lib.hid b9
          have hMm : M.cnt ≤ 2000000 := by rw [hM.out, blk_cnt, Go.Proofs.Ytbnbmjdjkadgoaa.X.cnt_snoc]; have h1 := hAs; rw [hA.out, blk_cnt] at h1; omega
          have Hdm : Hid (∀ x, deadN M = some x → x.cnt ≤ 2000000) := Lib.hid (fun x hx => by have := dead_cnt M x hx; omega)
          have Hlog : Hid (deadN M = (deadN A).or (if s then deadN X else some X)) := Lib.hid (by rw [hM.out, dead_more, ← hA.out, ← hsA.out, hAe.out, hE.out])
          obtain ⟨is, his⟩ : ∃ b, Hid ((deadN M).isSome = b) := ⟨_, Lib.hid rfl⟩
          obtain ⟨Y, hY⟩ : ∃ x, Hid ((deadN M).getD zN = x) := ⟨_, Lib.hid rfl⟩
          clear r9 k9 b9
          simp only [Act.put, Exit.then]
          obtain ⟨d0, d1, d2, d3, d4, d5, d6, d7, d8⟩ := HM.out w9 (Below.refl _ _)
          simp only [Nat.zero_add] at d1 d2 d3 d4 d5 d6 d7 d8
          have call := Lib.hid (Dead_any M (.slice u (n + 1) cu) w9 hMm (HKM.out w9 (Below.refl _ _)) Hdm.out)
          go_wp2_with fail
          refine call.out.mono ?_
          rintro e w10 ⟨⟨ky, rfl, hky⟩, b10⟩
          rw [hY.out] at hky ⊢
          rw [his.out]
          have HKY0 := Lib.hid hky
          obtain ⟨ay, cy, rfl, -⟩ := hky.get
          obtain ⟨ny, hny⟩ : ∃ n, Hid (Y.kids.length = n) := ⟨_, Lib.hid rfl⟩
          rw [hny.out] at HKY0
          rw [hny.out]
          have Q10 := Lib.hid (Q9.out.trans (b10.mono Q9.out.size))
          have Q310 := Lib.hid (Q39.out.trans (b10.mono Q39.out.size))
          have S10 := Lib.hid (S9.out.trans (b10.mono S9.out.size))
          clear b10 hky d0 d1 d2 d3 d4 d5 d6 d7 d8 call
          go_upto_region 17 with fail
          refine wp_gen (fun W => RowAt W w10.heap.size 44 (Y.hd.vals (.slice ay ny cy)) ∧ Below w10.heap.size w10 W) ⟨RowAt.new w10 44 (Y.hd.vals (.slice ay ny cy)), (Below.refl _ w10).alloc (Nat.le_refl _) _⟩ ?_
          rintro W11 ⟨r11, b11⟩
          have HY := Lib.hid (fun U (hU : Below W11.heap.size W11 U) => (show Cells U w10.heap.size 0 Y.hd (.slice ay ny cy) from Cells.row (r11.later hU)))
          have HKY := Lib.hid (fun U (hU : Below W11.heap.size W11 U) => (HKY0.out.below b11).below hU)
          have Q11 := Lib.hid (Q10.out.trans (b11.mono Q10.out.size))
          have Q311 := Lib.hid (Q310.out.trans (b11.mono Q310.out.size))
          have S11 := Lib.hid (S10.out.trans (b11.mono S10.out.size))
          clear b11 r11
          obtain ⟨d0, d1, d2, d3, d4, d5, d6, d7, d8⟩ := HA.out W11 Q311.out
          simp only [Nat.zero_add] at d1 d2 d3 d4 d5 d6 d7 d8
          have call := Lib.hid (Ends_any A (.slice al n capl) W11 hAm (HKA.out W11 Q11.out))
          rw [hsA.out] at call
          go_wp2_with fail
          refine call.out.mono ?_
          rintro e w12 ⟨rfl, b12⟩
          have Q12 := Lib.hid (Q11.out.trans (b12.mono Q11.out.size))
          have S12 := Lib.hid (S11.out.trans (b12.mono S11.out.size))
          have Y12 := Lib.hid b12
          clear b12 d0 d1 d2 d3 d4 d5 d6 d7 d8 call
          cases dead with
          | true =>
            have hdA : deadN A = some D := by
              have h1 := hdead.out
              have h2 := hD.out
              cases h : deadN A with
              | none => rw [h] at h1; cases h1
              | some z => rw [h] at h2; exact congrArg some h2
            have hdM : deadN M = some D := by rw [Hlog.out, hdA]; rfl
            have hYD : Y = D := by rw [← hY.out, hdM]; rfl
            have hist : is = true := by rw [← his.out, hdM]; rfl
            subst hYD hist
            have Hclr := Lib.hid (And.intro hdA hdM)
            clear hdA hdM
            obtain ⟨d0, d1, d2, d3, d4, d5, d6, d7, d8⟩ := HY.out w12 Y12.out
            simp only [Nat.zero_add] at d1 d2 d3 d4 d5 d6 d7 d8
            obtain ⟨e0, e1, e2, e3, e4, e5, e6, e7, e8⟩ := HD.out w12 S12.out
            simp only [Nat.zero_add] at e1 e2 e3 e4 e5 e6 e7 e8
            have call := Lib.hid (exact_same w12 Y (.slice ay ny cy) (.slice ad nd cd) w12 (HKY.out w12 Y12.out) (Below.refl _ _) (HKD.out w12 S12.out))
            cases s with
            | true =>
              go_wp2_with fail
              refine call.out.mono ?_
              rintro e w13 ⟨rfl, b13⟩
              have hfin := Lib.hid (B1.out.trans ((Q12.out.trans (b13.mono Q12.out.size)).mono hs1))
              clear b13 call d0 d1 d2 d3 d4 d5 d6 d7 d8 e0 e1 e2 e3 e4 e5 e6 e7 e8
              go_wp2_with fail
              go_ret
              exact ⟨rfl, hfin.out⟩
            | false =>
              go_wp2_with fail
              refine call.out.mono ?_
              rintro e w13 ⟨rfl, b13⟩
              have hfin := Lib.hid (B1.out.trans ((Q12.out.trans (b13.mono Q12.out.size)).mono hs1))
              clear b13 call d0 d1 d2 d3 d4 d5 d6 d7 d8 e0 e1 e2 e3 e4 e5 e6 e7 e8
              go_wp2_with fail
              go_ret
              exact ⟨rfl, hfin.out⟩
          | false =>
            have hdA : deadN A = none := by
              have h1 := hdead.out
              cases h : deadN A with
              | none => rfl
              | some z => rw [h] at h1; cases h1
            have hdM : deadN M = if s then deadN X else some X := by rw [Hlog.out, hdA]; rfl
            have Hclr := Lib.hid hdA
            clear hdA
            cases s with
            | false =>
              have hYX : Y = X := by rw [← hY.out, hdM]; rfl
              have hist : is = true := by rw [← his.out, hdM]; rfl
              subst hYX hist
              clear hdM
              obtain ⟨d0, d1, d2, d3, d4, d5, d6, d7, d8⟩ := HY.out w12 Y12.out
              simp only [Nat.zero_add] at d1 d2 d3 d4 d5 d6 d7 d8
              obtain ⟨e0, e1, e2, e3, e4, e5, e6, e7, e8⟩ := HT.out w12 Q12.out
              simp only [Nat.zero_add] at e1 e2 e3 e4 e5 e6 e7 e8
              have call := Lib.hid (exact_same w12 Y (.slice ay ny cy) (.slice ax nx capx) w12 (HKY.out w12 Y12.out) (Below.refl _ _) (HK.out w12 Q12.out))
              go_wp2_with fail
              refine call.out.mono ?_
              rintro e w13 ⟨rfl, b13⟩
              have hfin := Lib.hid (B1.out.trans ((Q12.out.trans (b13.mono Q12.out.size)).mono hs1))
              clear b13 call d0 d1 d2 d3 d4 d5 d6 d7 d8 e0 e1 e2 e3 e4 e5 e6 e7 e8
              go_wp2_with fail
              go_ret
              exact ⟨rfl, hfin.out⟩
            | true =>
              have hisX : Hid ((deadN X).isSome = is) := Lib.hid (by rw [← his.out, hdM]; rfl)
              clear hdM
              have Hdx : Hid (∀ x, deadN X = some x → x.cnt ≤ 2000000) := Lib.hid (fun x hx => by have := dead_cnt X x hx; omega)
              obtain ⟨d0, d1, d2, d3, d4, d5, d6, d7, d8⟩ := HT.out w12 Q12.out
              simp only [Nat.zero_add] at d1 d2 d3 d4 d5 d6 d7 d8
              have call := Lib.hid (Dead_any X (.slice ax nx capx) w12 hXm (HK.out w12 Q12.out) Hdx.out)
              go_wp2_with fail
              refine call.out.mono ?_
              rintro e w13 ⟨⟨kz, rfl, hkz⟩, b13⟩
              rw [hisX.out]
              obtain ⟨az, cz, rfl, -⟩ := hkz.get
              have Q13 := Lib.hid (Q12.out.trans (b13.mono Q12.out.size))
              clear b13 hkz call d0 d1 d2 d3 d4 d5 d6 d7 d8
              go_upto_region 24 with fail
              refine wp_gen (fun W => Below w13.heap.size w13 W) ((Below.refl _ w13).alloc (Nat.le_refl _) _) ?_
              intro W14 b14
              have hfin := Lib.hid (B1.out.trans ((Q13.out.trans (b14.mono Q13.out.size)).mono hs1))
              clear b14
              cases is with
              | true =>
                go_wp2_with fail
                go_ret
                exact ⟨rfl, hfin.out⟩
              | false =>
                go_wp2_with fail
                go_ret
                exact ⟨rfl, hfin.out⟩
end Go.Proofs.Ytbnbmjdjkadgoaa.F
