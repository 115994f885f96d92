/-
  For the laws of flow: the reference's Statements. Condition: at most 2,000,000 nodes.
-/
import Derived.Test.YtbnbmjdjkadgoaaFRf
import Derived.Test.YtbnbmjdjkadgoaaFPg
namespace Go.Proofs.Ytbnbmjdjkadgoaa.F
open Go.RowKit Go.Shelf
set_option linter.unusedSimpArgs false
set_option linter.unusedVariables false

def stN (L : List Nd) : Nat := (L.filter (fun t => stmtK t.hd.kind)).length
theorem stN_app (A B : List Nd) : stN (A ++ B) = stN A + stN B := by unfold stN; rw [List.filter_append, List.length_append]
theorem stN_one (t : Nd) : stN [t] = if stmtK t.hd.kind then 1 else 0 := by
  unfold stN
  cases h : stmtK t.hd.kind <;> simp [h]
theorem stN_take {L : List Nd} {k : Nat} {t : Nd} (h : L[k]? = some t) : stN (L.take (k + 1)) = stN (L.take k) + if stmtK t.hd.kind then 1 else 0 := by
  rw [List.take_add_one, h, stN_app]
  exact congrArg (stN (L.take k) + ·) (stN_one t)
theorem stN_le (L : List Nd) (k : Nat) : stN (L.take k) ≤ L.length := by
  unfold stN
  refine Nat.le_trans (List.length_filter_le _ _) ?_
  rw [List.length_take]; omega
mutual
theorem stN_pre (d : Nat) : ∀ t : Nd, stN ((t.pre d).map (·.2)) = stmtsN t
  | .mk h ks => by
    rw [Nd.pre, List.map_cons, stmtsN, ← stN_preL (d + 1) ks, show (Nd.mk h ks) :: (preL (d + 1) ks).map (·.2) = [Nd.mk h ks] ++ (preL (d + 1) ks).map (·.2) from rfl, stN_app, stN_one]
    rfl
theorem stN_preL (d : Nat) : ∀ ks : List Nd, stN ((preL d ks).map (·.2)) = stmtsL ks
  | [] => by rw [preL, stmtsL]; rfl
  | t :: ts => by rw [preL, stmtsL, List.map_append, stN_app, stN_pre d t, stN_preL d ts]
end
theorem stN_all (t : Nd) : stN (allK 0 t) = stmtsN t := by
  unfold allK
  rw [List.filter_eq_self.2 (show ∀ x ∈ List.map (fun x : Nat × Nd => x.snd) (Nd.pre 0 t), keepN 0 x = true from fun x _ => rfl), stN_pre]
set_option maxRecDepth 100000 in
set_option maxHeartbeats 8000000 in
theorem RefStatements_at (t : Nd) (kv : Value) (w : World) (hm : t.cnt ≤ 2000000) (hk : KidsAt w t.kids kv) : Calls Try.prog 37 #[.agg #[.int .i64 t.hd.kind, .string (bs t.hd.text), .string (bs t.hd.type), .int .i64 t.hd.n, .int .i64 t.hd.fr, .int .i64 t.hd.to_, .int .i64 t.hd.at_, .int .i64 t.hd.tat, kv]] w fun e w' => e = .returned (.int .i64 (stmtsN t : Nat)) ∧ Below w.heap.size w w' := by
  have HK := Lib.hid hk
  obtain ⟨a, cap, rfl, -⟩ := hk.get
  clear hk
  obtain ⟨W1, hW1⟩ : ∃ W1, Hid (w.alloc (.cells #[.int .i64 t.hd.kind, .string (bs t.hd.text), .string (bs t.hd.type), .int .i64 t.hd.n, .int .i64 t.hd.fr, .int .i64 t.hd.to_, .int .i64 t.hd.at_, .int .i64 t.hd.tat, .slice a t.kids.length cap] 44) = W1) := ⟨_, Lib.hid rfl⟩
  have B1 : Hid (Below w.heap.size w W1) := by rw [← hW1.out]; exact Lib.hid ((Below.refl _ w).alloc (Nat.le_refl _) _)
  have hs1 := B1.out.size
  have call := Lib.hid (All_at w 0 t _ HK.out W1 B1.out hm)
  have hfin : Hid (stN (allK 0 t) = stmtsN t) := Lib.hid (stN_all t)
  have hlen : Hid ((allK 0 t).length ≤ 2000000) := Lib.hid (by rw [allK_zero]; exact hm)
  obtain ⟨R, hR⟩ : ∃ R, Hid (stmtsN t = R) := ⟨_, Lib.hid rfl⟩
  rw [hR.out]
  rw [hR.out] at hfin
  obtain ⟨L, hL⟩ : ∃ L, Hid (allK 0 t = L) := ⟨_, Lib.hid rfl⟩
  rw [hL.out] at hfin hlen call
  obtain ⟨n, hn⟩ : ∃ n, Hid (t.kids.length = n) := ⟨_, Lib.hid rfl⟩
  rw [hn.out] at hW1 call
  rw [hn.out]
  go_enter Try.func37, Try.ntmps37
  go_wp2_with fail
  rw [hW1.out]
  refine call.out.mono ?_
  rintro e w2 ⟨⟨v3, qs, rfl, hq3, O3⟩, b2⟩
  obtain ⟨a3, cap3, rfl, hc3, hcap3, -⟩ := O3.row
  obtain ⟨m, hm2⟩ : ∃ m, Hid (qs.length = m) := ⟨_, Lib.hid rfl⟩
  have hql : Hid (L.length = m) := Lib.hid (by rw [← hq3, List.length_map]; exact hm2.out)
  have hm3 : m ≤ 2000000 := by have := hlen.out; have := hql.out; omega
  have HQ := Lib.hid hq3
  have HO := Lib.hid O3
  rw [hm2.out] at hc3 ⊢
  unfold maxLen at hcap3
  have B2 := Lib.hid (B1.out.trans (b2.mono hs1))
  have hs2 := B2.out.size
  clear O3 hq3 b2 call
  rw [hm2.out] at HO
  go_wp2_with fail
  go_loopw [4, 5] (fun y z wr => ∃ k : Nat, z = .int .i64 k ∧ k ≤ m ∧ y = .int .i64 ((stN (L.take k) : Nat) : Int) ∧ Hid (Below w2.heap.size w2 wr)) (fun _ z _ => m - (intOf z).toNat)
  case atStart => exact ⟨0, rfl, Nat.zero_le _, rfl, Lib.hid (Below.refl _ _)⟩
  case round =>
    obtain ⟨k, rfl, hkm, rfl, hB⟩ := hrel
    obtain ⟨s, hs⟩ : ∃ s, Hid (stN (L.take k) = s) := ⟨_, Lib.hid rfl⟩
    have hsl : s ≤ 2000000 := by
      have h1 := stN_le L k
      have h2 := hql.out
      have h3 := hs.out
      omega
    rw [hs.out]
    have hbs := hB.out.size
    by_cases hlt : k < m
    · obtain ⟨p, hp⟩ : ∃ p, qs[k]? = some p := ⟨_, List.getElem?_eq_getElem (by have := hm2.out; omega)⟩
      obtain ⟨a9, c9, e9, -, -, hr9⟩ := HO.out.row
      obtain ⟨b, off, ea, cs, -⟩ := hr9 k p hp
      simp only [Value.slice.injEq] at e9
      obtain ⟨e1, e2, e3⟩ := e9
      subst e1
      subst ea
      have hpo : p.2.oneCell' = true := slice_one (HO.out.2.2.2 p (List.mem_of_getElem? hp))
      have Hpo := Lib.hid hpo
      have hLk : L[k]? = some p.1 := by rw [← HQ.out, List.getElem?_map, hp]; rfl
      have Hst := Lib.hid (stN_take hLk)
      rw [hs.out] at Hst
      obtain ⟨d0, d1, d2, d3, d4, d5, d6, d7, d8⟩ := cs.later hB.out
      have call := Lib.hid (statement_any p.1 p.2 wr hpo)
      obtain ⟨q, hq⟩ : ∃ q, Hid (stmtK p.1.hd.kind = q) := ⟨_, Lib.hid rfl⟩
      rw [hq.out] at Hst call
      clear hpo hLk hp cs hr9 e2 e3
      have i1 : (k : Int) < (m : Int) := by omega
      have i0 : (0 : Int) ≤ (k : Int) := by omega
      have k0 : k ≤ m := by omega
      go_wp2_with fail
      refine call.out.mono ?_
      rintro e w3 ⟨rfl, b3⟩
      have B3 := Lib.hid (hB.out.trans (b3.mono hbs))
      clear b3 call d0 d1 d2 d3 d4 d5 d6 d7 d8
      cases q with
      | true =>
        go_wp2_with fail
        exact ⟨⟨k + 1, by go_num, by omega, by rw [Hst.out]; go_num, B3⟩, by simp [intOf]; omega⟩
      | false =>
        go_wp2_with fail
        exact ⟨⟨k + 1, by go_num, by omega, by rw [Hst.out]; go_num, B3⟩, by simp [intOf]; omega⟩
    · have hkm2 : k = m := by omega
      have hni : ¬ ((k : Int) < (m : Int)) := by omega
      have hsR : Hid (s = R) := Lib.hid (by rw [← hs.out, hkm2, ← hql.out, List.take_length]; exact hfin.out)
      clear hkm2
      go_wp2_with fail
      go_ret
      exact ⟨by rw [hsR.out]; rfl, B2.out.trans (hB.out.mono hs2)⟩
end Go.Proofs.Ytbnbmjdjkadgoaa.F
