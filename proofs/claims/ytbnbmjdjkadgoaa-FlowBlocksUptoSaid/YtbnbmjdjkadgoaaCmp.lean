/-
  For the laws of node: the reference's Count, Depth, Same, Exact and Rows. Condition: at most 2,000,000 nodes.
-/
import Derived.Test.YtbnbmjdjkadgoaaAll
import Derived.StillTailTactics
namespace Go.Proofs.Ytbnbmjdjkadgoaa
open Go.RowKit Go.Shelf
set_option linter.unusedSimpArgs false
set_option linter.unusedVariables false

/-- What a comparison answers. -/
def CmpQ (Q : Prop) (e : Ending) : Prop := ∃ r : Bool, e = .returned (.bool r) ∧ (r = true ↔ Q)
theorem CmpQ.no {Q : Prop} {e : Ending} (he : e = .returned (.bool false)) (h : ¬ Q) : CmpQ Q e := ⟨false, he, ⟨(fun h2 => by cases h2), fun h2 => absurd h2 h⟩⟩
theorem CmpQ.yes {Q : Prop} {e : Ending} (he : e = .returned (.bool true)) (h : Q) : CmpQ Q e := ⟨true, he, ⟨fun _ => h, fun _ => rfl⟩⟩
def CmpIs (f : Hd → Hd) (t t2 : Nd) (e : Ending) : Prop := CmpQ (t.map f = t2.map f) e
set_option maxRecDepth 100000 in
set_option maxHeartbeats 16000000 in
theorem Exact_at (w : World) : ∀ (t : Nd) (kv : Value), KidsAt w t.kids kv → ∀ W, Below w.heap.size w W → ∀ (t2 : Nd) (kv2 : Value), KidsAt W t2.kids kv2 → Calls Try.prog 30 #[.agg #[.int .i64 t.hd.kind, .string (bs t.hd.text), .string (bs t.hd.type), .int .i64 t.hd.n, .int .i64 t.hd.fr, .int .i64 t.hd.to_, .int .i64 t.hd.at_, .int .i64 t.hd.tat, kv], .agg #[.int .i64 t2.hd.kind, .string (bs t2.hd.text), .string (bs t2.hd.type), .int .i64 t2.hd.n, .int .i64 t2.hd.fr, .int .i64 t2.hd.to_, .int .i64 t2.hd.at_, .int .i64 t2.hd.tat, kv2]] W fun e w' => CmpIs id t t2 e ∧ Below W.heap.size W w' := by
  refine kids_ind _ ?_
  intro t a cap hc hcap hK hx W hW t2 kv2 hK2
  obtain ⟨a2', cap2, rfl, hc2, hcap2, hx2⟩ := hK2.get
  show Calls _ _ _ _ fun e w' => CmpQ (t.map id = t2.map id) e ∧ _
  have key0 : t.map id = t2.map id ↔ _ := map_eq
  generalize (t.map id = t2.map id) = Q at key0 ⊢
  have key := Lib.hid key0
  clear key0
  have Hx := Lib.hid hx
  have Hx2 := Lib.hid hx2
  have HW := Lib.hid hW
  clear hx hx2 hK hK2 hW
  have hw0 := HW.out.size
  obtain ⟨⟨k1, x1, y1, m1, f1, o1, a1, z1⟩, ks⟩ := t
  obtain ⟨⟨k2, x2, y2, m2, f2, o2, a2, z2⟩, ks2⟩ := t2
  dsimp only [Nd.hd, Nd.kids] at hc Hx hc2 Hx2 key ⊢
  obtain ⟨n, hn⟩ : ∃ n, Hid (ks.length = n) := ⟨_, Lib.hid rfl⟩
  obtain ⟨n2, hn2⟩ : ∃ n, Hid (ks2.length = n) := ⟨_, Lib.hid rfl⟩
  rw [hn.out] at hc
  rw [hn.out]
  rw [hn2.out] at hc2
  rw [hn2.out]
  have hcap' := hcap
  have hcap2' := hcap2
  unfold maxLen at hcap' hcap2'
  by_cases e0 : f1 = f2
  rotate_left
  · have g0 : (f1 == f2) = false := by rw [beq_eq_false_iff_ne]; exact e0
    have hne : Hid (¬ Q) := Lib.hid (fun h => e0 (by
      have h2 := (key.out.1 h).1
      have h3 := congrArg Hd.fr h2
      exact h3))
    go_enter Try.func30, Try.ntmps30
    go_wp2_with fail
    go_ret
    exact ⟨CmpQ.no rfl hne.out, ((Below.refl _ W).alloc (Nat.le_refl _) _).alloc (by simp) _⟩
  subst e0
  by_cases e1 : o1 = o2
  rotate_left
  · have g1 : (o1 == o2) = false := by rw [beq_eq_false_iff_ne]; exact e1
    have hne : Hid (¬ Q) := Lib.hid (fun h => e1 (by
      have h2 := (key.out.1 h).1
      have h3 := congrArg Hd.to_ h2
      exact h3))
    go_enter Try.func30, Try.ntmps30
    go_wp2_with fail
    go_ret
    exact ⟨CmpQ.no rfl hne.out, ((Below.refl _ W).alloc (Nat.le_refl _) _).alloc (by simp) _⟩
  subst e1
  by_cases e2 : a1 = a2
  rotate_left
  · have g2 : (a1 == a2) = false := by rw [beq_eq_false_iff_ne]; exact e2
    have hne : Hid (¬ Q) := Lib.hid (fun h => e2 (by
      have h2 := (key.out.1 h).1
      have h3 := congrArg Hd.at_ h2
      exact h3))
    go_enter Try.func30, Try.ntmps30
    go_wp2_with fail
    go_ret
    exact ⟨CmpQ.no rfl hne.out, ((Below.refl _ W).alloc (Nat.le_refl _) _).alloc (by simp) _⟩
  subst e2
  by_cases e3 : z1 = z2
  rotate_left
  · have g3 : (z1 == z2) = false := by rw [beq_eq_false_iff_ne]; exact e3
    have hne : Hid (¬ Q) := Lib.hid (fun h => e3 (by
      have h2 := (key.out.1 h).1
      have h3 := congrArg Hd.tat h2
      exact h3))
    go_enter Try.func30, Try.ntmps30
    go_wp2_with fail
    go_ret
    exact ⟨CmpQ.no rfl hne.out, ((Below.refl _ W).alloc (Nat.le_refl _) _).alloc (by simp) _⟩
  subst e3
  by_cases e4 : k1 = k2
  rotate_left
  · have g4 : (k1 == k2) = false := by rw [beq_eq_false_iff_ne]; exact e4
    have hne : Hid (¬ Q) := Lib.hid (fun h => e4 (by
      have h2 := (key.out.1 h).1
      have h3 := congrArg Hd.kind h2
      exact h3))
    go_enter Try.func30, Try.ntmps30
    go_wp2_with fail
    go_ret
    exact ⟨CmpQ.no rfl hne.out, ((Below.refl _ W).alloc (Nat.le_refl _) _).alloc (by simp) _⟩
  subst e4
  by_cases e5 : x1 = x2
  rotate_left
  · have g5 : (x1 == x2) = false := by rw [beq_eq_false_iff_ne]; exact e5
    have hne : Hid (¬ Q) := Lib.hid (fun h => e5 (by
      have h2 := (key.out.1 h).1
      have h3 := congrArg Hd.text h2
      exact h3))
    go_enter Try.func30, Try.ntmps30
    go_wp2_with fail
    go_ret
    exact ⟨CmpQ.no rfl hne.out, ((Below.refl _ W).alloc (Nat.le_refl _) _).alloc (by simp) _⟩
  subst e5
  by_cases e6 : y1 = y2
  rotate_left
  · have g6 : (y1 == y2) = false := by rw [beq_eq_false_iff_ne]; exact e6
    have hne : Hid (¬ Q) := Lib.hid (fun h => e6 (by
      have h2 := (key.out.1 h).1
      have h3 := congrArg Hd.type h2
      exact h3))
    go_enter Try.func30, Try.ntmps30
    go_wp2_with fail
    go_ret
    exact ⟨CmpQ.no rfl hne.out, ((Below.refl _ W).alloc (Nat.le_refl _) _).alloc (by simp) _⟩
  subst e6
  by_cases e7 : m1 = m2
  rotate_left
  · have g7 : (m1 == m2) = false := by rw [beq_eq_false_iff_ne]; exact e7
    have hne : Hid (¬ Q) := Lib.hid (fun h => e7 (by
      have h2 := (key.out.1 h).1
      have h3 := congrArg Hd.n h2
      exact h3))
    go_enter Try.func30, Try.ntmps30
    go_wp2_with fail
    go_ret
    exact ⟨CmpQ.no rfl hne.out, ((Below.refl _ W).alloc (Nat.le_refl _) _).alloc (by simp) _⟩
  subst e7
  by_cases el : n = n2
  rotate_left
  · have g : ((n : Int) == (n2 : Int)) = false := by rw [beq_eq_false_iff_ne]; omega
    have hne : Hid (¬ Q) := Lib.hid (fun h => el (by have h2 := mapL_len_eq (key.out.1 h).2; rw [hn.out, hn2.out] at h2; exact h2))
    go_enter Try.func30, Try.ntmps30
    go_wp2_with fail
    go_ret
    exact ⟨CmpQ.no rfl hne.out, ((Below.refl _ W).alloc (Nat.le_refl _) _).alloc (by simp) _⟩
  subst el
  have heq : Hid (Q ↔ ∀ (k : Nat) (x y : Nd), ks[k]? = some x → ks2[k]? = some y → x.map id = y.map id) := Lib.hid (by
    rw [key.out, ← mapL_get (by rw [hn.out, hn2.out])]
    exact ⟨fun h => h.2, fun h => ⟨rfl, h⟩⟩)
  clear key
  obtain ⟨W2, hW2⟩ : ∃ W2, Hid ((W.alloc (.cells #[.int .i64 k1, .string (bs x1), .string (bs y1), .int .i64 m1, .int .i64 f1, .int .i64 o1, .int .i64 a1, .int .i64 z1, .slice a n cap] 44)).alloc (.cells #[.int .i64 k1, .string (bs x1), .string (bs y1), .int .i64 m1, .int .i64 f1, .int .i64 o1, .int .i64 a1, .int .i64 z1, .slice a2' n cap2] 44) = W2) := ⟨_, Lib.hid rfl⟩
  have R1 : Hid (RowAt W2 W.heap.size 44 #[.int .i64 k1, .string (bs x1), .string (bs y1), .int .i64 m1, .int .i64 f1, .int .i64 o1, .int .i64 a1, .int .i64 z1, .slice a n cap]) := by rw [← hW2.out]; exact Lib.hid ((RowAt.new W 44 _).alloc _)
  have R2 : Hid (RowAt W2 (W.heap.size + 1) 44 #[.int .i64 k1, .string (bs x1), .string (bs y1), .int .i64 m1, .int .i64 f1, .int .i64 o1, .int .i64 a1, .int .i64 z1, .slice a2' n cap2]) := by rw [← hW2.out]; exact Lib.hid (by have := RowAt.new (W.alloc (.cells #[.int .i64 k1, .string (bs x1), .string (bs y1), .int .i64 m1, .int .i64 f1, .int .i64 o1, .int .i64 a1, .int .i64 z1, .slice a n cap] 44)) 44 #[.int .i64 k1, .string (bs x1), .string (bs y1), .int .i64 m1, .int .i64 f1, .int .i64 o1, .int .i64 a1, .int .i64 z1, .slice a2' n cap2]; rwa [World.size_alloc] at this)
  have B2 : Hid (Below W.heap.size W W2) := by rw [← hW2.out]; exact Lib.hid (((Below.refl _ W).alloc (Nat.le_refl _) _).alloc (by simp) _)
  have BW2 := Lib.hid (HW.out.trans (B2.out.mono hw0))
  have hs2 := B2.out.size
  go_enter Try.func30, Try.ntmps30
  go_wp2_with fail
  rw [hW2.out]
  go_loopw [5] (fun c wr => ∃ k : Nat, c = .int .i64 k ∧ k ≤ n ∧ Hid (∀ (j : Nat) (x y : Nd), j < k → ks[j]? = some x → ks2[j]? = some y → x.map id = y.map id) ∧ Hid (Below W2.heap.size W2 wr)) (fun c _ => n - (intOf c).toNat)
  case atStart => exact ⟨0, rfl, by omega, Lib.hid (fun j x y h => by omega), Lib.hid (Below.refl _ _)⟩
  case round =>
    obtain ⟨k, rfl, hk, hP, hB⟩ := hrel
    have hbs := hB.out.size
    have BWr := Lib.hid (BW2.out.trans (hB.out.mono (Nat.le_trans hw0 hs2)))
    have BWw := Lib.hid (B2.out.trans (hB.out.mono hs2))
    have u8 : wr.cell? ⟨W.heap.size, 8, none⟩ = some (.slice a n cap) := (R1.out.later hB.out).cell (j := 8) rfl
    have v8 : wr.cell? ⟨W.heap.size + 1, 8, none⟩ = some (.slice a2' n cap2) := (R2.out.later hB.out).cell (j := 8) rfl
    by_cases hlt : k < n
    · obtain ⟨x, hx⟩ : ∃ x, ks[k]? = some x := ⟨_, List.getElem?_eq_getElem (by rw [hn.out]; exact hlt)⟩
      obtain ⟨y, hy⟩ : ∃ y, ks2[k]? = some y := ⟨_, List.getElem?_eq_getElem (by rw [hn2.out]; omega)⟩
      obtain ⟨b, off, kv, rfl, cs, hk2, call⟩ := Hx.out k x hx
      obtain ⟨b2, off2, kv2, rfl, cs2, hk3⟩ := Hx2.out k y hy
      obtain ⟨d0, d1, d2, d3, d4, d5, d6, d7, d8⟩ := cs.later BWr.out
      obtain ⟨q0, q1, q2, q3, q4, q5, q6, q7, q8⟩ := cs2.later BWw.out
      have p0 : (0 : Int) ≤ (k : Int) := by omega
      have p1 : (k : Int) < (n : Int) := by omega
      have p2 : (k : Int) < (cap : Int) := by omega
      have p3 : (k : Int) < (cap2 : Int) := by omega
      have p4 : (k : Int) < (n : Int) := by omega
      have Call := Lib.hid (call wr.drew (below_draws BWr.out 1) y kv2 ((hk3.below BWw.out).below (below_draws (Below.refl _ _) 1)))
      have Hxx := Lib.hid hx
      have Hyy := Lib.hid hy
      clear call cs cs2 hx hy hk2 hk3
      go_wp2_with fail
      go_still_tail 10, (by kernel_rfl)
      change wpList _ _ _ _ _ wr.drew
      obtain ⟨V, hV⟩ : ∃ V, Hid (wr.drew = V) := ⟨_, Lib.hid rfl⟩
      have BV : Hid (Below W2.heap.size W2 V) := by rw [← hV.out]; exact Lib.hid (below_draws hB.out 1)
      rw [hV.out]
      rw [hV.out] at Call
      clear hV hB d0 d1 d2 d3 d4 d5 d6 d7 d8 q0 q1 q2 q3 q4 q5 q6 q7 q8 u8 v8
      have hvs := BV.out.size
      go_wp2_with fail
      refine Call.out.mono ?_
      rintro e w3 ⟨⟨r, rfl, hr⟩, b3⟩
      have B3 := Lib.hid (BV.out.trans (b3.mono hvs))
      have hrr := Lib.hid hr
      clear hr b3
      cases r with
      | false =>
        have hne : Hid (¬ Q) := Lib.hid (fun h => by
          have := hrr.out.2 (heq.out.1 h k _ _ Hxx.out Hyy.out); cases this)
        go_wp2_with fail
        go_ret
        exact ⟨CmpQ.no rfl hne.out, B2.out.trans (B3.out.mono hs2)⟩
      | true =>
        have hP2 : Hid (∀ (j : Nat) (x y : Nd), j < k + 1 → ks[j]? = some x → ks2[j]? = some y → x.map id = y.map id) := Lib.hid (fun j x' y' hj hx' hy' => by
          by_cases hjk : j < k
          · exact hP.out j x' y' hjk hx' hy'
          · obtain rfl : j = k := by omega
            obtain rfl := Option.some.inj (Hxx.out.symm.trans hx')
            obtain rfl := Option.some.inj (Hyy.out.symm.trans hy')
            exact hrr.out.1 rfl)
        go_wp2_with fail
        exact ⟨⟨k + 1, by go_num, by omega, hP2, B3⟩, by simp [intOf]; omega⟩
    · obtain rfl : k = n := by omega
      have hyes : Hid Q := Lib.hid (heq.out.2 fun j x y hx hy => hP.out j x y (by rw [← hn.out]; exact (List.getElem?_eq_some_iff.1 hx).1) hx hy)
      go_wp2_with fail
      go_ret
      exact ⟨CmpQ.yes rfl hyes.out, B2.out.trans (hB.out.mono hs2)⟩
end Go.Proofs.Ytbnbmjdjkadgoaa
