/-
  For the laws of weave: texts put one behind the other. Condition: at most 2^47 bytes together.
-/
import Derived.Test.YtbekbllffphfeaaDoorWA
import Derived.Test.YtbekbllffphfeaaDoorPA
namespace Go.Proofs.YtbekbllffphfeaaDoor
open Go.RowKit Go.Shelf
set_option linter.unusedSimpArgs false
set_option linter.unusedVariables false

def joinT (xs : TL) : By := (xs.map tl).flatten
theorem join_flat (xs : TL) : Lib.join (xs.map (·.data.toList)) [] = joinT xs := by
  cases xs with
  | nil => rfl
  | cons x r =>
    rw [List.map_cons, Lib.join_cons]
    unfold Lib.joinTail joinT
    rw [List.map_cons, List.flatten_cons]
    congr 1
    rw [List.map_map]
    rfl
set_option maxHeartbeats 1000000 in
theorem Join24_any (v : Value) (xs : TL) (n1 m : Nat) (w : World) (h : SetV n1 m w v xs) (hlen : (joinT xs).length ≤ 140737488355328) (hN : xs.length ≤ 140737488355328) :
    Calls Tryd.prog 44 #[v] w fun e w' => e = .returned (.string (bs (joinT xs))) ∧ Below w.heap.size w w' := by
  obtain ⟨a, cap, rfl, hc, hm, h | ⟨b, off, rfl, hlt, -, hx⟩⟩ := h
  · subst h
    go_enter Tryd.func44, Tryd.ntmps44
    go_wp2_with (go_at_call 55; refine (Tryd.strings_Join_none _ _ _ _).mono ?_; rintro e w' ⟨rfl, rfl⟩)
    go_ret
    exact ⟨rfl, Below.refl _ _⟩
  · go_enter Tryd.func44, Tryd.ntmps44
    go_wp2_with (go_at_call 55; refine (Tryd.strings_Join b off cap xs _ _ hx hlt hN hc (by rw [show (ByteArray.mk #[]).data.toList = [] from rfl, join_flat]; exact hlen)).mono ?_; rintro e w' ⟨rfl, hb⟩)
    go_ret
    refine ⟨?_, hb⟩
    show Ending.returned (.string ⟨(Lib.join (xs.map (·.data.toList)) []).toArray⟩) = _
    rw [join_flat]
end Go.Proofs.YtbekbllffphfeaaDoor
/-
  For the laws of weave: what the pieces hold; the parts they make. No condition.
-/
namespace Go.Proofs.YtbekbllffphfeaaDoor
open Go.RowKit Go.Shelf
set_option linter.unusedSimpArgs false
set_option linter.unusedVariables false

/-- What a row of texts may be: at most n of them, each out of two rows. -/
def Out (n : Nat) (o b xs : TL) : Prop := xs.length ≤ n ∧ ∀ s ∈ xs, s ∈ o ∨ s ∈ b
theorem Out.mono {n n' : Nat} {o b xs : TL} (h : Out n o b xs) (hn : n ≤ n') : Out n' o b xs := ⟨Nat.le_trans h.1 hn, h.2⟩
theorem out_nil (n : Nat) (o b : TL) : Out n o b [] := ⟨Nat.zero_le _, by simp⟩
theorem Out.app {n n' : Nat} {o b xs ys : TL} (h : Out n o b xs) (k : Out n' o b ys) : Out (n + n') o b (xs ++ ys) := ⟨by rw [List.length_append]; have := h.1; have := k.1; omega, fun s hs => by rcases List.mem_append.1 hs with e | e; exact h.2 s e; exact k.2 s e⟩
theorem slc_out {o b : TL} (i j n : Nat) (h : o.length ≤ n) : Out n o b (L.slc o i j) := by
  refine ⟨?_, fun s hs => .inl (List.mem_of_mem_drop (List.mem_of_mem_take hs))⟩
  unfold L.slc
  rw [List.length_take, List.length_drop]
  omega
theorem Out.sw {n : Nat} {o b xs : TL} (h : Out n o b xs) : Out n b o xs := ⟨h.1, fun s hs => (h.2 s hs).symm⟩
def Pc.out (n : Nat) (o a b : TL) (x : Pc) : Prop := Out n o o x.o ∧ Out n a b x.a ∧ Out n b b x.b
theorem Pc.out_mono {n n' : Nat} {o a b : TL} {x : Pc} (h : x.out n o a b) (hn : n ≤ n') : x.out n' o a b := ⟨h.1.mono hn, h.2.1.mono hn, h.2.2.mono hn⟩
theorem y_out {n : Nat} {a b : TL} (c : L.Ck) (h1 : a.length ≤ n) (h2 : b.length ≤ n) : Out n a b (yOf a b c) := by
  unfold yOf
  split
  · exact (slc_out _ _ _ h2).sw
  · exact slc_out _ _ _ h1
def St.out (n : Nat) (o a b : TL) (s : St) : Prop := (∀ x ∈ s.1, x.out n o a b) ∧ ∀ q, s.2 = some q → Out n o o q.1 ∧ Out n a b q.2
theorem St.fin_out {n : Nat} {o a b : TL} {s : St} (h : s.out n o a b) : ∀ x ∈ s.fin, x.out n o a b := by
  intro x hx
  unfold St.fin at hx
  rcases List.mem_append.1 hx with hx | hx
  · exact h.1 x hx
  · cases hs : s.2 with
    | none => rw [hs] at hx; cases hx
    | some q =>
      rw [hs] at hx
      obtain rfl := List.mem_singleton.1 hx
      exact ⟨(h.2 q hs).1, (h.2 q hs).2, out_nil _ _ _⟩
theorem St.add_out {n m : Nat} {o a b : TL} {s : St} (c : L.Ck) (h : s.out n o a b) (l1 : o.length ≤ m) (l2 : a.length ≤ m) (l3 : b.length ≤ m) : (s.add o a b c).out (n + m) o a b := by
  unfold St.add
  split
  · refine ⟨fun x hx => ?_, fun q hq => by cases hq⟩
    rcases List.mem_append.1 hx with hx | hx
    · exact Pc.out_mono (St.fin_out h x hx) (by omega)
    · obtain rfl := List.mem_singleton.1 hx
      exact ⟨(slc_out _ _ _ l1).mono (by omega), (slc_out _ _ _ l2).mono (by omega), (slc_out _ _ _ l3).mono (by omega)⟩
  · split
    · refine ⟨fun x hx => Pc.out_mono (h.1 x hx) (by omega), fun q hq => ?_⟩
      cases hq
      exact ⟨(slc_out _ _ _ l1).mono (by omega), (y_out c l2 l3).mono (by omega)⟩
    · rename_i q0 hq0
      refine ⟨fun x hx => Pc.out_mono (h.1 x hx) (by omega), fun q hq => ?_⟩
      cases hq
      exact ⟨(h.2 q0 hq0).1.app (slc_out _ _ _ l1), (h.2 q0 hq0).2.app (y_out c l2 l3)⟩
theorem stOf_out {m : Nat} {o a b : TL} (l1 : o.length ≤ m) (l2 : a.length ≤ m) (l3 : b.length ≤ m) (l : List L.Ck) : (stOf o a b l).out (l.length * m) o a b := by
  have : ∀ (l : List L.Ck) (n : Nat) (s : St), s.out n o a b → (l.foldl (St.add o a b) s).out (n + l.length * m) o a b := by
    intro l
    induction l with
    | nil => intro n s h; simpa using h
    | cons c l ih =>
      intro n s h
      have := ih (n + m) _ (St.add_out c h l1 l2 l3)
      rw [List.foldl_cons, List.length_cons, Nat.succ_mul]
      rwa [show n + (l.length * m + m) = n + m + l.length * m by omega]
  have h := this l 0 ([], none) ⟨fun x hx => by simp at hx, fun q hq => by cases hq⟩
  rw [Nat.zero_add] at h
  exact h
theorem combP_out {o a b : TL} (l1 : o.length ≤ 2600) (l2 : a.length ≤ 2600) (l3 : b.length ≤ 2600) : ∀ x ∈ combP o a b, x.out ((L.chunksT o a b).length * 2600) o a b := St.fin_out (stOf_out l1 l2 l3 _)
theorem stOf_len' (o a b : TL) (l : List L.Ck) : (stOf o a b l).1.length ≤ 2 * l.length := by
  have hf : ∀ s : St, s.fin.length ≤ s.1.length + 1 := fun s => by unfold St.fin; cases s.2 <;> simp
  have ha : ∀ (s : St) (c : L.Ck), (s.add o a b c).1.length ≤ s.1.length + 2 := fun s c => by
    have := hf s
    unfold St.add
    split
    · simp; omega
    · split <;> simp
  have : ∀ (l : List L.Ck) (s : St), (l.foldl (St.add o a b) s).1.length ≤ s.1.length + 2 * l.length := by
    intro l
    induction l with
    | nil => intro s; simp
    | cons c l ih =>
      intro s
      have h1 := ih (s.add o a b c)
      have h2 := ha s c
      rw [List.foldl_cons, List.length_cons]
      omega
  have h := this l ([], none)
  simpa [stOf] using h
theorem combP_len (o a b : TL) : (combP o a b).length ≤ 2 * (L.chunksT o a b).length + 1 := by
  have h1 := stOf_len' o a b (L.chunksT o a b)
  have : ∀ s : St, s.fin.length ≤ s.1.length + 1 := fun s => by unfold St.fin; cases s.2 <;> simp
  have h2 := this (stOf o a b (L.chunksT o a b))
  unfold combP
  omega
theorem joinT_len {n k : Nat} {o b xs : TL} (h : Out n o b xs) (h1 : ∀ s ∈ o, s.size ≤ k) (h2 : ∀ s ∈ b, s.size ≤ k) : (joinT xs).length ≤ n * k := by
  have : ∀ xs : TL, (∀ s ∈ xs, s.size ≤ k) → (joinT xs).length ≤ xs.length * k := by
    intro xs
    induction xs with
    | nil => intro _; simp [joinT]
    | cons x xs ih =>
      intro hx
      have e : joinT (x :: xs) = tl x ++ joinT xs := rfl
      have h1 := hx x (by simp)
      have h2 := ih (fun s hs => hx s (List.mem_cons_of_mem _ hs))
      rw [e, List.length_append, tl_length, List.length_cons, Nat.succ_mul]
      omega
  refine Nat.le_trans (this xs fun s hs => ?_) (Nat.mul_le_mul_right k h.1)
  rcases h.2 s hs with e | e
  · exact h1 s e
  · exact h2 s e
/-- A piece as a part. -/
def ptOf (x : Pc) : Pt := ⟨x.clash, joinT x.o, joinT x.a, if x.clash then joinT x.b else joinT x.a⟩
def wovenP (o a b : TL) : List Pt := (combP o a b).map ptOf
/-- What woven tells of three rows of units, each with whether it is one. -/
def wovenQ (x y z : TL × Bool) : List Pt × Bool := if x.2 && y.2 && z.2 then (wovenP x.1 y.1 z.1, true) else ([], false)
end Go.Proofs.YtbekbllffphfeaaDoor
/-
  For the laws of weave: the chunks cover each row, one behind the other. Condition: at most 2,000 units a row.
-/
namespace Go.Proofs.YtbekbllffphfeaaDoor
open Go.RowKit Go.Shelf
set_option linter.unusedSimpArgs false
set_option linter.unusedVariables false

end Go.Proofs.YtbekbllffphfeaaDoor
/-
  For the laws of weave: the pieces' first texts, one behind the other, are the first row; no part's text is longer than the whole. Condition: at most 2,000 units a row.
-/
namespace Go.Proofs.YtbekbllffphfeaaDoor
open Go.RowKit Go.Shelf
set_option linter.unusedSimpArgs false
set_option linter.unusedVariables false

theorem fin_cons (s : St) (q : TL × TL) (h : s.2 = some q) : s.fin = s.1 ++ [⟨false, q.1, q.2, []⟩] := by unfold St.fin; rw [h]
theorem fin_nil (s : St) (h : s.2 = none) : s.fin = s.1 := by unfold St.fin; rw [h]; exact List.append_nil _
theorem joinT_app (xs ys : TL) : joinT (xs ++ ys) = joinT xs ++ joinT ys := by unfold joinT; rw [List.map_append, List.flatten_append]
end Go.Proofs.YtbekbllffphfeaaDoor
/-
  For the laws of weave: no part's text is longer than the texts that are woven. Condition: at most 2,000 units a row.
-/
namespace Go.Proofs.YtbekbllffphfeaaDoor
open Go.RowKit Go.Shelf
set_option linter.unusedSimpArgs false
set_option linter.unusedVariables false

end Go.Proofs.YtbekbllffphfeaaDoor
/-
  For the laws of weave: three rows of units woven. Condition: at most 2,000 units a row, each of at most 1,000,000 bytes.
-/
namespace Go.Proofs.YtbekbllffphfeaaDoor
open Go.RowKit Go.Shelf
set_option linter.unusedSimpArgs false
set_option linter.unusedVariables false

attribute [local go_sem] Oper.semAt_some
theorem row4 {W : World} {g t : Nat} {a b c d : Value} (h : RowAt W g t #[a, b, c, d]) : W.cell? ⟨g, 0, none⟩ = some a ∧ W.cell? ⟨g, 1, none⟩ = some b ∧ W.cell? ⟨g, 2, none⟩ = some c ∧ W.cell? ⟨g, 3, none⟩ = some d ∧ W.frozen? ⟨g, 0, none⟩ = false ∧ W.frozen? ⟨g, 1, none⟩ = false ∧ W.frozen? ⟨g, 2, none⟩ = false ∧ W.frozen? ⟨g, 3, none⟩ = false :=
  ⟨h.cell rfl, h.cell rfl, h.cell rfl, h.cell rfl, h.frozen 0, h.frozen 1, h.frozen 2, h.frozen 3⟩
theorem pt_new (W : World) (c x y z : Value) : ∀ j u, ([c, x, y, z] : List Value)[j]? = some u → (W.alloc (.cells #[c, x, y, z] 52)).cell? ((⟨W.heap.size, 0, none⟩ : Addr).add j) = some u := by
  intro j u hj
  rw [add_flat, Nat.zero_add]
  exact (RowAt.new W 52 _).cell (by simpa using hj)
theorem pt_one (c : Bool) (x y z : ByteArray) : ∀ u ∈ ([.bool c, .string x, .string y, .string z] : List Value), u.oneCell' = true := by
  intro u hu
  simp at hu
  rcases hu with rfl | rfl | rfl | rfl <;> rfl
theorem row4_set {W : World} {g t : Nat} {a b c d : Value} (h : RowAt W g t #[a, b, c, d]) (a' b' c' d' : Value) : RowAt ((((W.setCell ⟨g, 0, none⟩ a').setCell ⟨g, 1, none⟩ b').setCell ⟨g, 2, none⟩ c').setCell ⟨g, 3, none⟩ d') g t #[a', b', c', d'] :=
  (((h.set 0 a').set 1 b').set 2 c').set 3 d'

set_option maxRecDepth 100000 in
set_option maxHeartbeats 16000000 in
theorem woven20_any (w : World) (s1 s2 s3 : ByteArray) (x y z : TL × Bool) (h1 : ∀ W, Below w.heap.size w W → Calls Tryd.prog 33 #[.string s1] W (UnitGives W x.1 x.2)) (h2 : ∀ W, Below w.heap.size w W → Calls Tryd.prog 33 #[.string s2] W (UnitGives W y.1 y.2)) (h3 : ∀ W, Below w.heap.size w W → Calls Tryd.prog 33 #[.string s3] W (UnitGives W z.1 z.2))
    (l1 : x.1.length ≤ 2600) (l2 : y.1.length ≤ 2600) (l3 : z.1.length ≤ 2600) (m1 : ∀ s ∈ x.1, s.size ≤ 1000000) (m2 : ∀ s ∈ y.1, s.size ≤ 1000000) (m3 : ∀ s ∈ z.1, s.size ≤ 1000000) :
    Calls Tryd.prog 32 #[.func (.func 33) #[.string s1] #[], .func (.func 33) #[.string s2] #[], .func (.func 33) #[.string s3] #[]] w fun e w' => ∃ v, e = .returned (.tuple #[v, .bool (wovenQ x y z).2]) ∧ Prts w' v (wovenQ x y z).1 ∧ Below w.heap.size w w' := by
  have C1 := Lib.hid h1
  have C2 := Lib.hid h2
  have C3 := Lib.hid h3
  have M1 := Lib.hid m1
  have M2 := Lib.hid m2
  have M3 := Lib.hid m3
  clear h1 h2 h3 m1 m2 m3
  obtain ⟨o, b1⟩ := x
  obtain ⟨a, b2⟩ := y
  obtain ⟨b, b3⟩ := z
  dsimp only at C1 C2 C3 M1 M2 M3 l1 l2 l3
  go_enter Tryd.func32, Tryd.ntmps32
  go_wp2_with fail
  refine (C1.out w (Below.refl _ _)).mono ?_
  rintro e w1 ⟨v1, rfl, hv1, hb1⟩
  have B1 := Lib.hid hb1
  have V1 := Lib.hid hv1
  obtain ⟨a1, c1, rfl, -⟩ := hv1
  clear hb1
  simp only [List.length_map] at V1 ⊢
  go_wp2_with fail
  refine (C2.out w1 B1.out).mono ?_
  rintro e w2 ⟨v2, rfl, hv2, hb2⟩
  have B2 : Hid (Below w.heap.size w w2) := Lib.hid (B1.out.trans (hb2.mono B1.out.size))
  have V2 := Lib.hid hv2
  have V12 := Lib.hid (V1.out.below hb2)
  obtain ⟨a2, c2, rfl, -⟩ := hv2
  clear hb2 V1
  simp only [List.length_map] at V2 ⊢
  go_wp2_with fail
  refine (C3.out w2 B2.out).mono ?_
  rintro e w3 ⟨v3, rfl, hv3, hb3⟩
  have B3 : Hid (Below w.heap.size w w3) := Lib.hid (B2.out.trans (hb3.mono B2.out.size))
  have V3 := Lib.hid hv3
  have V13 := Lib.hid (V12.out.below hb3)
  have V23 := Lib.hid (V2.out.below hb3)
  obtain ⟨a3, c3, rfl, -⟩ := hv3
  clear hb3 V12 V2
  simp only [List.length_map] at V3 ⊢
  cases b1 with
  | false =>
    go_wp2_with fail
    go_ret2
    exact ⟨_, rfl, prts_nil _, B3.out⟩
  | true =>
  cases b2 with
  | false =>
    go_wp2_with fail
    go_ret2
    exact ⟨_, rfl, prts_nil _, B3.out⟩
  | true =>
  cases b3 with
  | false =>
    go_wp2_with fail
    go_ret2
    exact ⟨_, rfl, prts_nil _, B3.out⟩
  | true =>
  have CB := Lib.hid (combined_any w3 _ _ _ o a b V13.out V23.out V3.out l1 l2 l3 (fun s hs => Nat.le_trans (M1.out s hs) (by decide)) (fun s hs => Nat.le_trans (M2.out s hs) (by decide)) (fun s hs => Nat.le_trans (M3.out s hs) (by decide)))
  have hcl := chunksT_len (o := o) (a := a) (b := b)
  have hcl2 := combP_len o a b
  have HO := Lib.hid (combP_out (o := o) (a := a) (b := b) l1 l2 l3)
  go_wp2_with fail
  refine CB.out.mono ?_
  rintro e w4 ⟨v, n1, P, rfl, hown, hset, hb4⟩
  have B4 : Hid (Below w.heap.size w w4) := Lib.hid (B3.out.trans (hb4.mono B3.out.size))
  obtain ⟨X, hX⟩ : ∃ X, Hid (combP o a b = X) := ⟨_, Lib.hid rfl⟩
  rw [hX.out] at hset hcl2 HO
  obtain ⟨ar, cp, rfl⟩ := own_len hown
  obtain ⟨np, hnp⟩ : ∃ np, Hid (P.length = np) := ⟨_, Lib.hid rfl⟩
  have hnX : Hid (X.length = np) := Lib.hid (by rw [← hset.1]; exact hnp.out)
  have hn1 : Hid (n1 ≤ w4.heap.size ∨ np = 0) := Lib.hid (by
    rcases Nat.eq_zero_or_pos np with h | h
    · exact .inr h
    · obtain ⟨g, cap, -, e1, e2, -⟩ := own_cells hown (by rw [hnp.out]; exact h)
      exact .inl (by omega))
  rw [hnX.out] at hcl2
  rw [hnp.out] at hown ⊢
  have hnb : np ≤ 15603 := by omega
  have Hset := Lib.hid hset
  have Hown := Lib.hid hown
  clear hset hown hb4 CB V13 V23 V3
  have hres : Hid ((wovenQ (o, true) (a, true) (b, true)) = (X.map ptOf, true)) := Lib.hid (by unfold wovenQ wovenP; rw [hX.out]; rfl)
  go_wp2_with fail
  go_loopw [14, 48] (fun q c wr => ∃ k : Nat, c = .int .i64 k ∧ k ≤ np ∧ Hid (wr.ownsRow w4.heap.size 52 4 q k (pv ((X.map ptOf).take k))) ∧ Hid (Below w4.heap.size w4 wr)) (fun _ c _ => np - (intOf c).toNat)
  case atStart => exact ⟨0, rfl, Nat.zero_le _, Lib.hid (World.ownsRow_nil _ _ _ _), Lib.hid (Below.refl _ _)⟩
  case round =>
    obtain ⟨k, rfl, hk, hO, hB⟩ := hrel
    obtain ⟨wo, rfl⟩ : ∃ wo, wo = wr := ⟨wr, rfl⟩
    obtain ⟨ao, no, co, rfl⟩ := own_slice hO.out
    have hbs := hB.out.size
    rcases Nat.lt_or_ge k np with hlt | hlt
    · have d1 : decide (k < np) = true := decide_eq_true hlt
      have d2 : (0 : Int) ≤ (k : Int) := by omega
      have d3 : (k : Int) < (np : Int) := by omega
      have hn4 : n1 ≤ w4.heap.size := by rcases hn1.out with h | h; exact h; omega
      obtain ⟨g, cap, e1, hg1, hg2, -, -, -, hc⟩ := own_cells (own_below Hown.out hB.out) (by omega)
      cases e1
      obtain ⟨p, hp⟩ := get_lt (l := P) (k := k) (by rw [hnp.out]; exact hlt)
      obtain ⟨x, hx⟩ := get_lt (l := X) (k := k) (by rw [hnX.out]; exact hlt)
      have Hs : Hid (∀ U, Below w4.heap.size w4 U → p.clash = x.clash ∧ SetV n1 w4.heap.size U p.vo x.o ∧ SetV n1 w4.heap.size U p.va x.a ∧ SetV n1 w4.heap.size U p.vb x.b) := Lib.hid (fun U hU => (Hset.out.keep (KpM.below hn4 hU)).2 k p x hp hx)
      have hpc := fun j hj => hc (k * 4 + j) (p.row[j]'hj) (by rw [pvv_get hp j hj]; exact List.getElem?_eq_getElem hj)
      have c0 := hpc 0 (by simp [Pv.row])
      have c1' := hpc 1 (by simp [Pv.row])
      have c2' := hpc 2 (by simp [Pv.row])
      have c3' := hpc 3 (by simp [Pv.row])
      obtain ⟨pc, pvo, pva, pvb⟩ := p
      obtain ⟨rfl, so, sa, sb⟩ := Hs.out wo hB.out
      obtain ⟨oa, oc, rfl, -⟩ := so
      obtain ⟨aa, ac, rfl, -⟩ := sa
      obtain ⟨ba, bc, rfl, -⟩ := sb
      simp only [Pv.row, List.getElem_cons_zero, List.getElem_cons_succ, Nat.add_zero] at c0 c1' c2' c3'
      have hxo := HO.out x (List.mem_of_getElem? hx)
      have Hxo := Lib.hid hxo
      clear hxo hpc hc
      go_upto_region 10 with fail
      obtain ⟨g16, hg16⟩ : ∃ g, Hid (wo.heap.size = g) := ⟨_, Lib.hid rfl⟩
      obtain ⟨W2, hW2⟩ : ∃ W2, Hid (wo.alloc (.cells #[.bool x.clash, .slice oa x.o.length oc, .slice aa x.a.length ac, .slice ba x.b.length bc] 102) = W2) := ⟨_, Lib.hid rfl⟩
      have R2 : RowAt W2 g16 102 #[.bool x.clash, .slice oa x.o.length oc, .slice aa x.a.length ac, .slice ba x.b.length bc] := by rw [← hW2.out, ← hg16.out]; exact RowAt.new wo 102 _
      have Y2 : Hid (∀ U, Below W2.heap.size W2 U → U.cell? ⟨g16, 0, none⟩ = some (.bool x.clash) ∧ U.cell? ⟨g16, 1, none⟩ = some (.slice oa x.o.length oc) ∧ U.cell? ⟨g16, 2, none⟩ = some (.slice aa x.a.length ac) ∧ U.cell? ⟨g16, 3, none⟩ = some (.slice ba x.b.length bc)) := Lib.hid (fun U hU => ⟨(R2.later hU).cell rfl, (R2.later hU).cell rfl, (R2.later hU).cell rfl, (R2.later hU).cell rfl⟩)
      have B2 : Hid (Below w4.heap.size w4 W2) := Lib.hid (by rw [← hW2.out]; exact hB.out.alloc hbs _)
      have Js : Hid (∀ U, Below W2.heap.size W2 U → Calls Tryd.prog 44 #[.slice oa x.o.length oc] U (fun e w' => e = .returned (.string (bs (joinT x.o))) ∧ Below U.heap.size U w') ∧ Calls Tryd.prog 44 #[.slice aa x.a.length ac] U (fun e w' => e = .returned (.string (bs (joinT x.a))) ∧ Below U.heap.size U w') ∧ Calls Tryd.prog 44 #[.slice ba x.b.length bc] U (fun e w' => e = .returned (.string (bs (joinT x.b))) ∧ Below U.heap.size U w')) := Lib.hid (fun U hU => by
        obtain ⟨-, s1, s2, s3⟩ := Hs.out U (B2.out.trans (hU.mono B2.out.size))
        obtain ⟨o1, o2, o3⟩ := Hxo.out
        have j1 := joinT_len o1 M1.out M1.out
        have j2 := joinT_len o2 M2.out M3.out
        have j3 := joinT_len o3 M3.out M3.out
        have i1 := o1.1
        have i2 := o2.1
        have i3 := o3.1
        exact ⟨Join24_any _ x.o _ _ U s1 (by omega) (by omega), Join24_any _ x.a _ _ U s2 (by omega) (by omega), Join24_any _ x.b _ _ U s3 (by omega) (by omega)⟩)
      rw [hW2.out, hg16.out]
      clear c0 c1' c2' c3' R2
      go_cut [17] from 52 to 60 (fun q wc => ∃ g17 : Nat, q = .pointer (some ⟨g17, 0, none⟩) ∧ Hid (Below W2.heap.size W2 wc ∧ W2.heap.size ≤ g17 ∧ RowAt wc g17 52 #[.bool x.clash, .string (bs (joinT x.o)), .string (bs (joinT x.a)), .string ⟨#[]⟩]))
      case first =>
        refine (wpIn_wide (n := 1)).1 ?_
        refine L.wpIn_region_Z (S := fun U => Below W2.heap.size W2 U) (zs := []) (by kernel_rfl) ?_
        have hS0 : Below W2.heap.size W2 W2.drew := below_draws (Below.refl _ _) 1
        obtain ⟨U0, hU0⟩ : ∃ U, Hid (W2.drew = U) := ⟨_, Lib.hid rfl⟩
        rw [hU0.out] at hS0 ⊢
        have hS := hS0
        simp only [List.size_toArray, List.length_cons, List.length_nil, Nat.reduceAdd, Array.replicate_succ, Array.replicate_zero, List.push_toArray, List.nil_append, List.cons_append]
        refine L.wpAnyZIn_takeF 12 (i := 0) (oi := { dst := some 52, op := Op.fieldAddr 102 (Operand.tmp 16) 0, type := 0, pos := "weave.go:74", after := #[], guard := none }) (v := ?_) rfl (by kernel_rfl) (by kernel_rfl) (by kernel_rfl) (by kernel_rfl) (by kernel_rfl) (by kernel_rfl) (fun _ _ _ h => h) (Or.inl ⟨by rfl, ?_⟩) (fun _ => rfl) hS ?_
        rotate_left
        · intro w hSw
          obtain ⟨y0, y1, y2, y3⟩ := Y2.out w hSw
          go_simp
          try with_reducible rfl
        try simp only [Act.put, List.setIfInBounds_toArray, List.set_cons_zero, List.set_cons_succ]
        refine L.wpAnyZIn_takeF 12 (i := 1) (oi := { dst := some 53, op := Op.load 4 (Operand.tmp 52), type := 4, pos := "weave.go:74", after := #[{ on := 0, ground := Ground.data }], guard := none }) (v := ?_) rfl (by kernel_rfl) (by kernel_rfl) (by kernel_rfl) (by kernel_rfl) (by kernel_rfl) (by kernel_rfl) (fun _ _ _ h => h) (Or.inl ⟨by rfl, ?_⟩) (fun _ => rfl) hS ?_
        rotate_left
        · intro w hSw
          obtain ⟨y0, y1, y2, y3⟩ := Y2.out w hSw
          go_simp
          try with_reducible rfl
        try simp only [Act.put, List.setIfInBounds_toArray, List.set_cons_zero, List.set_cons_succ]
        refine L.wpAnyZIn_takeF 12 (i := 2) (oi := { dst := some 54, op := Op.fieldAddr 102 (Operand.tmp 16) 1, type := 0, pos := "weave.go:74", after := #[], guard := none }) (v := ?_) rfl (by kernel_rfl) (by kernel_rfl) (by kernel_rfl) (by kernel_rfl) (by kernel_rfl) (by kernel_rfl) (fun _ _ _ h => h) (Or.inl ⟨by rfl, ?_⟩) (fun _ => rfl) hS ?_
        rotate_left
        · intro w hSw
          obtain ⟨y0, y1, y2, y3⟩ := Y2.out w hSw
          go_simp
          try with_reducible rfl
        try simp only [Act.put, List.setIfInBounds_toArray, List.set_cons_zero, List.set_cons_succ]
        refine L.wpAnyZIn_takeF 12 (i := 3) (oi := { dst := some 55, op := Op.load 57 (Operand.tmp 54), type := 57, pos := "weave.go:74", after := #[{ on := 2, ground := Ground.data }], guard := none }) (v := ?_) rfl (by kernel_rfl) (by kernel_rfl) (by kernel_rfl) (by kernel_rfl) (by kernel_rfl) (by kernel_rfl) (fun _ _ _ h => h) (Or.inl ⟨by rfl, ?_⟩) (fun _ => rfl) hS ?_
        rotate_left
        · intro w hSw
          obtain ⟨y0, y1, y2, y3⟩ := Y2.out w hSw
          go_simp
          try with_reducible rfl
        try simp only [Act.put, List.setIfInBounds_toArray, List.set_cons_zero, List.set_cons_succ]
        refine L.wpAnyZIn_takeF 12 (i := 5) (oi := { dst := some 57, op := Op.fieldAddr 102 (Operand.tmp 16) 2, type := 0, pos := "weave.go:74", after := #[], guard := none }) (v := ?_) rfl (by kernel_rfl) (by kernel_rfl) (by kernel_rfl) (by kernel_rfl) (by kernel_rfl) (by kernel_rfl) (fun _ _ _ h => h) (Or.inl ⟨by rfl, ?_⟩) (fun _ => rfl) hS ?_
        rotate_left
        · intro w hSw
          obtain ⟨y0, y1, y2, y3⟩ := Y2.out w hSw
          go_simp
          try with_reducible rfl
        try simp only [Act.put, List.setIfInBounds_toArray, List.set_cons_zero, List.set_cons_succ]
        refine L.wpAnyZIn_takeF 12 (i := 6) (oi := { dst := some 58, op := Op.load 57 (Operand.tmp 57), type := 57, pos := "weave.go:74", after := #[{ on := 5, ground := Ground.data }], guard := none }) (v := ?_) rfl (by kernel_rfl) (by kernel_rfl) (by kernel_rfl) (by kernel_rfl) (by kernel_rfl) (by kernel_rfl) (fun _ _ _ h => h) (Or.inl ⟨by rfl, ?_⟩) (fun _ => rfl) hS ?_
        rotate_left
        · intro w hSw
          obtain ⟨y0, y1, y2, y3⟩ := Y2.out w hSw
          go_simp
          try with_reducible rfl
        try simp only [Act.put, List.setIfInBounds_toArray, List.set_cons_zero, List.set_cons_succ]
        clear hS
        refine L.wpAnyZIn_either (i := 4) (j := 9) (by kernel_rfl) rfl rfl (fun K hK => ?_) (fun K hK => ?_)
        · go_simp
          refine ⟨trivial, ?_⟩
          refine (callsIn_wide.2 (Js.out _ hS0).1).mono ?_
          rintro e U4 ⟨rfl, hb⟩
          have hS4 : Below W2.heap.size W2 U4 := hS0.trans (hb.mono hS0.size)
          refine hK.out _ _ (fun _ => hS4) ?_
          clear hK K hb
          refine L.wpAnyZIn_either (i := 7) (j := 9) (by kernel_rfl) rfl rfl (fun K hK => ?_) (fun K hK => ?_)
          · go_simp
            refine ⟨trivial, ?_⟩
            refine (callsIn_wide.2 (Js.out _ hS4).2.1).mono ?_
            rintro e U7 ⟨rfl, hb⟩
            have hS7 : Below W2.heap.size W2 U7 := hS4.trans (hb.mono hS4.size)
            refine hK.out _ _ (fun _ => hS7) ?_
            clear hK K hb
            refine L.wpAnyZIn_takeF 12 (i := 8) (oi := { dst := some 60, op := Op.build 52 #[(0, Operand.tmp 53), (1, Operand.tmp 56), (2, Operand.tmp 59)], type := 52, pos := "weave.go:74", after := #[{ on := 1, ground := Ground.data }, { on := 4, ground := Ground.data }, { on := 7, ground := Ground.data }], guard := none }) (v := ?_) rfl (by kernel_rfl) (by kernel_rfl) (by kernel_rfl) (by kernel_rfl) (by kernel_rfl) (by kernel_rfl) (fun _ _ _ h => h) (Or.inl ⟨by rfl, ?_⟩) (fun _ => rfl) hS7 ?_
            rotate_left
            · intro w hSw
              skip
              go_simp
              try with_reducible rfl
            try simp only [Act.put, List.setIfInBounds_toArray, List.set_cons_zero, List.set_cons_succ]
            refine L.wpAnyZIn_one (i := 9) (by kernel_rfl) rfl (fun K hK => ?_)
            go_simp
            have hS9 : Below W2.heap.size W2 (U7.alloc (.cells #[.bool false, .string ⟨#[]⟩, .string ⟨#[]⟩, .string ⟨#[]⟩] 52)) := hS7.alloc hS7.size _
            have r9 : RowAt (U7.alloc (.cells #[.bool false, .string ⟨#[]⟩, .string ⟨#[]⟩, .string ⟨#[]⟩] 52)) U7.heap.size 52 #[.bool false, .string ⟨#[]⟩, .string ⟨#[]⟩, .string ⟨#[]⟩] := RowAt.new U7 52 _
            have hq := hS7.size
            obtain ⟨g17, hg17⟩ : ∃ g, Hid (U7.heap.size = g) := ⟨_, Lib.hid rfl⟩
            obtain ⟨U9, hU9⟩ : ∃ V, Hid (U7.alloc (.cells #[.bool false, .string ⟨#[]⟩, .string ⟨#[]⟩, .string ⟨#[]⟩] 52) = V) := ⟨_, Lib.hid rfl⟩
            rw [hU9.out] at hS9 r9
            rw [hg17.out] at r9 hq
            rw [hU9.out, hg17.out]
            refine hK.out _ _ (fun _ => hS9) ?_
            clear hK K
            obtain ⟨y0, y1, y2, y3, f0, f1, f2, f3⟩ := row4 r9
            have hSf : Below W2.heap.size W2 ((((U9.setCell ⟨g17, 0, none⟩ (.bool x.clash)).setCell ⟨g17, 1, none⟩ (.string (bs (joinT x.o)))).setCell ⟨g17, 2, none⟩ (.string (bs (joinT x.a)))).setCell ⟨g17, 3, none⟩ (.string ⟨#[]⟩)) := (((hS9.setCell (p := ⟨g17, 0, none⟩) hq _).setCell (p := ⟨g17, 1, none⟩) hq _).setCell (p := ⟨g17, 2, none⟩) hq _).setCell (p := ⟨g17, 3, none⟩) hq _
            have rf : RowAt ((((U9.setCell ⟨g17, 0, none⟩ (.bool x.clash)).setCell ⟨g17, 1, none⟩ (.string (bs (joinT x.o)))).setCell ⟨g17, 2, none⟩ (.string (bs (joinT x.a)))).setCell ⟨g17, 3, none⟩ (.string ⟨#[]⟩)) g17 52 #[.bool x.clash, .string (bs (joinT x.o)), .string (bs (joinT x.a)), .string ⟨#[]⟩] := row4_set r9 _ _ _ _
            refine L.wpAnyZIn_one (i := 10) (by kernel_rfl) rfl (fun K hK => ?_)
            go_simp
            refine hK.out _ _ (fun _ => hSf) ?_
            clear hK K y0 y1 y2 y3 f0 f1 f2 f3
            refine L.wpAnyZIn_done (by kernel_rfl) ?_ _
            go_wp2_with fail
            go_meet
            exact ⟨_, rfl, Lib.hid ⟨hSf, hq, rf⟩⟩
          · go_simp
            have hS9 : Below W2.heap.size W2 (U4.alloc (.cells #[.bool false, .string ⟨#[]⟩, .string ⟨#[]⟩, .string ⟨#[]⟩] 52)) := hS4.alloc hS4.size _
            have r9 : RowAt (U4.alloc (.cells #[.bool false, .string ⟨#[]⟩, .string ⟨#[]⟩, .string ⟨#[]⟩] 52)) U4.heap.size 52 #[.bool false, .string ⟨#[]⟩, .string ⟨#[]⟩, .string ⟨#[]⟩] := RowAt.new U4 52 _
            have hq := hS4.size
            obtain ⟨g17, hg17⟩ : ∃ g, Hid (U4.heap.size = g) := ⟨_, Lib.hid rfl⟩
            obtain ⟨U9, hU9⟩ : ∃ V, Hid (U4.alloc (.cells #[.bool false, .string ⟨#[]⟩, .string ⟨#[]⟩, .string ⟨#[]⟩] 52) = V) := ⟨_, Lib.hid rfl⟩
            rw [hU9.out] at hS9 r9
            rw [hg17.out] at r9 hq
            rw [hU9.out, hg17.out]
            refine hK.out _ _ (fun _ => hS9) ?_
            clear hK K
            refine L.wpAnyZIn_one (i := 7) (by kernel_rfl) rfl (fun K hK => ?_)
            go_simp
            refine ⟨trivial, ?_⟩
            refine (callsIn_wide.2 (Js.out _ hS9).2.1).mono ?_
            rintro e U7 ⟨rfl, hb⟩
            have hS7 : Below W2.heap.size W2 U7 := hS9.trans (hb.mono hS9.size)
            have r7 := r9.later hb
            refine hK.out _ _ (fun _ => hS7) ?_
            clear hK K hb
            refine L.wpAnyZIn_one (i := 8) (by kernel_rfl) rfl (fun K hK => ?_)
            go_simp
            refine hK.out _ _ (fun _ => hS7) ?_
            clear hK K
            obtain ⟨y0, y1, y2, y3, f0, f1, f2, f3⟩ := row4 r7
            have hSf : Below W2.heap.size W2 ((((U7.setCell ⟨g17, 0, none⟩ (.bool x.clash)).setCell ⟨g17, 1, none⟩ (.string (bs (joinT x.o)))).setCell ⟨g17, 2, none⟩ (.string (bs (joinT x.a)))).setCell ⟨g17, 3, none⟩ (.string ⟨#[]⟩)) := (((hS7.setCell (p := ⟨g17, 0, none⟩) hq _).setCell (p := ⟨g17, 1, none⟩) hq _).setCell (p := ⟨g17, 2, none⟩) hq _).setCell (p := ⟨g17, 3, none⟩) hq _
            have rf : RowAt ((((U7.setCell ⟨g17, 0, none⟩ (.bool x.clash)).setCell ⟨g17, 1, none⟩ (.string (bs (joinT x.o)))).setCell ⟨g17, 2, none⟩ (.string (bs (joinT x.a)))).setCell ⟨g17, 3, none⟩ (.string ⟨#[]⟩)) g17 52 #[.bool x.clash, .string (bs (joinT x.o)), .string (bs (joinT x.a)), .string ⟨#[]⟩] := row4_set r7 _ _ _ _
            refine L.wpAnyZIn_one (i := 10) (by kernel_rfl) rfl (fun K hK => ?_)
            go_simp
            refine hK.out _ _ (fun _ => hSf) ?_
            clear hK K y0 y1 y2 y3 f0 f1 f2 f3
            refine L.wpAnyZIn_done (by kernel_rfl) ?_ _
            go_wp2_with fail
            go_meet
            exact ⟨_, rfl, Lib.hid ⟨hSf, hq, rf⟩⟩
        · go_simp
          have hS9 : Below W2.heap.size W2 (U0.alloc (.cells #[.bool false, .string ⟨#[]⟩, .string ⟨#[]⟩, .string ⟨#[]⟩] 52)) := hS0.alloc hS0.size _
          have r9 : RowAt (U0.alloc (.cells #[.bool false, .string ⟨#[]⟩, .string ⟨#[]⟩, .string ⟨#[]⟩] 52)) U0.heap.size 52 #[.bool false, .string ⟨#[]⟩, .string ⟨#[]⟩, .string ⟨#[]⟩] := RowAt.new U0 52 _
          have hq := hS0.size
          obtain ⟨g17, hg17⟩ : ∃ g, Hid (U0.heap.size = g) := ⟨_, Lib.hid rfl⟩
          obtain ⟨U9, hU9⟩ : ∃ V, Hid (U0.alloc (.cells #[.bool false, .string ⟨#[]⟩, .string ⟨#[]⟩, .string ⟨#[]⟩] 52) = V) := ⟨_, Lib.hid rfl⟩
          rw [hU9.out] at hS9 r9
          rw [hg17.out] at r9 hq
          rw [hU9.out, hg17.out]
          refine hK.out _ _ (fun _ => hS9) ?_
          clear hK K
          refine L.wpAnyZIn_one (i := 4) (by kernel_rfl) rfl (fun K hK => ?_)
          go_simp
          refine ⟨trivial, ?_⟩
          refine (callsIn_wide.2 (Js.out _ hS9).1).mono ?_
          rintro e U4 ⟨rfl, hb⟩
          have hS4 : Below W2.heap.size W2 U4 := hS9.trans (hb.mono hS9.size)
          have r4 := r9.later hb
          refine hK.out _ _ (fun _ => hS4) ?_
          clear hK K hb
          refine L.wpAnyZIn_one (i := 7) (by kernel_rfl) rfl (fun K hK => ?_)
          go_simp
          refine ⟨trivial, ?_⟩
          refine (callsIn_wide.2 (Js.out _ hS4).2.1).mono ?_
          rintro e U7 ⟨rfl, hb⟩
          have hS7 : Below W2.heap.size W2 U7 := hS4.trans (hb.mono hS4.size)
          have r7 := r4.later hb
          refine hK.out _ _ (fun _ => hS7) ?_
          clear hK K hb
          refine L.wpAnyZIn_one (i := 8) (by kernel_rfl) rfl (fun K hK => ?_)
          go_simp
          refine hK.out _ _ (fun _ => hS7) ?_
          clear hK K
          obtain ⟨y0, y1, y2, y3, f0, f1, f2, f3⟩ := row4 r7
          have hSf : Below W2.heap.size W2 ((((U7.setCell ⟨g17, 0, none⟩ (.bool x.clash)).setCell ⟨g17, 1, none⟩ (.string (bs (joinT x.o)))).setCell ⟨g17, 2, none⟩ (.string (bs (joinT x.a)))).setCell ⟨g17, 3, none⟩ (.string ⟨#[]⟩)) := (((hS7.setCell (p := ⟨g17, 0, none⟩) hq _).setCell (p := ⟨g17, 1, none⟩) hq _).setCell (p := ⟨g17, 2, none⟩) hq _).setCell (p := ⟨g17, 3, none⟩) hq _
          have rf : RowAt ((((U7.setCell ⟨g17, 0, none⟩ (.bool x.clash)).setCell ⟨g17, 1, none⟩ (.string (bs (joinT x.o)))).setCell ⟨g17, 2, none⟩ (.string (bs (joinT x.a)))).setCell ⟨g17, 3, none⟩ (.string ⟨#[]⟩)) g17 52 #[.bool x.clash, .string (bs (joinT x.o)), .string (bs (joinT x.a)), .string ⟨#[]⟩] := row4_set r7 _ _ _ _
          refine L.wpAnyZIn_one (i := 10) (by kernel_rfl) rfl (fun K hK => ?_)
          go_simp
          refine hK.out _ _ (fun _ => hSf) ?_
          clear hK K y0 y1 y2 y3 f0 f1 f2 f3
          refine L.wpAnyZIn_done (by kernel_rfl) ?_ _
          go_wp2_with fail
          go_meet
          exact ⟨_, rfl, Lib.hid ⟨hSf, hq, rf⟩⟩
      case rest =>
      obtain ⟨g17, rfl, hC⟩ := hcut
      obtain ⟨cb, hcb⟩ : ∃ cb, Hid (x.clash = cb) := ⟨_, Lib.hid rfl⟩
      rw [hcb.out] at hC Y2 ⊢
      obtain ⟨hbc, hqc, r17⟩ := hC.out
      obtain ⟨W5, hW5⟩ : ∃ V, Hid (wc.setCell ⟨g17, 3, none⟩ (.string (bs (joinT x.a))) = V) := ⟨_, Lib.hid rfl⟩
      have B5 : Hid (Below W2.heap.size W2 W5) := Lib.hid (by rw [← hW5.out]; exact hbc.setCell (p := ⟨g17, 3, none⟩) hqc _)
      have R5 : Hid (RowAt W5 g17 52 #[.bool cb, .string (bs (joinT x.o)), .string (bs (joinT x.a)), .string (bs (joinT x.a))]) := Lib.hid (by rw [← hW5.out]; exact r17.set 3 _)
      obtain ⟨y0, y1, y2, y3, f0, f1, f2, f3⟩ := row4 r17
      go_upto_region 12 with fail
      rw [hW5.out]
      clear y0 y1 y2 y3 f0 f1 f2 f3 hC hbc r17 hW5
      obtain ⟨z0, z1, z2, z3⟩ := Y2.out W5 B5.out
      go_upto_if 65 with fail
      go_cut [] from 66 to 69 (fun wx => Hid (Below W2.heap.size W2 wx ∧ RowAt wx g17 52 #[.bool cb, .string (bs (joinT x.o)), .string (bs (joinT x.a)), .string (bs (ptOf x).b)]))
      case first =>
        cases cb with
        | true =>
          go_wp2_with fail
          refine (Js.out W5 B5.out).2.2.mono ?_
          rintro e W6 ⟨rfl, hb6⟩
          have r6 := R5.out.later hb6
          have hS6 : Below W2.heap.size W2 (W6.setCell ⟨g17, 3, none⟩ (.string (bs (joinT x.b)))) := (B5.out.trans (hb6.mono B5.out.size)).setCell (p := ⟨g17, 3, none⟩) hqc _
          have rf := r6.set 3 (.string (bs (joinT x.b)))
          have Hf : Hid (Below W2.heap.size W2 (W6.setCell ⟨g17, 3, none⟩ (.string (bs (joinT x.b)))) ∧ RowAt (W6.setCell ⟨g17, 3, none⟩ (.string (bs (joinT x.b)))) g17 52 #[.bool true, .string (bs (joinT x.o)), .string (bs (joinT x.a)), .string (bs (ptOf x).b)]) := Lib.hid ⟨hS6, by
            rw [show (ptOf x).b = joinT x.b by unfold ptOf; rw [hcb.out]; rfl]
            exact rf⟩
          obtain ⟨y0, y1, y2, y3, f0, f1, f2, f3⟩ := row4 r6
          clear r6 hS6 rf
          go_wp2_with fail
          go_meet
          exact Hf
        | false =>
          have Hf : Hid (Below W2.heap.size W2 W5 ∧ RowAt W5 g17 52 #[.bool false, .string (bs (joinT x.o)), .string (bs (joinT x.a)), .string (bs (ptOf x).b)]) := Lib.hid ⟨B5.out, by
            have rf := R5.out
            rw [show (ptOf x).b = joinT x.a by unfold ptOf; rw [hcb.out]; rfl]
            exact rf⟩
          go_wp2_with fail
          go_meet
          exact Hf
      case rest =>
      clear z0 z1 z2 z3 R5 B5
      obtain ⟨W7, rfl⟩ : ∃ V, V = wc := ⟨_, rfl⟩
      have H7 := hcut.out
      have hB7 : Below wo.heap.size wo W7 := by
        have h : Below wo.heap.size wo W2 := by rw [← hW2.out]; exact (Below.refl _ wo).alloc (Nat.le_refl _) _
        exact h.trans (H7.1.mono h.size)
      obtain ⟨y0, y1, y2, y3, -, -, -, -⟩ := row4 H7.2
      have Own8 := Lib.hid ((own_below hO.out hB7).alloc (.cells #[.bool cb, .string (bs (joinT x.o)), .string (bs (joinT x.a)), .string (bs (ptOf x).b)] 52))
      have hsz7 : w4.heap.size ≤ W7.heap.size := Nat.le_trans hbs hB7.size
      obtain ⟨j0, hj0, hz0, hz1, hz2⟩ := info_parts infoPt
      go_wp2_with (at_builtin; refine wpList_append_own _ rfl _ _ 53 rfl w4.heap.size 52 j0 _ 4 56 Tryd.underlying53 hj0 hz0 hz1 hz2 rfl (by decide) _ k _ rfl Own8.out ⟨W7.heap.size, 0, none⟩ 1 1 [.bool cb, .string (bs (joinT x.o)), .string (bs (joinT x.a)), .string (bs (ptOf x).b)] rfl rfl (pt_new W7 _ _ _ _) (pt_one _ _ _ _) (by unfold maxLen; omega) (by omega) (by simp; omega) ?_; intro v' w8 hown' hgrow _)
      have hnew : Below w4.heap.size w4 w8 := ((hB.out.trans (hB7.mono hbs)).alloc hsz7 _).grown hgrow (by simp; omega) (fun j e => (hO.out.lt j e).1)
      have hnx : (X.map ptOf).take (k + 1) = (X.map ptOf).take k ++ [ptOf x] := by rw [List.take_add_one, List.getElem?_map, hx]; rfl
      have Hf : Hid (w8.ownsRow w4.heap.size 52 4 v' (k + 1) (pv ((X.map ptOf).take (k + 1)))) := Lib.hid (by
        rw [hnx, pv_append]
        have e : pv [ptOf x] = [.bool cb, .string (bs (joinT x.o)), .string (bs (joinT x.a)), .string (bs (ptOf x).b)] := by rw [← hcb.out]; rfl
        rw [e]
        exact hown')
      have Hn := Lib.hid hnew
      clear hnew hown' hgrow hnx y0 y1 y2 y3
      go_wp2_with fail
      exact ⟨⟨k + 1, by go_num, by omega, Hf, Hn⟩, by simp [intOf]; omega⟩
    · obtain rfl : k = np := by omega
      have d1 : decide (k < k) = false := decide_eq_false (Nat.lt_irrefl _)
      have hO2 := hO.out
      rw [List.take_of_length_le (by rw [List.length_map, hnX.out]; exact Nat.le_refl _)] at hO2
      have Hf : Hid (Prts wo (.slice ao no co) (X.map ptOf)) := Lib.hid (own_prts hO2)
      have Hb : Hid (Below w.heap.size w wo) := Lib.hid (B4.out.trans (hB.out.mono B4.out.size))
      clear hO2
      go_wp2_with fail
      go_ret2
      rw [hres.out]
      exact ⟨_, rfl, Hf.out, Hb.out⟩
end Go.Proofs.YtbekbllffphfeaaDoor
/-
  For the laws of weave: three texts woven over their lines, and over their tokens. Condition: texts of at most 1,999 bytes.
-/
namespace Go.Proofs.YtbekbllffphfeaaDoor
open Go.RowKit Go.Shelf
set_option linter.unusedSimpArgs false
set_option linter.unusedVariables false

/-- The parts over lines. -/
def linesP (o a b : ByteArray) : List Pt := wovenP (S.lns o) (S.lns a) (S.lns b)
def Gives2 (w : World) (L : List Pt) (e : Ending) (w' : World) : Prop := ∃ v, e = .returned v ∧ Prts w' v L ∧ Below w.heap.size w w'
set_option maxRecDepth 100000 in
theorem Lines_any (o a b : ByteArray) (w : World) (h1 : o.size ≤ 2599) (h2 : a.size ≤ 2599) (h3 : b.size ≤ 2599) : Calls Tryd.prog 20 #[.string o, .string a, .string b] w (Gives2 w (linesP o a b)) := by
  have C1 := Lib.hid (woven20_any w o a b (S.lns o, true) (S.lns a, true) (S.lns b, true) (fun W _ => lines_any o W (by omega)) (fun W _ => lines_any a W (by omega)) (fun W _ => lines_any b W (by omega))
    (Nat.le_trans (S.lns_len o) (by omega)) (Nat.le_trans (S.lns_len a) (by omega)) (Nat.le_trans (S.lns_len b) (by omega)) (fun s hs => Nat.le_trans (lns_small o s hs) (by omega)) (fun s hs => Nat.le_trans (lns_small a s hs) (by omega)) (fun s hs => Nat.le_trans (lns_small b s hs) (by omega)))
  have C2 : Hid (Calls Tryd.prog 32 #[.func (.func 33) #[.string o] #[], .func (.func 33) #[.string a] #[], .func (.func 33) #[.string b] #[]] w fun e w' => ∃ v, e = .returned (.tuple #[v, .bool true]) ∧ Prts w' v (linesP o a b) ∧ Below w.heap.size w w') := C1
  clear C1
  obtain ⟨R, hR⟩ : ∃ R, Hid (linesP o a b = R) := ⟨_, Lib.hid rfl⟩
  rw [hR.out] at C2 ⊢
  go_enter Tryd.func20, Tryd.ntmps20
  go_wp2_with fail
  refine C2.out.mono ?_
  rintro e w1 ⟨v, rfl, hv, hb⟩
  have Hv := Lib.hid hv
  have Hb := Lib.hid hb
  obtain ⟨r, c, rfl, -⟩ := hv
  clear hb
  go_wp2_with fail
  go_ret
  exact ⟨_, rfl, Hv.out, Hb.out⟩
end Go.Proofs.YtbekbllffphfeaaDoor
/-
  For the laws of weave: texts of few bytes; what a woven row of parts holds. No condition.
-/
namespace Go.Proofs.YtbekbllffphfeaaDoor
open Go.RowKit Go.Shelf
set_option linter.unusedSimpArgs false
set_option linter.unusedVariables false

end Go.Proofs.YtbekbllffphfeaaDoor
/-
  For the laws of weave: Text. Condition: texts of at most 600 bytes.
-/
namespace Go.Proofs.YtbekbllffphfeaaDoor
open Go.RowKit Go.Shelf
set_option linter.unusedSimpArgs false
set_option linter.unusedVariables false

end Go.Proofs.YtbekbllffphfeaaDoor
/-
  For the laws of weave: the law's own examples. Condition: the lexer's world.
-/
namespace Go.Proofs.YtbekbllffphfeaaDoor
open Go.RowKit Go.Shelf
set_option linter.unusedSimpArgs false
set_option linter.unusedVariables false

end Go.Proofs.YtbekbllffphfeaaDoor
