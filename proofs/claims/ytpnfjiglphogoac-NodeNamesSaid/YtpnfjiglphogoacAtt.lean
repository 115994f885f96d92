/-
  For the laws of node: contains, IndexFunc at it, At. Condition: at most 2,000,000 nodes.
-/
import Derived.Test.YtpnfjiglphogoacAow
namespace Go.Proofs.Ytpnfjiglphogoac
open Go.RowKit Go.Shelf
set_option linter.unusedSimpArgs false
set_option linter.unusedVariables false

/-- Is the offset in the node's span? -/
def inN (at_ : Int) (t : Nd) : Bool := decide (t.hd.fr ≤ at_) && decide (at_ < t.hd.to_)
/-- The first of the kids that holds the offset. -/
def firstIn (at_ : Int) (ks : List Nd) : Option Nat := ks.findIdx? (inN at_)
/-- The way on, of at most so many steps. -/
def wayF (at_ : Int) : Nat → Nd → List Nat
  | 0, _ => []
  | k + 1, t => match firstIn at_ t.kids with
    | none => []
    | some i => match t.kids[i]? with
      | none => []
      | some x => i :: wayF at_ k x
theorem wayF_up (at_ : Int) : ∀ (k : Nat) (t : Nd), t.ht ≤ k + 1 → wayF at_ (k + 1) t = wayF at_ k t
  | 0, t, h => by
    have h0 : t.kids = [] := by
      have := ht_kids t
      cases hk : t.kids with
      | nil => rfl
      | cons x L => rw [hk, htL] at this; have := ht_kids x; omega
    simp [wayF, firstIn, h0]
  | k + 1, t, h => by
    rw [wayF, wayF]
    cases hf : firstIn at_ t.kids with
    | none => rfl
    | some i =>
      dsimp only
      cases hx : t.kids[i]? with
      | none => rfl
      | some x =>
        have h1 := htL_mem (List.mem_of_getElem? hx)
        have h2 := ht_kids t
        dsimp only
        rw [wayF_up at_ k x (by omega)]
/-- The way to the offset. -/
def wayN (at_ : Int) (t : Nd) : List Nat := wayF at_ t.ht t
theorem wayF_eq (at_ : Int) (t : Nd) : ∀ d, wayF at_ (t.ht + d) t = wayN at_ t
  | 0 => rfl
  | d + 1 => by rw [show t.ht + (d + 1) = (t.ht + d) + 1 by omega, wayF_up at_ (t.ht + d) t (by omega), wayF_eq at_ t d]
theorem wayN_none {at_ : Int} {t : Nd} (h : firstIn at_ t.kids = none) : wayN at_ t = [] := by
  have := ht_kids t
  unfold wayN
  rw [this, wayF, h]
theorem wayN_some {at_ : Int} {t x : Nd} {i : Nat} (h : firstIn at_ t.kids = some i) (hx : t.kids[i]? = some x) : wayN at_ t = i :: wayN at_ x := by
  have h1 := ht_kids t
  have h2 := htL_mem (List.mem_of_getElem? hx)
  have e : wayN at_ t = i :: wayF at_ (htL t.kids) x := by
    unfold wayN
    rw [h1, wayF, h]
    dsimp only
    rw [hx]
  rw [e, show htL t.kids = x.ht + (htL t.kids - x.ht) by omega, wayF_eq]
theorem wayN_len (at_ : Int) (t : Nd) : (wayN at_ t).length ≤ t.ht := by
  have h : ∀ k t, (wayF at_ k t).length ≤ k := fun k => by
    induction k with
    | zero => intro t; simp [wayF]
    | succ k ih =>
      intro t
      rw [wayF]
      split
      · simp
      · split
        · simp
        · rename_i x _; have := ih x; simp; omega
  exact h _ _
set_option maxRecDepth 100000 in
set_option maxHeartbeats 8000000 in
theorem contains_any (t : Nd) (kv : Value) (at_ : Int) (w : World) (hk : KidsAt w t.kids kv) : Calls Try.prog 29 #[.agg #[.int .i64 t.hd.kind, .string (bs t.hd.text), .string (bs t.hd.type), .int .i64 t.hd.n, .int .i64 t.hd.fr, .int .i64 t.hd.to_, .int .i64 t.hd.at_, .int .i64 t.hd.tat, kv], .int .i64 at_] w fun e w' => e = .returned (.bool (inN at_ t)) ∧ Below w.heap.size w w' := by
  obtain ⟨a, cap, rfl, -⟩ := hk.get
  clear hk
  obtain ⟨n, hn⟩ : ∃ n, Hid (t.kids.length = n) := ⟨_, Lib.hid rfl⟩
  rw [hn.out]
  have B1 := Lib.hid ((Below.refl _ w).alloc (Nat.le_refl _) (.cells #[.int .i64 t.hd.kind, .string (bs t.hd.text), .string (bs t.hd.type), .int .i64 t.hd.n, .int .i64 t.hd.fr, .int .i64 t.hd.to_, .int .i64 t.hd.at_, .int .i64 t.hd.tat, .slice a n cap] 24))
  unfold inN
  by_cases h1 : t.hd.fr ≤ at_
  · have g1 : decide (t.hd.fr ≤ at_) = true := decide_eq_true h1
    rw [g1]
    go_enter Try.func29, Try.ntmps29
    go_wp2_with fail
    go_ret
    exact ⟨by simp, B1.out⟩
  · have g1 : decide (t.hd.fr ≤ at_) = false := decide_eq_false h1
    rw [g1]
    go_enter Try.func29, Try.ntmps29
    go_wp2_with fail
    go_ret
    exact ⟨rfl, B1.out⟩
set_option maxRecDepth 100000 in
set_option maxHeartbeats 8000000 in
theorem At1_any (t : Nd) (kv : Value) (B : Nat) (at_ : Int) (w : World) (hk : KidsAt w t.kids kv) (hB : w.cell? ⟨B, 0, none⟩ = some (.int .i64 at_)) : Calls Try.prog 31 #[.agg #[.int .i64 t.hd.kind, .string (bs t.hd.text), .string (bs t.hd.type), .int .i64 t.hd.n, .int .i64 t.hd.fr, .int .i64 t.hd.to_, .int .i64 t.hd.at_, .int .i64 t.hd.tat, kv], .pointer (some ⟨B, 0, none⟩)] w fun e w' => e = .returned (.bool (inN at_ t)) ∧ Below w.heap.size w w' := by
  have HK := Lib.hid hk
  obtain ⟨a, cap, rfl, -⟩ := hk.get
  clear hk
  obtain ⟨n, hn⟩ : ∃ n, Hid (t.kids.length = n) := ⟨_, Lib.hid rfl⟩
  rw [hn.out] at HK
  rw [hn.out]
  obtain ⟨W1, hW1⟩ : ∃ W1, Hid (w.alloc (.cells #[.int .i64 t.hd.kind, .string (bs t.hd.text), .string (bs t.hd.type), .int .i64 t.hd.n, .int .i64 t.hd.fr, .int .i64 t.hd.to_, .int .i64 t.hd.at_, .int .i64 t.hd.tat, .slice a n cap] 24) = W1) := ⟨_, Lib.hid rfl⟩
  have R1 : Hid (RowAt W1 w.heap.size 24 (t.hd.vals (.slice a n cap))) := by rw [← hW1.out]; exact Lib.hid (RowAt.new w 24 _)
  have B1 : Hid (Below w.heap.size w W1) := by rw [← hW1.out]; exact Lib.hid ((Below.refl _ w).alloc (Nat.le_refl _) _)
  have hBl : B < w.heap.size := World.block_lt_of_cell? w _ hB
  have cb : W1.cell? ⟨B, 0, none⟩ = some (.int .i64 at_) := (B1.out.cell (p := ⟨B, 0, none⟩) hBl).trans hB
  obtain ⟨d0, d1, d2, d3, d4, d5, d6, d7, d8⟩ := Cells.row R1.out
  simp only [Nat.zero_add] at d1 d2 d3 d4 d5 d6 d7 d8
  have cb0 : (w.alloc (.cells #[.int .i64 t.hd.kind, .string (bs t.hd.text), .string (bs t.hd.type), .int .i64 t.hd.n, .int .i64 t.hd.fr, .int .i64 t.hd.to_, .int .i64 t.hd.at_, .int .i64 t.hd.tat, .slice a n cap] 24)).cell? ⟨B, 0, none⟩ = some (.int .i64 at_) := by rw [hW1.out]; exact cb
  have Call := Lib.hid (contains_any t (.slice a n cap) at_ W1 (HK.out.below B1.out))
  clear hB
  go_enter Try.func31, Try.ntmps31
  go_wp2_with fail
  rw [hW1.out]
  go_wp2_with fail
  refine Call.out.mono ?_
  rintro e w2 ⟨rfl, b2⟩
  have B2 := Lib.hid (B1.out.trans (b2.mono B1.out.size))
  clear b2 d0 d1 d2 d3 d4 d5 d6 d7 d8 cb cb0
  go_wp2_with fail
  go_ret
  exact ⟨rfl, B2.out⟩
/-- What IndexFunc answers. -/
def idxV (r : Option Nat) : Int := match r with | none => -1 | some i => (i : Int)
theorem findIdx_take {p : Nd → Bool} {ks : List Nd} {k : Nat} {x : Nd} (hx : ks[k]? = some x) (h : ∀ (j : Nat) (y : Nd), j < k → ks[j]? = some y → p y = false) (hp : p x = true) : ks.findIdx? p = some k := by
  have hk := (List.getElem?_eq_some_iff.1 hx).1
  rw [List.findIdx?_eq_some_iff_getElem]
  refine ⟨hk, by rw [(List.getElem?_eq_some_iff.1 hx).2]; exact hp, fun j hj => ?_⟩
  have := h j ks[j] hj (List.getElem?_eq_getElem (by omega))
  simp [this]
theorem findIdx_no {p : Nd → Bool} {ks : List Nd} (h : ∀ (j : Nat) (y : Nd), ks[j]? = some y → p y = false) : ks.findIdx? p = none := by
  rw [List.findIdx?_eq_none_iff]
  intro x hx
  obtain ⟨j, hj⟩ := List.getElem?_of_mem hx
  exact h j x hj
set_option maxRecDepth 100000 in
set_option maxHeartbeats 8000000 in
theorem Index_any (ks : List Nd) (v : Value) (B : Nat) (at_ : Int) (w : World) (hk : KidsAt w ks v) (hB : w.cell? ⟨B, 0, none⟩ = some (.int .i64 at_)) : Calls Try.prog 30 #[v, .func (.func 31) #[] #[.pointer (some ⟨B, 0, none⟩)]] w fun e w' => e = .returned (.int .i64 (idxV (firstIn at_ ks))) ∧ Below w.heap.size w w' := by
  obtain ⟨a, cap, rfl, hc, hcap, hx⟩ := hk.get
  have Hx := Lib.hid hx
  have hBl : B < w.heap.size := World.block_lt_of_cell? w _ hB
  have HB := Lib.hid hB
  clear hx hk hB
  obtain ⟨R, hR⟩ : ∃ R, Hid (idxV (firstIn at_ ks) = R) := ⟨_, Lib.hid rfl⟩
  rw [hR.out]
  obtain ⟨n, hn⟩ : ∃ n, Hid (ks.length = n) := ⟨_, Lib.hid rfl⟩
  rw [hn.out] at hc
  rw [hn.out]
  have hcap' := hcap
  unfold maxLen at hcap'
  go_enter Try.func30, Try.ntmps30
  go_wp2_with fail
  go_loopw [8] (fun c wr => ∃ k : Nat, c = .int .i64 k ∧ k ≤ n ∧ Hid (∀ (j : Nat) (y : Nd), j < k → ks[j]? = some y → inN at_ y = false) ∧ Hid (Below w.heap.size w wr)) (fun c _ => n - (intOf c).toNat)
  case atStart => exact ⟨0, rfl, by omega, Lib.hid (fun j y h => by omega), Lib.hid (Below.refl _ _)⟩
  case round =>
    obtain ⟨k, rfl, hk, hP, hBw⟩ := hrel
    have hbs := hBw.out.size
    by_cases hlt : k < n
    · obtain ⟨x, hx⟩ : ∃ x, ks[k]? = some x := ⟨_, List.getElem?_eq_getElem (by rw [hn.out]; exact hlt)⟩
      obtain ⟨b, off, kv, rfl, cs, hk2⟩ := Hx.out k x hx
      obtain ⟨d0, d1, d2, d3, d4, d5, d6, d7, d8⟩ := cs.later hBw.out
      have p0 : (k : Int) < (n : Int) := by omega
      have p1 : (0 : Int) ≤ (k : Int) := by omega
      have Call := Lib.hid (At1_any x kv B at_ wr (hk2.below hBw.out) ((hBw.out.cell (p := ⟨B, 0, none⟩) hBl).trans HB.out))
      have Hxx := Lib.hid hx
      clear cs hx hk2
      go_wp2_with fail
      refine Call.out.mono ?_
      rintro e w2 ⟨rfl, b2⟩
      have B2 := Lib.hid (hBw.out.trans (b2.mono hbs))
      obtain ⟨q, hq⟩ : ∃ q, Hid (inN at_ x = q) := ⟨_, Lib.hid rfl⟩
      rw [hq.out]
      clear b2 d0 d1 d2 d3 d4 d5 d6 d7 d8
      cases q with
      | true =>
        have hfin : Hid ((k : Int) = R) := Lib.hid (by
          have e : firstIn at_ ks = some k := findIdx_take Hxx.out hP.out hq.out
          rw [← hR.out, e]; rfl)
        go_wp2_with fail
        go_ret
        exact ⟨by rw [hfin.out]; rfl, B2.out⟩
      | false =>
        go_wp2_with fail
        exact ⟨⟨k + 1, by go_num, by omega, Lib.hid (fun j y hj hy => by
          by_cases hjk : j < k
          · exact hP.out j y hjk hy
          · obtain rfl : j = k := by omega
            obtain rfl := Option.some.inj (Hxx.out.symm.trans hy)
            exact hq.out), B2⟩, by simp [intOf]; omega⟩
    · obtain rfl : k = n := by omega
      have hfin : Hid ((-1 : Int) = R) := Lib.hid (by
        have e : firstIn at_ ks = none := findIdx_no fun j y hj => hP.out j y (by rw [← hn.out]; exact (List.getElem?_eq_some_iff.1 hj).1) hj
        rw [← hR.out, e]; rfl)
      go_wp2_with fail
      go_ret
      exact ⟨by rw [hfin.out]; rfl, hBw.out⟩
end Go.Proofs.Ytpnfjiglphogoac
