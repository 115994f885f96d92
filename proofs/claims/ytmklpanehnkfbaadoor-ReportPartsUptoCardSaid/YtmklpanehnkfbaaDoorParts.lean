/-
  For the law ReportParts. Condition: the program's tables are as they are laid; each text handed in has at most 1,048,576 bytes.
-/
import Derived.Test.YtmklpanehnkfbaaDoorWake
import Derived.Test.YtmklpanehnkfbaaDoorSplit
namespace Go.Proofs.YtmklpanehnkfbaaDoor
open Go.RowKit Go.Shelf

/-- What must have no newline, thing by thing. -/
def pieces (L R : List Rq) (C : List Cf) : List (List UInt8) := L.map (fun r => r.id ++ r.to) ++ R.map (fun r => r.id ++ r.to) ++ C.map (fun c => c.key)
theorem piece_L {L R : List Rq} {C : List Cf} {i : Nat} {x : Rq} (h : L[i]? = some x) : (pieces L R C)[i]? = some (x.id ++ x.to) := by
  have hi := (List.getElem?_eq_some_iff.1 h).1
  unfold pieces
  rw [List.append_assoc, List.getElem?_append_left (by rw [List.length_map]; exact hi), List.getElem?_map, h]
  rfl
theorem piece_R {L R : List Rq} {C : List Cf} {i : Nat} {x : Rq} (h : R[i]? = some x) : (pieces L R C)[L.length + i]? = some (x.id ++ x.to) := by
  have hi := (List.getElem?_eq_some_iff.1 h).1
  unfold pieces
  rw [List.append_assoc, List.getElem?_append_right (by rw [List.length_map]; omega), List.length_map, Nat.add_sub_cancel_left, List.getElem?_append_left (by rw [List.length_map]; exact hi), List.getElem?_map, h]
  rfl
theorem piece_C {L R : List Rq} {C : List Cf} {i : Nat} {x : Cf} (h : C[i]? = some x) : (pieces L R C)[L.length + R.length + i]? = some x.key := by
  unfold pieces
  rw [List.getElem?_append_right (by first | (simp; done) | (simp; omega)), List.length_append, List.length_map, List.length_map, Nat.add_sub_cancel_left, List.getElem?_map, h]
  rfl
theorem pieces_len (L R : List Rq) (C : List Cf) : (pieces L R C).length = L.length + R.length + C.length := by unfold pieces; simp [Nat.add_assoc]
def cutQ (w : List UInt8) (r : Rq) : List UInt8 := w ++ showOf r.kind r.id r.to
def cutC (c : Cf) : List UInt8 := wBad ++ conOf c.kind c.key
def cutsT (k : Int) (L R : List Rq) (C : List Cf) : List (List UInt8) := [outOf k] ++ (L.map (cutQ wLeft) ++ (R.map (cutQ wRight) ++ C.map cutC))
theorem text_cuts (k : Int) (L R : List Rq) (C : List Cf) : textT k L R C = (cutsT k L R C).flatMap ends := by
  have h1 : ∀ (w : List UInt8) (L : List Rq), reqsT w L = (L.map (cutQ w)).flatMap ends := fun w L => by
    unfold reqsT
    rw [List.flatMap_map]
    rfl
  have h2 : badT C = (C.map cutC).flatMap ends := by
    unfold badT
    rw [List.flatMap_map]
    rfl
  unfold textT cutsT
  rw [h1, h1, h2, List.flatMap_append, List.flatMap_append, List.flatMap_append]
  simp [headT, ends]
theorem getD_nl {L : List (List UInt8)} (h : ∀ x ∈ L, 10 ∉ x) (i : Nat) : 10 ∉ L.getD i [] := by
  rw [List.getD_eq_getElem?_getD]
  cases hx : L[i]? with
  | none => simp
  | some x => exact h x (List.mem_of_getElem? hx)
theorem showOf_nl {k : Int} {id to : List UInt8} (h : 10 ∉ id ++ to) : 10 ∉ showOf k id to := by
  have h1 : 10 ∉ id := fun e => h (List.mem_append_left _ e)
  have h2 : 10 ∉ to := fun e => h (List.mem_append_right _ e)
  unfold showOf
  split
  · have h3 := getD_nl (L := reqW) (by decide) (k - 1).toNat
    simp only [List.mem_append, List.mem_cons, List.not_mem_nil, or_false, not_or]
    exact ⟨⟨⟨⟨h3, by decide⟩, h1⟩, by decide, by decide, by decide, by decide⟩, h2⟩
  · simp
theorem conOf_nl {k : Int} {key : List UInt8} (h : 10 ∉ key) : 10 ∉ conOf k key := by
  unfold conOf
  split
  · rw [withKey_nl (getD_nl (L := conW) (by decide) _)]
    exact h
  · simp
theorem cuts_nl {k : Int} {L R : List Rq} {C : List Cf} (h : ∀ x ∈ pieces L R C, 10 ∉ x) : ∀ x ∈ cutsT k L R C, 10 ∉ x := by
  intro x hx
  unfold cutsT at hx
  rw [List.mem_append, List.mem_append, List.mem_append] at hx
  rcases hx with hx | hx | hx | hx
  · rw [List.mem_singleton.1 hx]
    unfold outOf
    split
    · exact getD_nl (L := outW) (by decide) _
    · simp
  · obtain ⟨r, hr, rfl⟩ := List.mem_map.1 hx
    have := h (r.id ++ r.to) (by unfold pieces; exact List.mem_append_left _ (List.mem_append_left _ (List.mem_map.2 ⟨r, hr, rfl⟩)))
    unfold cutQ
    rw [List.mem_append, not_or]
    exact ⟨by decide, showOf_nl this⟩
  · obtain ⟨r, hr, rfl⟩ := List.mem_map.1 hx
    have := h (r.id ++ r.to) (by unfold pieces; exact List.mem_append_left _ (List.mem_append_right _ (List.mem_map.2 ⟨r, hr, rfl⟩)))
    unfold cutQ
    rw [List.mem_append, not_or]
    exact ⟨by decide, showOf_nl this⟩
  · obtain ⟨c, hc, rfl⟩ := List.mem_map.1 hx
    have := h c.key (by unfold pieces; exact List.mem_append_right _ (List.mem_map.2 ⟨c, hc, rfl⟩))
    unfold cutC
    rw [List.mem_append, not_or]
    exact ⟨by decide, conOf_nl this⟩
theorem cnt_sum (C : List Cf) : cnt C 0 + cnt C 1 + cnt C 2 + cnt C 3 + cnt C 4 ≤ C.length := by
  induction C with
  | nil => simp [cnt]
  | cons c C ih =>
    have e : ∀ j, cnt (c :: C) j = cnt C j + if c.kind = (j : Int) + 1 then 1 else 0 := fun j => by
      unfold cnt
      rw [List.countP_cons]
      simp only [decide_eq_true_eq]
      split <;> simp
    rw [e, e, e, e, e, List.length_cons]
    have : (if c.kind = ((0 : Nat) : Int) + 1 then (1 : Int) else 0) + (if c.kind = ((1 : Nat) : Int) + 1 then 1 else 0) + (if c.kind = ((2 : Nat) : Int) + 1 then 1 else 0) + (if c.kind = ((3 : Nat) : Int) + 1 then 1 else 0) + (if c.kind = ((4 : Nat) : Int) + 1 then 1 else 0) ≤ 1 := by
      split <;> split <;> split <;> split <;> split <;> omega
    omega
def sumTo (f : Nat → Int) : Nat → Int
  | 0 => 0
  | k + 1 => sumTo f k + f k
theorem sumTo_bd {f : Nat → Int} {m : Int} (h : ∀ j, 0 ≤ f j ∧ f j ≤ m) (hm : 0 ≤ m) : ∀ k, k ≤ 5 → 0 ≤ sumTo f k ∧ sumTo f k ≤ 5 * m
  | k, hk => by
    have : ∀ k : Nat, 0 ≤ sumTo f k ∧ sumTo f k ≤ (k : Int) * m := by
      intro k
      induction k with
      | zero => simp [sumTo]
      | succ k ih =>
        have := h k
        have e : ((k + 1 : Nat) : Int) * m = (k : Int) * m + m := by rw [Int.natCast_add, Int.add_mul]; simp
        rw [sumTo, e]
        omega
    obtain ⟨a, b⟩ := this k
    refine ⟨a, Int.le_trans b (Int.mul_le_mul_of_nonneg_right (by omega) hm)⟩
set_option maxRecDepth 100000 in
set_option maxHeartbeats 32000000 in
theorem reportParts_any (v1 v2 v3 : Value) (L R : List Rq) (C : List Cf) (w : World) (h1 : Rqs w v1 L) (h2 : Rqs w v2 R) (h3 : Cfs w v3 C) (zL : ∀ r ∈ L, r.id.length ≤ 1048576 ∧ r.to.length ≤ 1048576) (zR : ∀ r ∈ R, r.id.length ≤ 1048576 ∧ r.to.length ≤ 1048576) (zC : ∀ r ∈ C, r.key.length ≤ 1048576) (hW : RepW w) :
    Calls Tryd.prog 6 #[v1, v2, v3] w fun e w' => e = .returned (.bool true) ∧ Below w.heap.size w w' := by
  have HW := Lib.hid hW; clear hW
  have hW4 := HW.out.size
  have H1 := Lib.hid h1
  have H2 := Lib.hid h2
  have H3 := Lib.hid h3
  obtain ⟨a1, cap1, rfl, hc1, hm1, hat1⟩ := h1
  obtain ⟨a2, cap2, rfl, hc2, hm2, hat2⟩ := h2
  obtain ⟨a3, cap3, rfl, hc3, hm3, hat3⟩ := h3
  have Hat1 := Lib.hid hat1
  have Hat2 := Lib.hid hat2
  have Hat3 := Lib.hid hat3
  have ZL := Lib.hid zL
  have ZR := Lib.hid zR
  have ZC := Lib.hid zC
  clear hat1 hat2 hat3 zL zR zC
  unfold maxLen at hm1 hm2 hm3
  go_enter Tryd.func6, Tryd.ntmps6
  go_wp2_with fail
  refine (awake_any _ HW.out).mono ?_
  rintro e w2 ⟨rfl, b2⟩
  have hB2 := Lib.hid b2
  have hs2 := b2.size
  clear b2
  by_cases l1 : 30 < L.length
  · have d1 : decide ((30 : Int) < (L.length : Int)) = true := by first | (simp; done) | (simp; omega)
    go_wp2_with fail
    go_ret
    exact ⟨rfl, hB2.out⟩
  have d1 : decide ((30 : Int) < (L.length : Int)) = false := by first | (simp; done) | (simp; omega)
  by_cases l2 : 30 < R.length
  · have d2 : decide ((30 : Int) < (R.length : Int)) = true := by first | (simp; done) | (simp; omega)
    go_wp2_with fail
    go_ret
    exact ⟨rfl, hB2.out⟩
  have d2 : decide ((30 : Int) < (R.length : Int)) = false := by first | (simp; done) | (simp; omega)
  by_cases l3 : 30 < C.length
  · have d3 : decide ((30 : Int) < (C.length : Int)) = true := by first | (simp; done) | (simp; omega)
    go_wp2_with fail
    go_ret
    exact ⟨rfl, hB2.out⟩
  have d3 : decide ((30 : Int) < (C.length : Int)) = false := by first | (simp; done) | (simp; omega)
  have hpl := pieces_len L R C
  have Hpl := Lib.hid hpl
  clear hpl
  go_wp2_with fail
  go_loopw [8] (fun c wr => ∃ i q : Nat, Hid (wr = w2.drewN q) ∧ c = .int .i64 i ∧ i ≤ L.length + R.length + C.length ∧ Hid (∀ j x, j < i → (pieces L R C)[j]? = some x → 10 ∉ x)) (fun c _ => L.length + R.length + C.length - (intOf c).toNat)
  case atStart => exact ⟨0, 0, Lib.hid rfl, rfl, by omega, Lib.hid (fun j x h => by omega)⟩
  case round =>
    obtain ⟨i, q, hq, rfl, hi, hno⟩ := hrel
    have hBr : Hid (Below w.heap.size w wr) := Lib.hid (by rw [hq.out]; exact below_draws hB2.out q)
    have step : ∀ (x : List UInt8), (pieces L R C)[i]? = some x → 10 ∉ x → Hid (∀ j x, j < i + 1 → (pieces L R C)[j]? = some x → 10 ∉ x) := fun x hx h10 => Lib.hid (fun j y hj hy => by
      rcases Nat.lt_or_ge j i with h' | h'
      · exact hno.out j y h' hy
      · obtain rfl : j = i := by omega
        rw [hx] at hy
        cases hy
        exact h10)
    have Step := Lib.hid step
    clear step
    by_cases b1 : i < L.length
    · obtain ⟨x, hx⟩ : ∃ x, L[i]? = some x := ⟨_, List.getElem?_eq_getElem b1⟩
      have d4 : decide (i < L.length) = true := by simpa using b1
      have d5 : decide ((i : Int) < (L.length : Int) + (R.length : Int) + (C.length : Int)) = true := by first | (simp; done) | (simp; omega)
      have d5' : decide (i < L.length + R.length + C.length) = true := by first | (simp; done) | (simp; omega)
      obtain ⟨b, off, rfl, hbl, hl0, hl1, hl2⟩ := Hat1.out i x hx
      have c1 : wr.cell? ⟨b, off + i * 3 + 1, none⟩ = some (.string (bs x.id)) := (hBr.out.cell (p := ⟨b, off + i * 3 + 1, none⟩) hbl).trans hl1
      have c2 : wr.cell? ⟨b, off + i * 3 + 2, none⟩ = some (.string (bs x.to)) := (hBr.out.cell (p := ⟨b, off + i * 3 + 2, none⟩) hbl).trans hl2
      obtain ⟨y1, y2⟩ := ZL.out x (List.mem_of_getElem? hx)
      have s1 : (bs x.id).size = x.id.length := bs_size _
      have s2 : (bs x.to).size = x.to.length := bs_size _
      obtain ⟨X, hX⟩ : ∃ X, Hid (bs x.id ++ bs x.to = X) := ⟨_, Lib.hid rfl⟩
      have hXt : Hid (tl X = x.id ++ x.to) := Lib.hid (by rw [← hX.out, bs_app, tl_bs])
      have hXs : X.size ≤ 2097152 := by rw [← hX.out, ByteArray.size_append]; omega
      have Hp := Lib.hid (piece_L (R := R) (C := C) hx)
      clear hl0 hl1 hl2 hx
      go_wp2_with fail
      go_quiet (fail)
      go_wp2_with fail
      rw [hX.out]
      go_loop [10] (fun c => ∃ j : Nat, c = .int .i64 j ∧ j ≤ X.size ∧ Hid (∀ (m : Nat) y, m < j → (tl X)[m]? = some y → y ≠ 10)) (fun c => X.size - (intOf c).toNat)
      case atStart => exact ⟨0, rfl, by omega, Lib.hid (fun m y h => by omega)⟩
      case round =>
        obtain ⟨j, rfl, hj, hn⟩ := hrel
        by_cases hlt : j < X.size
        · have hg := tl_get X hlt
          by_cases h10 : (X[j].toNat : Int) = 10
          · have hd : ((X[j].toNat : Int) == 10) = true := by simpa using h10
            clear h10 hg
            go_wp2_with fail
            go_ret
            exact ⟨rfl, below_draws hBr.out _⟩
          · have hd : ((X[j].toNat : Int) == 10) = false := by simpa using h10
            have hnx : Hid (∀ (m : Nat) y, m < j + 1 → (tl X)[m]? = some y → y ≠ 10) := Lib.hid (fun m y hm hy => by
              rcases Nat.lt_or_ge m j with h | h
              · exact hn.out m y h hy
              · obtain rfl : m = j := by omega
                rw [hg] at hy
                cases hy
                intro e
                apply h10
                rw [e]; rfl)
            clear h10 hg hn
            go_wp2_with fail
            exact ⟨⟨j + 1, by go_num, by omega, hnx⟩, by simp [intOf]; omega⟩
        · obtain rfl : j = X.size := by omega
          have h10 : 10 ∉ tl X := fun hm => by
            obtain ⟨m, hm⟩ := List.getElem?_of_mem hm
            have hml := (List.getElem?_eq_some_iff.1 hm).1
            rw [tl_length] at hml
            exact hn.out m 10 hml hm rfl
          rw [hXt.out] at h10
          have hnx := Step.out _ Hp.out h10
          clear hn h10
          go_wp2_with fail
          exact ⟨⟨i + 1, q + nq, Lib.hid (by rw [hq.out, World.drewN_drewN]), by go_num, by omega, hnx⟩, by simp [intOf]; omega⟩
    by_cases b2 : i < L.length + R.length
    · obtain ⟨t, rfl⟩ : ∃ t, i = L.length + t := ⟨i - L.length, by omega⟩
      obtain ⟨x, hx⟩ : ∃ x, R[t]? = some x := ⟨_, List.getElem?_eq_getElem (by omega)⟩
      have d4 : decide (((L.length + t : Nat) : Int) < (L.length : Int)) = false := by first | (simp; done) | (simp; omega)
      have d4' : decide ((L.length : Int) + (t : Int) < (L.length : Int)) = false := by first | (simp; done) | (simp; omega)
      have d4'' : decide (L.length + t < L.length) = false := by first | (simp; done) | (simp; omega)
      have d5 : decide ((L.length : Int) + (t : Int) < (L.length : Int) + (R.length : Int) + (C.length : Int)) = true := by first | (simp; done) | (simp; omega)
      have d5' : decide (L.length + t < L.length + R.length + C.length) = true := by first | (simp; done) | (simp; omega)
      have d6 : decide ((L.length : Int) + (t : Int) < (L.length : Int) + (R.length : Int)) = true := by first | (simp; done) | (simp; omega)
      have d6' : decide (L.length + t < L.length + R.length) = true := by first | (simp; done) | (simp; omega)
      obtain ⟨b, off, rfl, hbl, hl0, hl1, hl2⟩ := Hat2.out t x hx
      have c1 : wr.cell? ⟨b, off + t * 3 + 1, none⟩ = some (.string (bs x.id)) := (hBr.out.cell (p := ⟨b, off + t * 3 + 1, none⟩) hbl).trans hl1
      have c2 : wr.cell? ⟨b, off + t * 3 + 2, none⟩ = some (.string (bs x.to)) := (hBr.out.cell (p := ⟨b, off + t * 3 + 2, none⟩) hbl).trans hl2
      obtain ⟨y1, y2⟩ := ZR.out x (List.mem_of_getElem? hx)
      have s1 : (bs x.id).size = x.id.length := bs_size _
      have s2 : (bs x.to).size = x.to.length := bs_size _
      obtain ⟨X, hX⟩ : ∃ X, Hid (bs x.id ++ bs x.to = X) := ⟨_, Lib.hid rfl⟩
      have hXt : Hid (tl X = x.id ++ x.to) := Lib.hid (by rw [← hX.out, bs_app, tl_bs])
      have hXs : X.size ≤ 2097152 := by rw [← hX.out, ByteArray.size_append]; omega
      have Hp := Lib.hid (piece_R (L := L) (C := C) hx)
      have i1 : IntKind.i64.wrap ((L.length : Int) + (t : Int) - (L.length : Int)) = t := by rw [Go.IntWalk.i64_in _ (by omega)]; omega
      have i2 : IntKind.i64.wrap (((L.length + t : Nat) : Int) - (L.length : Int)) = t := by rw [Go.IntWalk.i64_in _ (by omega)]; omega
      have i3 : (L.length : Int) + (t : Int) - (L.length : Int) = t := by omega
      have i4 : (t : Int) < (R.length : Int) := by omega
      clear hl0 hl1 hl2 hx b1
      go_wp2_with fail
      go_quiet (fail)
      go_wp2_with fail
      rw [hX.out]
      go_loop [10] (fun c => ∃ j : Nat, c = .int .i64 j ∧ j ≤ X.size ∧ Hid (∀ (m : Nat) y, m < j → (tl X)[m]? = some y → y ≠ 10)) (fun c => X.size - (intOf c).toNat)
      case atStart => exact ⟨0, rfl, by omega, Lib.hid (fun m y h => by omega)⟩
      case round =>
        obtain ⟨j, rfl, hj, hn⟩ := hrel
        by_cases hlt : j < X.size
        · have hg := tl_get X hlt
          by_cases h10 : (X[j].toNat : Int) = 10
          · have hd : ((X[j].toNat : Int) == 10) = true := by simpa using h10
            clear h10 hg
            go_wp2_with fail
            go_ret
            exact ⟨rfl, below_draws hBr.out _⟩
          · have hd : ((X[j].toNat : Int) == 10) = false := by simpa using h10
            have hnx : Hid (∀ (m : Nat) y, m < j + 1 → (tl X)[m]? = some y → y ≠ 10) := Lib.hid (fun m y hm hy => by
              rcases Nat.lt_or_ge m j with h | h
              · exact hn.out m y h hy
              · obtain rfl : m = j := by omega
                rw [hg] at hy
                cases hy
                intro e
                apply h10
                rw [e]; rfl)
            clear h10 hg hn
            go_wp2_with fail
            exact ⟨⟨j + 1, by go_num, by omega, hnx⟩, by simp [intOf]; omega⟩
        · obtain rfl : j = X.size := by omega
          have h10 : 10 ∉ tl X := fun hm => by
            obtain ⟨m, hm⟩ := List.getElem?_of_mem hm
            have hml := (List.getElem?_eq_some_iff.1 hm).1
            rw [tl_length] at hml
            exact hn.out m 10 hml hm rfl
          rw [hXt.out] at h10
          have hnx := Step.out _ Hp.out h10
          clear hn h10
          go_wp2_with fail
          exact ⟨⟨L.length + t + 1, q + nq, Lib.hid (by rw [hq.out, World.drewN_drewN]), by go_num, by omega, hnx⟩, by simp [intOf]; omega⟩
    by_cases b3 : i < L.length + R.length + C.length
    · obtain ⟨t, rfl⟩ : ∃ t, i = L.length + R.length + t := ⟨i - L.length - R.length, by omega⟩
      obtain ⟨x, hx⟩ : ∃ x, C[t]? = some x := ⟨_, List.getElem?_eq_getElem (by omega)⟩
      have d4 : decide ((L.length : Int) + (R.length : Int) + (t : Int) < (L.length : Int)) = false := by first | (simp; done) | (simp; omega)
      have d4' : decide (L.length + R.length + t < L.length) = false := by first | (simp; done) | (simp; omega)
      have d5 : decide ((L.length : Int) + (R.length : Int) + (t : Int) < (L.length : Int) + (R.length : Int) + (C.length : Int)) = true := by first | (simp; done) | (simp; omega)
      have d5' : decide (L.length + R.length + t < L.length + R.length + C.length) = true := by first | (simp; done) | (simp; omega)
      have d6 : decide ((L.length : Int) + (R.length : Int) + (t : Int) < (L.length : Int) + (R.length : Int)) = false := by first | (simp; done) | (simp; omega)
      have d6' : decide (L.length + R.length + t < L.length + R.length) = false := by first | (simp; done) | (simp; omega)
      obtain ⟨b, off, rfl, hbl, hl0, hl1⟩ := Hat3.out t x hx
      have c1 : wr.cell? ⟨b, off + t * 2 + 1, none⟩ = some (.string (bs x.key)) := (hBr.out.cell (p := ⟨b, off + t * 2 + 1, none⟩) hbl).trans hl1
      have y1 := ZC.out x (List.mem_of_getElem? hx)
      obtain ⟨X, hX⟩ : ∃ X, Hid (bs x.key = X) := ⟨_, Lib.hid rfl⟩
      have hXt : Hid (tl X = x.key) := Lib.hid (by rw [← hX.out, tl_bs])
      have hXs : X.size ≤ 2097152 := by rw [← hX.out, bs_size]; omega
      have Hp := Lib.hid (piece_C (L := L) (R := R) hx)
      have i1 : IntKind.i64.wrap ((L.length : Int) + (R.length : Int) + (t : Int) - (L.length : Int)) = (R.length : Int) + (t : Int) := by rw [Go.IntWalk.i64_in _ (by omega)]; omega
      have i2 : IntKind.i64.wrap ((R.length : Int) + (t : Int) - (R.length : Int)) = t := by rw [Go.IntWalk.i64_in _ (by omega)]; omega
      have i3 : (L.length : Int) + (R.length : Int) + (t : Int) - (L.length : Int) = (R.length : Int) + (t : Int) := by omega
      have i5 : (L.length : Int) + (R.length : Int) + (t : Int) - (L.length : Int) - (R.length : Int) = t := by omega
      have i4 : (t : Int) < (C.length : Int) := by omega
      rw [hX.out] at c1
      clear hl0 hl1 hx b1
      go_wp2_with fail
      go_loop [10] (fun c => ∃ j : Nat, c = .int .i64 j ∧ j ≤ X.size ∧ Hid (∀ (m : Nat) y, m < j → (tl X)[m]? = some y → y ≠ 10)) (fun c => X.size - (intOf c).toNat)
      case atStart => exact ⟨0, rfl, by omega, Lib.hid (fun m y h => by omega)⟩
      case round =>
        obtain ⟨j, rfl, hj, hn⟩ := hrel
        by_cases hlt : j < X.size
        · have hg := tl_get X hlt
          by_cases h10 : (X[j].toNat : Int) = 10
          · have hd : ((X[j].toNat : Int) == 10) = true := by simpa using h10
            clear h10 hg
            go_wp2_with fail
            go_ret
            exact ⟨rfl, hBr.out⟩
          · have hd : ((X[j].toNat : Int) == 10) = false := by simpa using h10
            have hnx : Hid (∀ (m : Nat) y, m < j + 1 → (tl X)[m]? = some y → y ≠ 10) := Lib.hid (fun m y hm hy => by
              rcases Nat.lt_or_ge m j with h | h
              · exact hn.out m y h hy
              · obtain rfl : m = j := by omega
                rw [hg] at hy
                cases hy
                intro e
                apply h10
                rw [e]; rfl)
            clear h10 hg hn
            go_wp2_with fail
            exact ⟨⟨j + 1, by go_num, by omega, hnx⟩, by simp [intOf]; omega⟩
        · obtain rfl : j = X.size := by omega
          have h10 : 10 ∉ tl X := fun hm => by
            obtain ⟨m, hm⟩ := List.getElem?_of_mem hm
            have hml := (List.getElem?_eq_some_iff.1 hm).1
            rw [tl_length] at hml
            exact hn.out m 10 hml hm rfl
          rw [hXt.out] at h10
          have hnx := Step.out _ Hp.out h10
          clear hn h10
          go_wp2_with fail
          exact ⟨⟨L.length + R.length + t + 1, q, hq, by go_num, by omega, hnx⟩, by simp [intOf]; omega⟩
    obtain rfl : i = L.length + R.length + C.length := by omega
    have d5 : decide ((L.length : Int) + (R.length : Int) + (C.length : Int) < (L.length : Int) + (R.length : Int) + (C.length : Int)) = false := by first | (simp; done) | (simp; omega)
    have d5' : decide (L.length + R.length + C.length < L.length + R.length + C.length) = false := by first | (simp; done) | (simp; omega)
    have hall : ∀ x ∈ pieces L R C, 10 ∉ x := fun x hx => by
      obtain ⟨j, hj⟩ := List.getElem?_of_mem hx
      have hjl := (List.getElem?_eq_some_iff.1 hj).1
      rw [Hpl.out] at hjl
      exact hno.out j x hjl hj
    have hlines : linesOf (textT 1 L R C) = (cutsT 1 L R C).map ends := by rw [text_cuts]; exact lines_cuts (cuts_nl hall)
    have Hl := Lib.hid hlines
    clear hall hlines b1 Step hno
    have hsr := hBr.out.size
    have hR := Lib.hid (HW.out.below hBr.out hW4)
    go_wp2_with fail
    refine (Text_any 1 _ _ _ L R C _ (H1.out.below hBr.out) (H2.out.below hBr.out) (H3.out.below hBr.out) hR.out (by omega) (by omega) (by omega) (fun r hr => by have := ZL.out r hr; omega) (fun r hr => by have := ZR.out r hr; omega) (fun r hr => by have := ZC.out r hr; omega)).mono ?_
    rintro e w4 ⟨rfl, b4⟩
    have hB4 := Lib.hid (hBr.out.trans (b4.mono hsr))
    have hs4 := hB4.out.size
    clear b4
    have htl : (textT 1 L R C).length ≤ 16000000000 := by
      have x1 := reqs_le (w := wLeft) (by decide) (L := L) (by omega) (fun r hr => by have := ZL.out r hr; omega) L.length
      have x2 := reqs_le (w := wRight) (by decide) (L := R) (by omega) (fun r hr => by have := ZR.out r hr; omega) R.length
      have x3 := bad_le (L := C) (by omega) (fun r hr => by have := ZC.out r hr; omega) C.length
      rw [List.take_length] at x1 x2 x3
      have x4 := outOf_le 1
      unfold textT headT
      simp only [List.length_append, List.length_cons, List.length_nil]
      omega
    obtain ⟨T, hT⟩ : ∃ T, Hid (textT 1 L R C = T) := ⟨_, Lib.hid rfl⟩
    rw [hT.out] at htl Hl ⊢
    go_wp2_with fail
    refine (Split_any (bs T) _ (by rw [bs_size]; omega)).mono ?_
    rw [tl_bs, Hl.out]
    rintro e w5 ⟨⟨v5, rfl, hS⟩, b5⟩
    have hB5 := Lib.hid (hB4.out.trans (b5.mono hs4))
    have hs5 := hB5.out.size
    have HS := Lib.hid hS
    clear b5 hS
    have hR5 := Lib.hid (HW.out.below hB5.out hW4)
    go_wp2_with fail
    refine (Text_any 1 _ _ _ [] [] [] _ (rqs_nil _) (rqs_nil _) (cfs_nil _) hR5.out (by decide) (by decide) (by decide) (by simp) (by simp) (by simp)).mono ?_
    rw [show textT 1 [] [] [] = headT 1 from by simp [textT, reqsT, badT]]
    rintro e w6 ⟨rfl, b6⟩
    have hB6 := Lib.hid (hB5.out.trans (b6.mono hs5))
    have hs6 := hB6.out.size
    have HS6 := Lib.hid (HS.out.below b6)
    clear b6 HS
    go_wp2_with fail
    refine (Count_any _ C _ (H3.out.below hB6.out) (by omega)).mono ?_
    rintro e w7 ⟨⟨v7, rfl, f7⟩, b7⟩
    have hB7 := Lib.hid (hB6.out.trans (b7.mono hs6))
    have HS7 := Lib.hid (HS6.out.below b7)
    obtain ⟨g7, t7, rfl, r7⟩ := f7
    have F7 := Lib.hid r7
    clear b7 r7 HS6
    have hcb := fun j => cnt_le C j
    have hsum := cnt_sum C
    have hbd := fun k (hk : k ≤ 5) => sumTo_bd (f := cnt C) (m := C.length) hcb (by omega) k hk
    have Hbd := Lib.hid hbd
    have Hcb := Lib.hid hcb
    have Hsum : Hid (sumTo (cnt C) 5 ≤ C.length) := Lib.hid (by simp only [sumTo]; omega)
    clear hcb hbd hsum
    go_wp2_with fail
    go_loop [13, 15] (fun u c => ∃ k : Nat, c = .int .i64 k ∧ k ≤ 5 ∧ u = .int .i64 (sumTo (cnt C) k)) (fun _ c => 5 - (intOf c).toNat)
    case atStart => exact ⟨0, rfl, by omega, rfl⟩
    case round =>
      obtain ⟨k, rfl, hk, rfl⟩ := hrel
      by_cases hlt : k < 5
      · have c0 := five_cell F7.out hlt
        have u1 := Hbd.out k (by omega)
        have u2 := Hcb.out k
        have i1 : IntKind.i64.wrap (sumTo (cnt C) k + cnt C k) = sumTo (cnt C) k + cnt C k := Go.IntWalk.i64_in _ (by omega)
        go_wp2_with fail
        exact ⟨⟨k + 1, by go_num, by omega, rfl⟩, by simp [intOf]; omega⟩
      · obtain rfl : k = 5 := by omega
        have u3 := Hsum.out
        have d7 : decide (sumTo (cnt C) 5 ≤ (C.length : Int)) = true := by simpa using u3
        obtain ⟨sm, hsm⟩ : ∃ sm, Hid (sumTo (cnt C) 5 = sm) := ⟨_, Lib.hid rfl⟩
        rw [hsm.out] at d7 ⊢
        obtain ⟨a5, cap5, rfl, hc5, hm5, hat5⟩ := HS7.out
        have hlen : Hid (((cutsT 1 L R C).map ends).length = 1 + L.length + R.length + C.length) := Lib.hid (by simp [cutsT]; omega)
        obtain ⟨b, off, rfl, hbl, c9⟩ := hat5 0 (headT 1) rfl
        rw [hlen.out] at hc5 ⊢
        unfold maxLen at hm5
        rw [Nat.add_zero] at c9
        clear hat5 u3 Hsum
        go_wp2_with fail
        go_ret
        exact ⟨rfl, hB7.out⟩
end Go.Proofs.YtmklpanehnkfbaaDoor
