/-
  For the law ReportTexts. Condition: the program's tables are as they are laid; each text handed in has fewer than 2 to the 48 bytes.
-/
import Derived.Test.YtmklpanehnkfbaaDoorWake
import Derived.Test.YtmklpanehnkfbaaDoorReft2
namespace Go.Proofs.YtmklpanehnkfbaaDoor
open Go.RowKit Go.Shelf

def qSize (L : List Rq) : Int := (L.map fun r => (r.id.length : Int) + (r.to.length : Int)).sum
def cSize (L : List Cf) : Int := (L.map fun r => (r.key.length : Int)).sum
theorem qSize_take {L : List Rq} {k : Nat} {x : Rq} (h : L[k]? = some x) : qSize (L.take (k + 1)) = qSize (L.take k) + ((x.id.length : Int) + (x.to.length : Int)) := by
  unfold qSize
  rw [List.take_add_one, h]
  simp
theorem cSize_take {L : List Cf} {k : Nat} {x : Cf} (h : L[k]? = some x) : cSize (L.take (k + 1)) = cSize (L.take k) + (x.key.length : Int) := by
  unfold cSize
  rw [List.take_add_one, h]
  simp
theorem qSize_bd {m : Nat} : ∀ {L : List Rq}, (∀ r ∈ L, r.id.length ≤ m ∧ r.to.length ≤ m) → 0 ≤ qSize L ∧ qSize L ≤ (L.length : Int) * (2 * m)
  | [], _ => by simp [qSize]
  | x :: L, h => by
    have h1 := h x (by simp)
    have h2 := qSize_bd (m := m) (L := L) (fun y hy => h y (by simp [hy]))
    have e : qSize (x :: L) = (x.id.length : Int) + (x.to.length : Int) + qSize L := by simp [qSize]
    rw [e, List.length_cons]
    have e2 : (((L.length + 1 : Nat) : Int)) * (2 * (m : Int)) = (L.length : Int) * (2 * m) + 2 * m := by
      rw [Int.natCast_add, Int.add_mul]; simp
    rw [e2]
    omega
theorem cSize_bd {m : Nat} : ∀ {L : List Cf}, (∀ r ∈ L, r.key.length ≤ m) → 0 ≤ cSize L ∧ cSize L ≤ (L.length : Int) * m
  | [], _ => by simp [cSize]
  | x :: L, h => by
    have h1 := h x (by simp)
    have h2 := cSize_bd (m := m) (L := L) (fun y hy => h y (by simp [hy]))
    have e : cSize (x :: L) = (x.key.length : Int) + cSize L := by simp [cSize]
    rw [e, List.length_cons]
    have e2 : (((L.length + 1 : Nat) : Int)) * (m : Int) = (L.length : Int) * m + m := by
      rw [Int.natCast_add, Int.add_mul]; simp
    rw [e2]
    omega
theorem qSize_mem {L : List Rq} {r : Rq} (h : r ∈ L) : (r.id.length : Int) + (r.to.length : Int) ≤ qSize L := by
  induction L with
  | nil => simp at h
  | cons x L ih =>
    have e : qSize (x :: L) = (x.id.length : Int) + (x.to.length : Int) + qSize L := by simp [qSize]
    have h0 : 0 ≤ qSize L := by
      clear ih h e
      induction L with
      | nil => simp [qSize]
      | cons y L ih =>
        have e : qSize (y :: L) = (y.id.length : Int) + (y.to.length : Int) + qSize L := by simp [qSize]
        omega
    rcases List.mem_cons.1 h with rfl | h
    · omega
    · have := ih h; omega
theorem cSize_mem {L : List Cf} {r : Cf} (h : r ∈ L) : (r.key.length : Int) ≤ cSize L := by
  induction L with
  | nil => simp at h
  | cons x L ih =>
    have e : cSize (x :: L) = (x.key.length : Int) + cSize L := by simp [cSize]
    have h0 : 0 ≤ cSize L := by
      clear ih h e
      induction L with
      | nil => simp [cSize]
      | cons y L ih =>
        have e : cSize (y :: L) = (y.key.length : Int) + cSize L := by simp [cSize]
        omega
    rcases List.mem_cons.1 h with rfl | h
    · omega
    · have := ih h; omega
set_option maxRecDepth 100000 in
set_option maxHeartbeats 16000000 in
theorem reportTexts_any (v1 v2 v3 : Value) (L R : List Rq) (C : List Cf) (w : World) (h1 : Rqs w v1 L) (h2 : Rqs w v2 R) (h3 : Cfs w v3 C) (zL : ∀ r ∈ L, r.id.length ≤ 140737488351232 ∧ r.to.length ≤ 140737488351232) (zR : ∀ r ∈ R, r.id.length ≤ 140737488351232 ∧ r.to.length ≤ 140737488351232) (zC : ∀ r ∈ C, r.key.length ≤ 140737488351232) (hW : RepW w) :
    Calls Tryd.prog 4 #[v1, v2, v3] w fun e w' => e = .returned (.bool true) ∧ Below w.heap.size w w' := by
  have HW := Lib.hid hW; clear hW
  have hW4 := HW.out.size
  have H1 := Lib.hid h1
  have H2 := Lib.hid h2
  have H3 := Lib.hid h3
  obtain ⟨a1, cap1, rfl, hc1, hm1, hat1⟩ := h1
  obtain ⟨a2, cap2, rfl, hc2, hm2, hat2⟩ := h2
  obtain ⟨a3, cap3, rfl, hc3, hm3, hat3⟩ := h3
  have Hat1 := Lib.hid hat1
  have Hat2 := Lib.hid hat2
  have Hat3 := Lib.hid hat3
  have ZL := Lib.hid zL
  have ZR := Lib.hid zR
  have ZC := Lib.hid zC
  clear hat1 hat2 hat3 zL zR zC
  unfold maxLen at hm1 hm2 hm3
  go_enter Tryd.func4, Tryd.ntmps4
  go_wp2_with fail
  refine (awake_any _ HW.out).mono ?_
  rintro e w2 ⟨rfl, b2⟩
  have hB2 := Lib.hid b2
  have hs2 := b2.size
  clear b2
  by_cases l1 : 30 < L.length
  · have d1 : decide ((30 : Int) < (L.length : Int)) = true := by simp; omega
    go_wp2_with fail
    go_ret
    exact ⟨rfl, hB2.out⟩
  have d1 : decide ((30 : Int) < (L.length : Int)) = false := by simp; omega
  by_cases l2 : 30 < R.length
  · have d2 : decide ((30 : Int) < (R.length : Int)) = true := by simp; omega
    go_wp2_with fail
    go_ret
    exact ⟨rfl, hB2.out⟩
  have d2 : decide ((30 : Int) < (R.length : Int)) = false := by simp; omega
  by_cases l3 : 30 < C.length
  · have d3 : decide ((30 : Int) < (C.length : Int)) = true := by simp; omega
    go_wp2_with fail
    go_ret
    exact ⟨rfl, hB2.out⟩
  have d3 : decide ((30 : Int) < (C.length : Int)) = false := by simp; omega
  go_wp2_with fail
  go_loopw [8, 9] (fun u c wr => ∃ k q : Nat, Hid (wr = w2.drewN q) ∧ c = .int .i64 k ∧ k ≤ L.length ∧ u = .int .i64 (qSize (L.take k))) (fun _ c _ => L.length - (intOf c).toNat)
  case atStart => exact ⟨0, 0, Lib.hid rfl, rfl, by omega, by simp [qSize]⟩
  case round =>
    obtain ⟨k, q, hq, rfl, hk, rfl⟩ := hrel
    by_cases hlt : k < L.length
    · obtain ⟨x, hx⟩ : ∃ x, L[k]? = some x := ⟨_, List.getElem?_eq_getElem hlt⟩
      obtain ⟨b, off, rfl, hbl, hl0, hl1, hl2⟩ := Hat1.out k x hx
      have c1 : wr.cell? ⟨b, off + k * 3 + 1, none⟩ = some (.string (bs x.id)) := by rw [hq.out]; exact (hB2.out.cell (p := ⟨b, off + k * 3 + 1, none⟩) hbl).trans hl1
      have c2 : wr.cell? ⟨b, off + k * 3 + 2, none⟩ = some (.string (bs x.to)) := by rw [hq.out]; exact (hB2.out.cell (p := ⟨b, off + k * 3 + 2, none⟩) hbl).trans hl2
      obtain ⟨y1, y2⟩ := ZL.out x (List.mem_of_getElem? hx)
      have Hnx := Lib.hid (qSize_take hx)
      obtain ⟨u1, u2⟩ := qSize_bd (m := 140737488351232) (L := L.take k) (fun r hr => ZL.out r (List.mem_of_mem_take hr))
      have u3 : (L.take k).length ≤ 30 := Nat.le_trans (List.length_take_le' _ _) (by omega)
      have u4 : qSize (L.take k) ≤ 8444249301073920 := by omega
      have s1 : (bs x.id).size = x.id.length := bs_size _
      have s2 : (bs x.to).size = x.to.length := bs_size _
      have i1 : IntKind.i64.wrap ((x.id.length : Int) + (x.to.length : Int)) = (x.id.length : Int) + (x.to.length : Int) := Go.IntWalk.i64_in _ (by omega)
      have i2 : IntKind.i64.wrap (qSize (L.take k) + ((x.id.length : Int) + (x.to.length : Int))) = qSize (L.take k) + ((x.id.length : Int) + (x.to.length : Int)) := Go.IntWalk.i64_in _ (by omega)
      clear hl0 hl1 hl2 hx u2 u3
      go_wp2_with fail
      go_quiet (fail)
      go_wp2_with fail
      exact ⟨⟨k + 1, q + nq, Lib.hid (by rw [hq.out, World.drewN_drewN]), by go_num, by omega, by first | (rw [Hnx.out]; done) | (rw [Hnx.out]; go_num)⟩, by simp [intOf]; omega⟩
    · obtain rfl : k = L.length := by omega
      rw [List.take_length]
      obtain ⟨n1, hn1⟩ : ∃ n1, Hid (qSize L = n1) := ⟨_, Lib.hid rfl⟩
      have v1 := qSize_bd (m := 140737488351232) ZL.out
      rw [hn1.out] at v1 ⊢
      go_wp2_with fail
      go_loopw [8, 10] (fun u c wr => ∃ k q : Nat, Hid (wr = w2.drewN q) ∧ c = .int .i64 k ∧ k ≤ R.length ∧ u = .int .i64 (n1 + qSize (R.take k))) (fun _ c _ => R.length - (intOf c).toNat)
      case atStart => exact ⟨0, q, hq, rfl, by omega, by simp [qSize]⟩
      case round =>
        obtain ⟨k, q2, hq2, rfl, hk, rfl⟩ := hrel
        by_cases hlt : k < R.length
        · obtain ⟨x, hx⟩ : ∃ x, R[k]? = some x := ⟨_, List.getElem?_eq_getElem hlt⟩
          obtain ⟨b, off, rfl, hbl, hl0, hl1, hl2⟩ := Hat2.out k x hx
          have c1 : wr.cell? ⟨b, off + k * 3 + 1, none⟩ = some (.string (bs x.id)) := by rw [hq2.out]; exact (hB2.out.cell (p := ⟨b, off + k * 3 + 1, none⟩) hbl).trans hl1
          have c2 : wr.cell? ⟨b, off + k * 3 + 2, none⟩ = some (.string (bs x.to)) := by rw [hq2.out]; exact (hB2.out.cell (p := ⟨b, off + k * 3 + 2, none⟩) hbl).trans hl2
          obtain ⟨y1, y2⟩ := ZR.out x (List.mem_of_getElem? hx)
          have Hnx := Lib.hid (qSize_take hx)
          obtain ⟨u1, u2⟩ := qSize_bd (m := 140737488351232) (L := R.take k) (fun r hr => ZR.out r (List.mem_of_mem_take hr))
          have u3 : (R.take k).length ≤ 30 := Nat.le_trans (List.length_take_le' _ _) (by omega)
          have u4 : qSize (R.take k) ≤ 8444249301073920 := by omega
          have s1 : (bs x.id).size = x.id.length := bs_size _
          have s2 : (bs x.to).size = x.to.length := bs_size _
          have i1 : IntKind.i64.wrap ((x.id.length : Int) + (x.to.length : Int)) = (x.id.length : Int) + (x.to.length : Int) := Go.IntWalk.i64_in _ (by omega)
          have i2 : IntKind.i64.wrap (n1 + qSize (R.take k) + ((x.id.length : Int) + (x.to.length : Int))) = n1 + qSize (R.take k) + ((x.id.length : Int) + (x.to.length : Int)) := Go.IntWalk.i64_in _ (by omega)
          clear hl0 hl1 hl2 hx u2 u3
          go_wp2_with fail
          go_quiet (fail)
          go_wp2_with fail
          exact ⟨⟨k + 1, q2 + nq, Lib.hid (by rw [hq2.out, World.drewN_drewN]), by go_num, by omega, by first | (rw [Hnx.out]; done) | (rw [Hnx.out]; go_num)⟩, by simp [intOf]; omega⟩
        · obtain rfl : k = R.length := by omega
          rw [List.take_length]
          obtain ⟨n2, hn2⟩ : ∃ n2, Hid (qSize R = n2) := ⟨_, Lib.hid rfl⟩
          have v2 := qSize_bd (m := 140737488351232) ZR.out
          rw [hn2.out] at v2 ⊢
          obtain ⟨n3, hn3⟩ : ∃ n3, Hid (n1 + n2 = n3) := ⟨_, Lib.hid rfl⟩
          have v3 : 0 ≤ n3 ∧ n3 ≤ 16888498602147840 := by rw [← hn3.out]; omega
          rw [hn3.out]
          obtain ⟨W3, hW3⟩ : ∃ W3, Hid (wr = W3) := ⟨_, Lib.hid rfl⟩
          have hB3 : Hid (Below w.heap.size w W3) := Lib.hid (by rw [← hW3.out, hq2.out]; exact below_draws hB2.out _)
          rw [hW3.out]
          go_wp2_with fail
          go_loop [8, 11] (fun u c => ∃ k : Nat, c = .int .i64 k ∧ k ≤ C.length ∧ u = .int .i64 (n3 + cSize (C.take k))) (fun _ c => C.length - (intOf c).toNat)
          case atStart => exact ⟨0, rfl, by omega, by simp [cSize]⟩
          case round =>
            obtain ⟨k, rfl, hk, rfl⟩ := hrel
            by_cases hlt : k < C.length
            · obtain ⟨x, hx⟩ : ∃ x, C[k]? = some x := ⟨_, List.getElem?_eq_getElem hlt⟩
              obtain ⟨b, off, rfl, hbl, hl0, hl1⟩ := Hat3.out k x hx
              have c1 : W3.cell? ⟨b, off + k * 2 + 1, none⟩ = some (.string (bs x.key)) := (hB3.out.cell (p := ⟨b, off + k * 2 + 1, none⟩) hbl).trans hl1
              have y1 := ZC.out x (List.mem_of_getElem? hx)
              have Hnx := Lib.hid (cSize_take hx)
              obtain ⟨u1, u2⟩ := cSize_bd (m := 140737488351232) (L := C.take k) (fun r hr => ZC.out r (List.mem_of_mem_take hr))
              have u3 : (C.take k).length ≤ 30 := Nat.le_trans (List.length_take_le' _ _) (by omega)
              have u4 : cSize (C.take k) ≤ 8444249301073920 := by omega
              have s1 : (bs x.key).size = x.key.length := bs_size _
              have i2 : IntKind.i64.wrap (n3 + cSize (C.take k) + (x.key.length : Int)) = n3 + cSize (C.take k) + (x.key.length : Int) := Go.IntWalk.i64_in _ (by omega)
              clear hl0 hl1 hx u2 u3
              go_wp2_with fail
              exact ⟨⟨k + 1, by go_num, by omega, by first | (rw [Hnx.out]; done) | (rw [Hnx.out]; go_num)⟩, by simp [intOf]; omega⟩
            · obtain rfl : k = C.length := by omega
              rw [List.take_length]
              by_cases hbig : 3000 < n3 + cSize C
              · have db : decide (3000 < n3 + cSize C) = true := by simpa using hbig
                go_wp2_with fail
                go_ret
                exact ⟨rfl, hB3.out⟩
              have db : decide (3000 < n3 + cSize C) = false := by simpa using hbig
              have hz0 := cSize_bd (m := 140737488351232) ZC.out
              have hsm1 : ∀ r ∈ L, r.id.length ≤ 2000000 ∧ r.to.length ≤ 2000000 := fun r hr => by
                have := qSize_mem hr
                rw [hn1.out] at this
                have := hn3.out
                omega
              have hsm2 : ∀ r ∈ R, r.id.length ≤ 2000000 ∧ r.to.length ≤ 2000000 := fun r hr => by
                have := qSize_mem hr
                rw [hn2.out] at this
                have := hn3.out
                omega
              have hsm3 : ∀ r ∈ C, r.key.length ≤ 2000000 := fun r hr => by
                have := cSize_mem hr
                omega
              have S1 := Lib.hid hsm1
              have S2 := Lib.hid hsm2
              have S3 := Lib.hid hsm3
              clear hsm1 hsm2 hsm3 hz0 hbig
              go_wp2_with fail
              obtain ⟨kd, hkd⟩ : ∃ kd, Hid (bits BinOp.and IntKind.i64 (L.length : Int) 7 = kd) := ⟨_, Lib.hid rfl⟩
              rw [hkd.out]
              have hs3 := hB3.out.size
              refine (Text_any kd _ _ _ L R C _ (H1.out.below hB3.out) (H2.out.below hB3.out) (H3.out.below hB3.out) (HW.out.below hB3.out hW4) (by omega) (by omega) (by omega) S1.out S2.out S3.out).mono ?_
              obtain ⟨tx, htx⟩ : ∃ tx, Hid (textT kd L R C = tx) := ⟨_, Lib.hid rfl⟩
              rw [htx.out]
              rintro e w4 ⟨rfl, b4⟩
              have hB4 := Lib.hid (hB3.out.trans (b4.mono hs3))
              have hs4 := hB4.out.size
              clear b4
              go_wp2_with fail
              refine (RefText_any kd _ _ _ L R C _ (H1.out.below hB4.out) (H2.out.below hB4.out) (H3.out.below hB4.out) (by omega) (by omega) (by omega) S1.out S2.out S3.out).mono ?_
              rw [htx.out]
              rintro e w5 ⟨rfl, b5⟩
              have hB5 := Lib.hid (hB4.out.trans (b5.mono hs4))
              have hs5 := hB5.out.size
              clear b5
              go_wp2_with fail
              refine (Count_any _ C _ (H3.out.below hB5.out) (by omega)).mono ?_
              rintro e w6 ⟨⟨v6, rfl, f6⟩, b6⟩
              have hB6 := Lib.hid (hB5.out.trans (b6.mono hs5))
              have hs6 := hB6.out.size
              have F6 := Lib.hid f6
              clear b6 f6
              go_wp2_with fail
              refine (RefCount_any _ C _ (H3.out.below hB6.out) (by omega)).mono ?_
              rintro e w7 ⟨⟨v7, rfl, f7⟩, b7⟩
              have hB7 := Lib.hid (hB6.out.trans (b7.mono hs6))
              have hs7 := hB7.out.size
              have F7 := Lib.hid f7
              have G7 := Lib.hid (F6.out.below b7)
              clear b7 f7
              go_wp2_with fail
              refine (SameFive_any _ _ (cnt C) _ G7.out F7.out).mono ?_
              rintro e w8 ⟨rfl, b8⟩
              have hB8 := Lib.hid (hB7.out.trans (b8.mono hs7))
              clear b8
              go_wp2_with fail
              go_ret
              exact ⟨rfl, hB8.out⟩
end Go.Proofs.YtmklpanehnkfbaaDoor
