/-
  For the laws of cells: DeleteFunc, by the program. Condition: at most 10,000 keys, each no longer than any text may be.
-/
import Derived.Test.YtfjmhnnjgjcmeaaGreatDoorCg
namespace Go.Proofs.YtfjmhnnjgjcmeaaGreatDoor
open Go.RowKit Go.Shelf Go.Maps Go.WideMaps
set_option linter.unusedSimpArgs false
set_option linter.unusedVariables false

def noT (G xs : TL) : TL := xs.filter (fun s => !decide (s ∈ G))
theorem no_take {G xs : TL} {k : Nat} {x : ByteArray} (h : xs[k]? = some x) : noT G (xs.take (k + 1)) = noT G (xs.take k) ++ (if x ∈ G then [] else [x]) := by
  unfold noT
  rw [List.take_add_one, h, List.filter_append]
  congr 1
  by_cases hx : x ∈ G <;> simp [hx]
theorem no_fst {G xs : TL} : noT G (xs.take (fstT G xs)) = xs.take (fstT G xs) := by
  unfold noT
  rw [List.filter_eq_self]
  intro x hx
  obtain ⟨j, hj⟩ := List.mem_iff_getElem?.1 hx
  have hjl := (List.getElem?_eq_some_iff.1 hj).1
  rw [List.length_take] at hjl
  rw [List.getElem?_take_of_lt (by omega)] at hj
  simpa using fst_no (by omega : j < fstT G xs) hj
theorem no_len (G xs : TL) : (noT G xs).length ≤ xs.length := List.length_filter_le _ _
theorem no_all {G xs : TL} (h : fstT G xs = xs.length) : noT G xs = xs := by
  have h2 := no_fst (G := G) (xs := xs)
  rwa [h, List.take_length] at h2
/-- The row while keys are taken out: its first p are what is left of the first q; from q on it is as it was. -/
structure Del (G xs : TL) (N0 g n c : Nat) (p q : Nat) (W : World) : Prop where
  row : ∃ ys : TL, ys.length = n ∧ W.ownsRow N0 9 1 (.slice (some ⟨g, 0, none⟩) n c) n (ys.map .string) ∧ ys.take p = noT G (xs.take q) ∧ ys.drop q = xs.drop q
  frz : ∃ cs, RowAt W g 9 cs
theorem Del.below {G xs : TL} {N0 g n c p q : Nat} {W V : World} (h : Del G xs N0 g n c p q W) (hb : Below W.heap.size W V) : Del G xs N0 g n c p q V := by
  obtain ⟨⟨ys, h1, h2, h3⟩, cs, h4⟩ := h
  exact ⟨⟨ys, h1, own_below h2 hb, h3⟩, cs, h4.later hb⟩
theorem Del.at {G xs : TL} {N0 g n c p q : Nat} {W : World} {x : ByteArray} (h : Del G xs N0 g n c p q W) (hn : xs.length = n) (hx : xs[q]? = some x) : W.cell? ⟨g, q, none⟩ = some (.string x) ∧ p ≤ n := by
  obtain ⟨⟨ys, h1, h2, h3, h4⟩, _⟩ := h
  have hq := (List.getElem?_eq_some_iff.1 hx).1
  obtain ⟨g', c', e, -, -, -, -, -, hcells⟩ := own_cells h2 (by omega)
  cases e
  have e5 : ys[q]? = some x := by
    have := congrArg (fun l => l[0]?) h4
    simpa [hx] using this
  refine ⟨hcells q _ (by rw [List.getElem?_map, e5]; rfl), ?_⟩
  have h5 := congrArg List.length h3
  have h6 := no_len G (xs.take q)
  rw [List.length_take] at h5 h6
  rcases Nat.lt_or_ge n p with h7 | h7
  · omega
  · exact h7
theorem Del.skip {G xs : TL} {N0 g n c p q : Nat} {W : World} {x : ByteArray} (h : Del G xs N0 g n c p q W) (hx : xs[q]? = some x) (hg : x ∈ G) : Del G xs N0 g n c p (q + 1) W := by
  obtain ⟨⟨ys, h1, h2, h3, h4⟩, hf⟩ := h
  refine ⟨⟨ys, h1, h2, ?_, ?_⟩, hf⟩
  · rw [no_take hx, if_pos hg, List.append_nil]; exact h3
  · have := congrArg (List.drop 1) h4
    simpa [List.drop_drop] using this
theorem Del.put {G xs : TL} {N0 g n c p q : Nat} {W : World} {x : ByteArray} (h : Del G xs N0 g n c p q W) (hx : xs[q]? = some x) (hg : x ∉ G) (hpq : p < q) (hq : q < n) : Del G xs N0 g n c (p + 1) (q + 1) (W.setCell ⟨g, p, none⟩ (.string x)) := by
  obtain ⟨⟨ys, h1, h2, h3, h4⟩, cs, hf⟩ := h
  refine ⟨⟨ys.set p x, by rw [List.length_set]; exact h1, ?_, ?_, ?_⟩, _, hf.set p _⟩
  · have k := own_store h2 (j := p) (by omega) (.string x)
    rw [List.map_set]
    exact k
  · rw [no_take hx, if_neg hg, ← h3, List.take_add_one, List.getElem?_set_self (by omega), List.take_set_of_le (Nat.le_refl _)]
    rfl
  · rw [List.drop_set_of_lt (by omega)]
    have := congrArg (List.drop 1) h4
    simpa [List.drop_drop] using this
theorem size_setCells_ (b : Nat) (vs : List Value) (o : Nat) (w : World) : (w.setCells b o vs).heap.size = w.heap.size := by
  induction vs generalizing o w with
  | nil => rfl
  | cons v vs ih => rw [World.setCells, ih]; simp
theorem zero9 (W : World) : (zeroValue 9).run Tryz.prog W = .ok (.string ⟨#[]⟩) W := by kernel_rfl
set_option maxRecDepth 100000 in
set_option maxHeartbeats 8000000 in
theorem Delete_any (v : Value) (xs : TL) (B m k N0 : Nat) (G : TL) (w : World) (hO : w.ownsRow N0 9 1 v xs.length (xs.map .string)) (hB : w.cell? ⟨B, 0, none⟩ = some (.map (some m))) (hBN : B < N0) (hmN : m < N0) (hN : N0 ≤ w.heap.size) (hS : SetOf w m k (fun t => t ∈ G)) (hs : ∀ s ∈ xs, s.size ≤ maxLen) (hl : xs.length ≤ 10000) : Calls Tryz.prog 72 #[v, .func (.func 74) #[] #[.pointer (some ⟨B, 0, none⟩)]] w fun e w' => ∃ v', e = .returned v' ∧ L.Vals w' v' ((noT G xs).map .string) ∧ Below N0 w w' := by
  have CI := Lib.hid (IndexF_any v xs B m k G w (L.own_vals hO) hB hS hs)
  obtain ⟨i, hi⟩ : ∃ i, Hid (fstT G xs = i) := ⟨_, Lib.hid rfl⟩
  obtain ⟨n, hn⟩ : ∃ n, Hid (xs.length = n) := ⟨_, Lib.hid rfl⟩
  rw [hi.out, hn.out] at CI
  rw [hn.out] at hO hl
  rcases Nat.lt_or_ge i n with hin | hin
  · obtain ⟨g, c, rfl, hg1, hg2, hc1, hc2, ⟨cs, hr⟩, -⟩ := own_cells hO (by omega)
    unfold maxLen at hc2
    have HO := Lib.hid hO
    have HB := Lib.hid hB
    have HS := Lib.hid hS
    have Hs := Lib.hid hs
    have HR := Lib.hid hr
    clear hO hB hS hs hr
    have hidx : Hid (idxI i n = (i : Int)) := Lib.hid (by unfold idxI; rw [if_pos hin])
    rw [hidx.out] at CI
    have f0 : ((i : Int) == -1) = false := by rw [beq_eq_false_iff_ne]; omega
    have hmu : ∀ a b : Nat, a * 1 = a := fun a _ => Nat.mul_one a
    go_enter Tryz.func72, Tryz.ntmps72
    go_wp2_with fail
    refine CI.out.mono ?_
    rintro e w2 ⟨rfl, b2⟩
    have HD : Hid (Del G xs N0 g n c i (i + 1) w2) := Lib.hid (by
      obtain ⟨x, hx, hxg⟩ := fst_at (G := G) (xs := xs) (by rw [hi.out, hn.out]; exact hin)
      rw [hi.out] at hx
      refine ⟨⟨xs, hn.out, own_below HO.out b2, ?_, rfl⟩, cs, HR.out.later b2⟩
      rw [no_take hx, if_pos hxg, List.append_nil]
      have h := no_fst (G := G) (xs := xs)
      rw [hi.out] at h
      exact h.symm)
    have B2 := Lib.hid (b2.mono hN)
    clear b2
    go_wp2_with fail
    go_loopw [5, 6] (fun a b wr => ∃ p q : Nat, a = .int .i64 p ∧ b = .int .i64 q ∧ p < q ∧ q ≤ n ∧ Hid (Del G xs N0 g n c p q wr) ∧ Hid (Below N0 w wr)) (fun _ b _ => n - (intOf b).toNat)
    case atStart => exact ⟨i, i + 1, rfl, by go_num, by omega, by omega, HD, B2⟩
    case round =>
      obtain ⟨p, q, rfl, rfl, hpq, hq, hD, hBw⟩ := hrel
      rcases Nat.lt_or_ge q n with hlt | hlt
      · obtain ⟨x, hx⟩ := get_lt (l := xs) (k := q) (by rw [hn.out]; exact hlt)
        obtain ⟨e1, hpn⟩ := hD.out.at hn.out hx
        have d1 : decide (q < n) = true := decide_eq_true hlt
        have d2 : (0 : Int) ≤ (q : Int) := by omega
        have d3 : (q : Int) < (n : Int) := by omega
        have Call := Lib.hid (without1_any x B m k G wr ((hBw.out.cell (p := ⟨B, 0, none⟩) hBN).trans HB.out) (HS.out.same (hBw.out.block m hmN)) (Hs.out x (List.mem_of_getElem? hx)))
        obtain ⟨d, hd⟩ : ∃ d, Hid (decide (x ∈ G) = d) := ⟨_, Lib.hid rfl⟩
        rw [hd.out] at Call
        have Hx := Lib.hid hx
        clear hx
        go_wp2_with fail
        refine Call.out.mono ?_
        rintro e w3 ⟨rfl, b3⟩
        have D3 := Lib.hid (hD.out.below b3)
        have B3 := Lib.hid (hBw.out.trans (b3.mono (Nat.le_trans hN hBw.out.size)))
        clear b3
        cases d with
        | true =>
          have D4 := Lib.hid (D3.out.skip Hx.out (of_decide_eq_true hd.out))
          go_wp2_with fail
          exact ⟨⟨p, q + 1, rfl, by go_num, by omega, by omega, D4, B3⟩, by simp [intOf]; omega⟩
        | false =>
          have D4 := Lib.hid (D3.out.put Hx.out (of_decide_eq_false hd.out) hpq hlt)
          have B4 : Hid (Below N0 w (w3.setCell ⟨g, p, none⟩ (.string x))) := Lib.hid (B3.out.setCell (p := ⟨g, p, none⟩) hg1 _)
          obtain ⟨ys, hy1, hy2, -⟩ := D3.out.row
          obtain ⟨cs3, hr3⟩ := D3.out.frz
          obtain ⟨y, hy⟩ := get_lt (l := ys) (k := p) (by omega)
          obtain ⟨g', c', eg, -, -, -, -, -, hcells⟩ := own_cells hy2 (by omega)
          cases eg
          have t1 := hcells p (.string y) (by rw [List.getElem?_map, hy]; rfl)
          have t2 := hr3.frozen p
          have t3 : (p : Int) < (n : Int) := by omega
          have t4 : (0 : Int) ≤ (p : Int) := by omega
          clear hy1 hy2 hr3 hy hcells
          go_wp2_with fail
          exact ⟨⟨p + 1, q + 1, by go_num, by go_num, by omega, by omega, D4, B4⟩, by simp [intOf]; omega⟩
      · obtain rfl : q = n := by omega
        have d1 : decide (q < q) = false := decide_eq_false (by omega)
        obtain ⟨ys, hy1, hy2, hy3, -⟩ := hD.out.row
        obtain ⟨cs3, hr3⟩ := hD.out.frz
        rw [show xs.take q = xs from List.take_of_length_le (by rw [hn.out]; exact Nat.le_refl _)] at hy3
        obtain ⟨g', c', eg, -, hgw, -, -, -, hcells⟩ := own_cells hy2 (by omega)
        cases eg
        have hsl1 : ∀ V : World, (Instr.slice 27 (.slice (some ⟨g, 0, none⟩) q c) (some (.int .i64 (p : Int))) none none).run Tryz.prog V = .ok (.slice (some ⟨g, p, none⟩) (q - p) (c - p)) V := by
          intro V
          have hcp : ¬ c = p := by omega
          rw [run_slice_l V 27 _ q _ slice33 .i64 _ (by omega) (by omega), elem33, size9]
          simp [Result.andThen, sliced, hcp, add_flat]
        have hclr : ∀ ty, (Builtin.clear_ #[27] ty #[.slice (some ⟨g, p, none⟩) (q - p) (c - p)]).run Tryz.prog wr = .ok (.tuple #[]) (wr.setCells g p (List.replicate (q - p) (.string ⟨#[]⟩))) := fun ty =>
          Lib.run_clear_slice wr 27 9 ty (.string ⟨#[]⟩) Tryz.underlying27 zero9 rfl rfl g p (q - p) (c - p) (by omega) (fun j hj => by
            obtain ⟨y, hy⟩ := get_lt (l := ys) (k := p + j) (by omega)
            rw [hcells (p + j) (.string y) (by rw [List.getElem?_map, hy]; rfl)]
            rfl) (fun j hj => hr3.frozen _)
        have hres : Hid (L.Vals (wr.setCells g p (List.replicate (q - p) (.string ⟨#[]⟩))) (.slice (some ⟨g, 0, none⟩) p c) ((noT G xs).map .string)) := Lib.hid (by
          have hlen : (noT G xs).length = p := by rw [← hy3, List.length_take]; omega
          refine ⟨some ⟨g, 0, none⟩, c, by rw [List.length_map, hlen], by rw [List.length_map, hlen]; omega, by unfold maxLen; omega, .inr ⟨g, 0, rfl, by rw [size_setCells_]; exact hgw, fun j x hj => ?_⟩⟩
          rw [List.getElem?_map] at hj
          cases hz : (noT G xs)[j]? with
          | none => rw [hz] at hj; cases hj
          | some z =>
            rw [hz] at hj
            cases hj
            have hjp : j < p := by rw [← hlen]; exact (List.getElem?_eq_some_iff.1 hz).1
            rw [Nat.zero_add, World.cell?_setCells_out g _ p wr ⟨g, j, none⟩ (fun _ _ => .inl hjp)]
            refine hcells j _ ?_
            rw [← hy3, List.getElem?_take_of_lt hjp] at hz
            rw [List.getElem?_map, hz]; rfl)
        have hbw : Hid (Below N0 w (wr.setCells g p (List.replicate (q - p) (.string ⟨#[]⟩)))) := Lib.hid (Go.below_setCells hg1 _ _ _ hBw.out)
        clear hcells hy1 hy2 hy3 hr3
        go_wp2_with fail
        go_ret
        exact ⟨_, rfl, hres.out, hbw.out⟩
  · have hidx : Hid (idxI i n = -1) := Lib.hid (by unfold idxI; rw [if_neg (by omega)])
    rw [hidx.out] at CI
    have hv := L.own_vals hO
    have HV : Hid (L.Vals w v ((noT G xs).map .string)) := Lib.hid (by
      have hle : fstT G xs ≤ xs.length := List.findIdx_le_length
      rw [no_all (by rw [hi.out, hn.out]; rw [hi.out, hn.out] at hle; omega)]
      exact hv)
    obtain ⟨a, cap, rfl⟩ := own_form hO
    clear hv hO hB hS hs
    go_enter Tryz.func72, Tryz.ntmps72
    go_wp2_with fail
    refine CI.out.mono ?_
    rintro e w2 ⟨rfl, b2⟩
    have V2 := Lib.hid (HV.out.below b2)
    have B2 := Lib.hid (b2.mono hN)
    clear b2
    go_wp2_with fail
    go_ret
    exact ⟨_, rfl, V2.out, B2.out⟩
end Go.Proofs.YtfjmhnnjgjcmeaaGreatDoor
