/-
  For the laws of marker: the parts of a text, by the program. Condition: at most 100,000 bytes; the program's table of marks is as it is laid.
-/
import Derived.Test.YtbekbllffphfeaaDoorKPstate
namespace Go.Proofs.YtbekbllffphfeaaDoor.K
open Go.RowKit Go.Shelf
set_option linter.unusedSimpArgs false

theorem ReadIs.none {n : Nat} {l : By} {e : Ending} (h : ReadIs n l e) (hm : markOf n l = .none) : ∃ (s : Int) (c : Bool), e = .returned (.tuple #[.int .i64 s, .bool c, .bool false]) := by
  unfold ReadIs at h; rw [hm] at h; exact h
theorem ReadIs.some {n : Nat} {l : By} {e : Ending} {s : Nat} {c : Bool} (h : ReadIs n l e) (hm : markOf n l = .some (s, c)) : e = .returned (.tuple #[.int .i64 s, .bool c, .bool true]) := by
  unfold ReadIs at h; rw [hm] at h; exact h
theorem ParseIs.bad {r : Option (List Pt)} {e : Ending} {w' : World} (h : r = .none) (he : e = .returned (.tuple #[.slice .none 0 0, .int .i64 90])) : ParseIs r e w' := by
  subst h; exact he
theorem ParseIs.good {r : Option (List Pt)} {L : List Pt} {e : Ending} {w' : World} {v : Value} (h : r = .some L) (he : e = .returned (.tuple #[v, .int .i64 0])) (hv : Prts w' v L) : ParseIs r e w' := by
  subst h; exact ⟨v, he, hv⟩
set_option maxRecDepth 100000 in
set_option maxHeartbeats 16000000 in
theorem Parse_any (s : ByteArray) (hs : s.size ≤ 50000000) (n : Int) (w : World) (hW : MkW w) : Calls Tryd.prog 18 #[.string s, .int .i64 n] w fun e w' => ParseIs (parseT (lnB s) n) e w' ∧ Below w.heap.size w w' := by
  have HW := Lib.hid hW
  have hW1 := hW.size
  clear hW
  by_cases hn1 : n < 1
  · have f1 : decide (n < 1) = true := decide_eq_true hn1
    have hno : Hid (parseT (lnB s) n = none) := Lib.hid (by unfold parseT; rw [if_pos hn1])
    go_enter Tryd.func18, Tryd.ntmps18
    go_wp2_with fail
    go_ret2
    exact ⟨ParseIs.bad hno.out rfl, Below.refl _ _⟩
  obtain ⟨m, rfl⟩ : ∃ m : Nat, n = (m : Int) := ⟨n.toNat, by omega⟩
  have hm1 : 1 ≤ m := by omega
  have f1 : decide ((m : Int) < 1) = false := decide_eq_false hn1
  have hpt : Hid (parseT (lnB s) (m : Int) = parseL m (lnB s)) := Lib.hid (by unfold parseT; rw [if_neg hn1, Int.toNat_natCast])
  rw [hpt.out]
  obtain ⟨R, hR⟩ : ∃ R, Hid (parseL m (lnB s) = R) := ⟨_, Lib.hid rfl⟩
  rw [hR.out]
  clear hn1
  obtain ⟨W1, hW1'⟩ : ∃ W1, Hid (w.alloc (.cells #[.int .i64 0, .int .i64 0, .bool false, .string ⟨#[]⟩, .string ⟨#[]⟩, .string ⟨#[]⟩, .slice none 0 0] 65) = W1) := ⟨_, Lib.hid rfl⟩
  have B1 : Hid (Below w.heap.size w W1) := by rw [← hW1'.out]; exact Lib.hid ((Below.refl _ w).alloc (Nat.le_refl _) _)
  have R1 : Hid (RowAt W1 w.heap.size 65 (rdv 0 0 noPt (.slice none 0 0))) := by rw [← hW1'.out]; exact Lib.hid (RowAt.new w 65 _)
  have hs1 : w.heap.size < W1.heap.size := by rw [← hW1'.out]; simp
  go_enter Tryd.func18, Tryd.ntmps18
  go_wp2_with fail
  rw [hW1'.out]
  refine (Split_new s (by omega) W1).mono ?_
  rintro e w1 ⟨v, rfl, ⟨hv, hvg⟩, b1⟩
  obtain ⟨a, cap, rfl, hc, hat⟩ := strs_of_strz hv
  have hlen : (lns s).length ≤ 50000000 := Nat.le_trans (lns_len s) hs
  have hat2 : ∀ j x, (lns s)[j]? = some x → ∃ b off, a = some ⟨b, off, none⟩ ∧ b < w1.heap.size ∧ b ≠ w.heap.size ∧ w1.cell? ⟨b, off + j, none⟩ = some (.string x) := by
    intro j x hj
    obtain ⟨b, off, rfl, h1, h2⟩ := hat j x hj
    have := hvg b (by simp [Value.ownBlock])
    exact ⟨b, off, rfl, h1, by omega, h2⟩
  have Hat := Lib.hid hat2
  have HR1 := Lib.hid (R1.out.later b1)
  have HB1 := Lib.hid (B1.out.trans (b1.mono (by omega)))
  have hs2 : w.heap.size < w1.heap.size := by have := b1.size; omega
  have HD1 : Hid (Rd w1 w.heap.size w1.heap.size 0 0 noPt []) := Lib.hid ⟨⟨_, HR1.out, World.ownsRow_nil _ _ _ _⟩, hs2, Nat.le_refl _⟩
  clear hv hvg hat hat2 b1
  go_wp2_with fail
  go_loopw [7, 19] (fun p c wr => ∃ (k : Nat) (q : St) (fr : Nat), c = .int .i64 k ∧ k ≤ (lns s).length ∧ p = .int .i64 ((tx s k).length : Nat) ∧ Hid (PInv s m k fr q) ∧ Hid (Rd wr w.heap.size w1.heap.size q.sec fr q.p q.out) ∧ Hid (Below w.heap.size w wr) ∧ Hid (∀ b, b < w1.heap.size → b ≠ w.heap.size → wr.heap[b]? = w1.heap[b]?)) (fun _ c _ => (lns s).length - (intOf c).toNat)
  case atStart => exact ⟨0, st0, 0, rfl, by omega, by simp [tx], Lib.hid (PInv.start s m), HD1, HB1, Lib.hid (fun _ _ _ => rfl)⟩
  case round =>
    obtain ⟨k, q, fr, rfl, hk, rfl, hI, hD, hB, hF⟩ := hrel
    have hbs := hB.out.size
    have hql := hI.out.len
    have htl := tx_le s k
    obtain ⟨T, hT⟩ : ∃ T, Hid ((tx s k).length = T) := ⟨_, Lib.hid rfl⟩
    have hfr : fr ≤ T := by rw [← hT.out]; exact hI.out.2.1
    rw [hT.out] at htl
    rw [hT.out]
    obtain ⟨sec, hsec⟩ : ∃ sec, Hid (q.sec = sec) := ⟨_, Lib.hid rfl⟩
    have hs4 : sec < 4 := by rw [← hsec.out]; exact hql.2
    have hol := hql.1
    by_cases hlt : k < (lns s).length
    · obtain ⟨l, hl⟩ : ∃ l, (lns s)[k]? = some l := ⟨_, List.getElem?_eq_getElem hlt⟩
      obtain ⟨b, off, rfl, hbl, hbg, hl0⟩ := Hat.out k l hl
      have c0 : wr.cell? ⟨b, off + k, none⟩ = some (.string l) := by
        rw [show wr.cell? ⟨b, off + k, none⟩ = w1.cell? ⟨b, off + k, none⟩ from by unfold World.cell?; rw [hF.out b hbl hbg]]; exact hl0
      have hls := lns_sizes s l (List.mem_of_getElem? hl)
      have hlB := Lib.hid (lnB_get hl)
      have htx : Hid ((tx s (k + 1)).length = T + l.size) := Lib.hid (by rw [tx_succ hlB.out, List.length_append, hT.out, tl_length])
      have htl2 : T + l.size ≤ s.size := by rw [← htx.out]; exact tx_le s (k + 1)
      clear hl0 hl hql
      go_wp2_with fail
      refine (read_any l (by omega) m hm1 _ (HW.out.below hB.out hW1)).mono ?_
      rintro e w2 ⟨hr, b2⟩
      have D2 := Lib.hid (hD.out.below b2)
      have HB2 := Lib.hid (hB.out.trans (b2.mono hbs))
      have hbr2 := D2.out.size
      have F2 : Hid (∀ b, b < w1.heap.size → b ≠ w.heap.size → w2.heap[b]? = w1.heap[b]?) := Lib.hid fun b h1 h2 => (b2.block b (by have := hD.out.size; omega)).trans (hF.out b h1 h2)
      clear b2 c0
      cases hmk : markOf m (tl l) with
      | none =>
        obtain ⟨x0, c0, rfl⟩ := hr.none hmk
        have I2 := Lib.hid (hI.out.plain hlB.out hmk)
        clear hmk hr
        go_wp2_with fail
        exact ⟨⟨k + 1, _, fr, by go_num, by omega, by rw [htx.out]; go_num, I2, D2, HB2, F2⟩, by simp [intOf]; omega⟩
      | some xc =>
        obtain ⟨x, ct⟩ := xc
        obtain rfl := hr.some hmk
        have hx4 : x < 4 := markOf_lt hmk
        have Hmk := Lib.hid hmk
        clear hmk hr
        obtain ⟨v2, r2, o2⟩ := D2.out.row
        rw [hsec.out] at r2
        obtain ⟨d0, d1, -, -, -, -, -⟩ := rd_cells r2
        have hext := hI.out.now_ext
        rw [hT.out] at hext
        obtain ⟨Y, hY⟩ : ∃ Y, Hid (q.now = Y) := ⟨_, Lib.hid rfl⟩
        rw [hY.out] at hext
        have hYl : Y.length ≤ 50000000 := by
          have h1 : (bs Y).size = Y.length := bs_size Y
          rw [← hext, ByteArray.size_extract] at h1; omega
        have p0 : (0 : Int) ≤ (fr : Int) := by omega
        have p1 : (fr : Int) ≤ (T : Int) := by omega
        have p2 : (T : Int) ≤ (s.size : Int) := by omega
        have hso : q.out.length ≤ 100000000 := by omega
        have O2 := Lib.hid o2
        have R2 := Lib.hid r2
        clear r2 o2
        -- behind the test: the section ends
        have after : ∀ (w3 : World), EndIs w.heap.size w1.heap.size sec fr (endS q (cutT q.now ct)) w2 (.returned (.tuple #[])) w3 → badB q x ct = false →
            Hid (PInv s m (k + 1) (T + l.size) { endS q (cutT q.now ct) with sec := x, now := [] } ∧
              Rd ((w3.setCell ⟨w.heap.size, 0, none⟩ (.int .i64 x)).setCell ⟨w.heap.size, 1, none⟩ (.int .i64 ((T : Int) + l.size))) w.heap.size w1.heap.size x ((T + l.size : Nat) : Int) (endS q (cutT q.now ct)).p (endS q (cutT q.now ct)).out ∧
              Below w.heap.size w ((w3.setCell ⟨w.heap.size, 0, none⟩ (.int .i64 x)).setCell ⟨w.heap.size, 1, none⟩ (.int .i64 ((T : Int) + l.size))) ∧
              ∀ b, b < w1.heap.size → b ≠ w.heap.size → ((w3.setCell ⟨w.heap.size, 0, none⟩ (.int .i64 x)).setCell ⟨w.heap.size, 1, none⟩ (.int .i64 ((T : Int) + l.size))).heap[b]? = w1.heap[b]?) := by
          rintro w3 ⟨-, e1, e2, e3⟩ hb
          refine Lib.hid ⟨?_, ?_, ?_, ?_⟩
          · rw [← htx.out]; exact hI.out.mark hlB.out Hmk.out hb
          · have := e1.put (x : Int) ((T : Int) + l.size)
            have e : (((T + l.size : Nat) : Nat) : Int) = (T : Int) + l.size := by omega
            rw [e]; exact this
          · exact ((HB2.out.trans e2).setCell (p := ⟨w.heap.size, 0, none⟩) (Nat.le_refl _) _).setCell (p := ⟨w.heap.size, 1, none⟩) (Nat.le_refl _) _
          · intro b h1 h2
            rw [Below.heap_setCell _ _ _ _ (by simpa using h2), Below.heap_setCell _ _ _ _ (by simpa using h2), e3 b h1 h2, F2.out b h1 h2]
        have After := Lib.hid after
        clear after
        have E : Hid (∀ (c : Bool) (Z : By), cutT q.now c = Z → Calls Tryd.prog 29 #[.pointer (some ⟨w.heap.size, 0, none⟩), .string (bs Z)] w2 (EndIs w.heap.size w1.heap.size sec fr (endS q (cutT q.now c)) w2)) := Lib.hid fun c Z hZ => by
          have := end_any w.heap.size w1.heap.size (fr : Int) q (by rw [hsec.out]; exact hs4) (cutT q.now c) hso w2 D2.out
          rw [hsec.out] at this
          rw [← hZ]
          exact this
        have hbad : badB q x ct = ((ct && !decide (Y.getLast? = some 10)) || ((ct && x == 1) || !mayB sec x)) := by unfold badB; rw [hY.out, hsec.out]
        have Hbad := Lib.hid hbad
        have Hext := Lib.hid hext
        clear hbad hext
        cases ct with
        | false =>
          cases hmb : mayB sec x with
          | false =>
            have hbd : Hid (R = none) := Lib.hid (by rw [← hR.out]; exact hI.out.bad hlB.out Hmk.out (by rw [Hbad.out, hmb]; rfl))
            have Hmb := Lib.hid hmb
            have hext := Hext.out
            clear hmb
            go_wp2_with fail
            refine (may_any sec x hs4 hx4 w.heap.size _ d0).mono ?_
            rw [Hmb.out]
            rintro e w3 ⟨rfl, rfl⟩
            go_wp2_with fail
            go_ret2
            exact ⟨ParseIs.bad hbd.out rfl, HB2.out⟩
          | true =>
            have hbd : Hid (badB q x false = false) := Lib.hid (by rw [Hbad.out, hmb]; rfl)
            have Hmb := Lib.hid hmb
            have hext := Hext.out
            clear hmb
            go_wp2_with fail
            refine (may_any sec x hs4 hx4 w.heap.size _ d0).mono ?_
            rw [Hmb.out]
            rintro e w3 ⟨rfl, rfl⟩
            go_wp2_with fail
            refine (E.out false Y (by rw [hY.out]; rfl)).mono ?_
            rintro e w4 ⟨rfl, he⟩
            have A := After.out w4 ⟨rfl, he⟩ hbd.out
            obtain ⟨v4, r4, -⟩ := he.1.row
            obtain ⟨k0, k1, -, -, -, -, -⟩ := rd_cells r4
            have g0 := r4.frozen 0
            have g1 := r4.frozen 1
            clear he r4 d0 d1 hext
            go_wp2_with fail
            obtain ⟨a1, a2, a3, a4⟩ := A.out
            exact ⟨⟨k + 1, _, T + l.size, by go_num, by omega, by rw [htx.out]; go_num, Lib.hid a1, Lib.hid a2, Lib.hid a3, Lib.hid a4⟩, by simp [intOf]; omega⟩
        | true =>
          by_cases hy : Y.getLast? = some 10
          · have f3 : Lib.hasSuffix (bs Y).data.toList [10] = true := by
              rw [suffix_nl]; exact decide_eq_true hy
            have F3 := Lib.hid f3
            have hyd : decide (Y.getLast? = some 10) = true := decide_eq_true hy
            have hyp : 1 ≤ Y.length := by
              cases Y with
              | nil => simp at hy
              | cons a b => simp
            have hcutY : Hid ((bs Y).extract 0 (Y.length - 1) = bs Y.dropLast) := Lib.hid (by
              rw [ext_bs, tl_bs, List.dropLast_eq_take]; simp)
            by_cases hx1 : x = 1
            · have hbd : Hid (R = none) := Lib.hid (by rw [← hR.out]; exact hI.out.bad hlB.out Hmk.out (by rw [Hbad.out, hx1]; simp))
              have hx1b : ((x : Int) == 1) = true := by simp [hx1]
              have hext := Hext.out
              clear f3 hyd hx1 hy
              go_wp2_with fail
              refine (Tryd.strings_HasSuffix (bs Y) _ _ (by rw [bs_size]; omega)).mono ?_
              rw [show Lib.hasSuffix (bs Y).data.toList (⟨#[10]⟩ : ByteArray).data.toList = true from F3.out]
              rintro e w3 ⟨rfl, rfl⟩
              go_wp2_with fail
              go_ret2
              exact ⟨ParseIs.bad hbd.out rfl, HB2.out⟩
            · have hx1b : ((x : Int) == 1) = false := by
                rw [beq_eq_false_iff_ne]; omega
              have hx1c : (x == 1) = false := by simpa using hx1
              cases hmb : mayB sec x with
              | false =>
                have hbd : Hid (R = none) := Lib.hid (by rw [← hR.out]; exact hI.out.bad hlB.out Hmk.out (by rw [Hbad.out, hmb]; simp))
                have Hmb := Lib.hid hmb
                have hext := Hext.out
                clear hmb f3 hyd hx1 hy hx1c
                go_wp2_with fail
                refine (Tryd.strings_HasSuffix (bs Y) _ _ (by rw [bs_size]; omega)).mono ?_
                rw [show Lib.hasSuffix (bs Y).data.toList (⟨#[10]⟩ : ByteArray).data.toList = true from F3.out]
                rintro e w3 ⟨rfl, rfl⟩
                go_wp2_with fail
                refine (may_any sec x hs4 hx4 w.heap.size _ d0).mono ?_
                rw [Hmb.out]
                rintro e w4 ⟨rfl, rfl⟩
                go_wp2_with fail
                go_ret2
                exact ⟨ParseIs.bad hbd.out rfl, HB2.out⟩
              | true =>
                have hbd : Hid (badB q x true = false) := Lib.hid (by rw [Hbad.out, hmb, hyd, hx1c]; rfl)
                have Hmb := Lib.hid hmb
                have hext := Hext.out
                clear hmb f3 hyd hx1 hy hx1c
                go_wp2_with fail
                refine (Tryd.strings_HasSuffix (bs Y) _ _ (by rw [bs_size]; omega)).mono ?_
                rw [show Lib.hasSuffix (bs Y).data.toList (⟨#[10]⟩ : ByteArray).data.toList = true from F3.out]
                rintro e w3 ⟨rfl, rfl⟩
                go_wp2_with fail
                refine (may_any sec x hs4 hx4 w.heap.size _ d0).mono ?_
                rw [Hmb.out]
                rintro e w4 ⟨rfl, rfl⟩
                have hcY := hcutY.out
                have p5 : (0 : Int) ≤ (Y.length : Int) - 1 := by omega
                have p6 : (Y.length : Int) - 1 ≤ (Y.length : Int) := by omega
                have p7 : IntKind.i64.wrap ((Y.length : Int) - 1) = (Y.length : Int) - 1 := IntWalk.i64_in _ (by omega)
                have p8 : ((Y.length : Int) - 1).toNat = Y.length - 1 := by omega
                go_wp2_with fail
                refine (E.out true Y.dropLast (by rw [hY.out]; rfl)).mono ?_
                rintro e w4 ⟨rfl, he⟩
                have A := After.out w4 ⟨rfl, he⟩ hbd.out
                obtain ⟨v4, r4, -⟩ := he.1.row
                obtain ⟨k0, k1, -, -, -, -, -⟩ := rd_cells r4
                have g0 := r4.frozen 0
                have g1 := r4.frozen 1
                clear he r4 d0 d1 hext hcY p5 p6 p7 p8
                go_wp2_with fail
                obtain ⟨a1, a2, a3, a4⟩ := A.out
                exact ⟨⟨k + 1, _, T + l.size, by go_num, by omega, by rw [htx.out]; go_num, Lib.hid a1, Lib.hid a2, Lib.hid a3, Lib.hid a4⟩, by simp [intOf]; omega⟩
          · have f3 : Lib.hasSuffix (bs Y).data.toList [10] = false := by
              rw [suffix_nl]; exact decide_eq_false hy
            have F3 := Lib.hid f3
            have hbd : Hid (R = none) := Lib.hid (by rw [← hR.out]; exact hI.out.bad hlB.out Hmk.out (by rw [Hbad.out, decide_eq_false hy]; rfl))
            have hext := Hext.out
            clear f3 hy
            go_wp2_with fail
            refine (Tryd.strings_HasSuffix (bs Y) _ _ (by rw [bs_size]; omega)).mono ?_
            rw [show Lib.hasSuffix (bs Y).data.toList (⟨#[10]⟩ : ByteArray).data.toList = false from F3.out]
            rintro e w3 ⟨rfl, rfl⟩
            go_wp2_with fail
            go_ret2
            exact ⟨ParseIs.bad hbd.out rfl, HB2.out⟩
    · obtain rfl : k = (lns s).length := by omega
      have hfin := hI.out.fin
      rw [hR.out] at hfin
      have hTs : T = s.size := by rw [← hT.out, tx_all, tl_length]
      obtain ⟨v2, r2, o2⟩ := hD.out.row
      rw [hsec.out] at r2
      obtain ⟨d0, d1, -, -, -, -, -⟩ := rd_cells r2
      have hext := hI.out.now_ext
      rw [hT.out, hTs] at hext
      have p0 : (0 : Int) ≤ (fr : Int) := by omega
      have p1 : (fr : Int) ≤ (s.size : Int) := by omega
      have hso : q.out.length ≤ 100000000 := by omega
      have HTs := Lib.hid hTs
      clear hTs r2 o2
      by_cases h0 : sec = 0
      · have h0b : ((sec : Int) != 0) = false := by simp [h0]
        have hR2 : Hid (R = some (endS q q.now).out) := Lib.hid (by rw [hfin]; unfold finS; rw [if_pos (by rw [hsec.out]; exact h0)])
        have E := end_any w.heap.size w1.heap.size (fr : Int) q (by rw [hsec.out]; exact hs4) q.now hso wr hD.out
        obtain ⟨Y, hY⟩ : ∃ Y, Hid (q.now = Y) := ⟨_, Lib.hid rfl⟩
        rw [hY.out] at hext E hR2
        have HE := Lib.hid E
        clear E hfin h0
        go_wp2_with fail
        refine HE.out.mono ?_
        rintro e w4 ⟨rfl, he⟩
        obtain ⟨v4, r4, o4⟩ := he.1.row
        obtain ⟨-, -, -, -, -, -, k6⟩ := rd_cells r4
        have HB4 := Lib.hid (hB.out.trans he.2.1)
        have hv4 := Lib.hid (own_prts o4)
        clear he r4 o4 d0 d1 hext
        go_wp2_with fail
        go_ret2
        exact ⟨ParseIs.good hR2.out rfl hv4.out, HB4.out⟩
      · have h0b : ((sec : Int) != 0) = true := by rw [bne_iff_ne]; omega
        have hR2 : Hid (R = none) := Lib.hid (by rw [hfin]; unfold finS; rw [if_neg (by rw [hsec.out]; exact h0)])
        clear hfin h0 hext
        go_wp2_with fail
        go_ret2
        exact ⟨ParseIs.bad hR2.out rfl, hB.out⟩
end Go.Proofs.YtbekbllffphfeaaDoor.K
