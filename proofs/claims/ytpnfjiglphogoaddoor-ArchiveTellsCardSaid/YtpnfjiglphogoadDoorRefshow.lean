/-
  For the laws of archive: the reference's Show and path. Condition: at most 1,000 files with paths and texts of at most 100,000 bytes.
-/
import Derived.Test.YtpnfjiglphogoadDoorRefd
import Derived.Test.YtpnfjiglphogoadDoorRmath
namespace Go.Proofs.YtpnfjiglphogoadDoor
open Go.RowKit Go.Shelf
set_option linter.unusedSimpArgs false
set_option linter.unusedVariables false

/-- Within a round of Show: a file's cells, and what lies below. -/
def HR (w : World) (b n : Nat) (p : Fl) (W : World) : Prop := W.cell? ⟨b, n, none⟩ = some (.string (bs p.path)) ∧ W.cell? ⟨b, n + 1, none⟩ = some (.string (bs p.text)) ∧ Below w.heap.size w W
theorem HR.all {w W : World} {b n : Nat} {p : Fl} (h : HR w b n p W) : W.cell? ⟨b, n, none⟩ = some (.string (bs p.path)) ∧ W.cell? ⟨b, n + 1, none⟩ = some (.string (bs p.text)) ∧ HR w b n p W := ⟨h.1, h.2.1, h⟩
theorem HR.later {w W W' : World} {b n : Nat} {p : Fl} (h : HR w b n p W) (hb : Below W.heap.size W W') : HR w b n p W' :=
  ⟨(hb.cell (p := ⟨b, n, none⟩) (World.block_lt_of_cell? W _ h.1)).trans h.1, (hb.cell (p := ⟨b, n + 1, none⟩) (World.block_lt_of_cell? W _ h.2.1)).trans h.2.1, h.2.2.trans (hb.mono h.2.2.size)⟩
theorem HR.drew {w W : World} {b n : Nat} {p : Fl} (h : HR w b n p W) : HR w b n p W.drew := h.later (below_drew (Below.refl _ _))
theorem RefWhole_p (t t2 : By) (ht : t.length ≤ 100000) (h : whole t = t2) (W : World) : Calls Tryd.prog 23 #[.string (bs t)] W fun e w'' => e = .returned (.string (bs t2)) ∧ Below W.heap.size W w'' := by
  subst h
  refine (RefWhole_any (bs t) (by rw [bs_size]; omega) _).mono ?_
  rintro e w' ⟨rfl, rfl⟩
  exact ⟨by rw [wholeS_bs, tl_bs], Below.refl _ _⟩
theorem RefHead_p (p : Fl) (H : By) (h1 : p.path.length ≤ 100000) (h2 : p.text.length ≤ 100000) (h : headL p = H) (W : World) : Calls Tryd.prog 16 #[.agg #[.string (bs p.path), .string (bs p.text)]] W fun e w'' => e = .returned (.string (bs H)) ∧ Below W.heap.size W w'' := by
  subst h
  exact RefHead_any p h1 h2 W
set_option maxRecDepth 100000 in
set_option maxHeartbeats 8000000 in
theorem RefShow_any (v : Value) (L : List Fl) (hl : L.length ≤ 1000) (hok : ∀ f ∈ L, okS f) (w : World) (hv : Fls w v L) :
    Calls Tryd.prog 14 #[v] w fun e w' => e = .returned (.string (bs (showL L))) ∧ Below w.heap.size w w' := by
  obtain ⟨a, cap, rfl, hc, hcm, hat⟩ := hv
  unfold maxLen at hcm
  have Hat := Lib.hid hat
  have Hok := Lib.hid hok
  clear hat hok
  obtain ⟨r, hr⟩ : ∃ r, Hid (showL L = r) := ⟨_, Lib.hid rfl⟩
  rw [hr.out]
  go_enter Tryd.func14, Tryd.ntmps14
  go_wp2_with fail
  go_loopw [3, 4] (fun s c wr => ∃ (k : Nat) (X : By), c = .int .i64 k ∧ k ≤ L.length ∧ s = .string (bs X) ∧ Hid (showL (L.take k) = X) ∧ Hid (Below w.heap.size w wr)) (fun _ c _ => L.length - (intOf c).toNat)
  case atStart => exact ⟨0, [], rfl, by omega, rfl, Lib.hid rfl, Lib.hid (Below.refl _ _)⟩
  case round =>
    obtain ⟨k, X, rfl, hk, rfl, hX, hB⟩ := hrel
    have hpl := showL_take_le Hok.out hl k
    rw [hX.out] at hpl
    by_cases hlt : k < L.length
    · obtain ⟨p, hp⟩ : ∃ p, L[k]? = some p := ⟨_, List.getElem?_eq_getElem hlt⟩
      obtain ⟨b, off, rfl, hbl, l0, l1⟩ := Hat.out k p hp
      have hs0 : HR w b (off + k * 2) p wr := ⟨(hB.out.cell (p := ⟨b, off + k * 2, none⟩) hbl).trans l0, (hB.out.cell (p := ⟨b, off + k * 2 + 1, none⟩) hbl).trans l1, hB.out⟩
      have hpo := Hok.out p (List.mem_of_getElem? hp)
      have hnx : Hid (showL (L.take (k + 1)) = X ++ headL p ++ whole p.text) := Lib.hid (by rw [← hX.out, showL_take hp, oneL, List.append_assoc])
      have hh := headL_le hpo.1 hpo.2
      have hw := whole_le p.text
      have htl := hpo.2
      have hpa := hpo.1
      clear l0 l1 hp hpo
      obtain ⟨H, hH⟩ : ∃ H, Hid (headL p = H) := ⟨_, Lib.hid rfl⟩
      obtain ⟨T, hT⟩ : ∃ T, Hid (whole p.text = T) := ⟨_, Lib.hid rfl⟩
      rw [hH.out] at hh hnx
      rw [hT.out] at hw hnx
      have Q1 : Hid (∀ W, Calls Tryd.prog 16 #[.agg #[.string (bs p.path), .string (bs p.text)]] W fun e w'' => e = .returned (.string (bs H)) ∧ Below W.heap.size W w'') := Lib.hid fun W => RefHead_p p H hpa htl hH.out W
      have Q2 : Hid (∀ W, Calls Tryd.prog 23 #[.string (bs p.text)] W fun e w'' => e = .returned (.string (bs T)) ∧ Below W.heap.size W w'') := Lib.hid fun W => RefWhole_p p.text T htl hT.out W
      have z1 : ¬ 9223372036854775807 < X.length + H.length := by omega
      have z2 : ¬ 9223372036854775807 < X.length + H.length + T.length := by omega
      obtain ⟨d0, d1, -⟩ := hs0
      have hs0 : HR w b (off + k * 2) p wr := ⟨d0, d1, hB.out⟩
      go_wp2_with fail
      go_region_held3 (fun W => W.cell? ⟨b, off + k * 2, none⟩ = some (.string (bs p.path)) ∧ W.cell? ⟨b, off + k * 2 + 1, none⟩ = some (.string (bs p.text)) ∧ HR w b (off + k * 2) p W)
        (first | exact HR.all (by assumption) | exact HR.all (HR.drew (by assumption)) | exact HR.all (HR.drew (And.right (And.right (by assumption)))))
        (first
          | (go_at_call 16; refine (Q1.out _).mono ?_; rintro e w' ⟨rfl, hb⟩; have hs' := HR.later (And.right (And.right (by assumption))) hb)
          | (go_at_call 23; refine (Q2.out _).mono ?_; rintro e w' ⟨rfl, hb⟩; have hs' := HR.later (And.right (And.right (by assumption))) hb))
      all_goals
        have hend := And.right (And.right (by assumption : _ ∧ _ ∧ HR w b (off + k * 2) p _))
        have Hend := Lib.hid hend
        clear hend
        have hsum : Hid (bs X ++ bs H ++ bs T = bs (showL (L.take (k + 1)))) := Lib.hid (by rw [hnx.out]; simp only [bs_app])
        go_wp2_with fail
        rw [hsum.out]
        exact ⟨⟨k + 1, _, by go_num, by omega, rfl, Lib.hid rfl, Lib.hid Hend.out.2.2⟩, by simp [intOf]; omega⟩
    · obtain rfl : k = L.length := by omega
      rw [List.take_length, hr.out] at hX
      have hX2 := hX.out
      subst hX2
      go_wp2_with fail
      go_ret
      exact ⟨rfl, hB.out⟩
/-- Behind i bytes: is there a first space, and where. -/
def PI (l : By) (i : Nat) (f : Int) : Prop := (f = -1 ∧ (32 : UInt8) ∉ l.take i) ∨ (∃ a y, l.take i = a ++ 32 :: y ∧ (32 : UInt8) ∉ a ∧ (32 : UInt8) ∉ y ∧ f = ((a.length + 1 : Nat) : Int))
theorem PI.no {l : By} {i : Nat} {f : Int} {c : UInt8} (h : PI l i f) (hc : l[i]? = some c) (h32 : c ≠ 32) : PI l (i + 1) f := by
  unfold PI
  rw [List.take_add_one, hc]
  rcases h with ⟨h1, h2⟩ | ⟨a, y, h1, h2, h3, h4⟩
  · exact .inl ⟨h1, by simp [h2]; exact fun e => h32 e.symm⟩
  · exact .inr ⟨a, y ++ [c], by rw [h1]; simp, h2, by simp [h3]; exact fun e => h32 e.symm, h4⟩
theorem PI.one {l : By} {i : Nat} {f : Int} {c : UInt8} (h : PI l i f) (hc : l[i]? = some c) (h32 : c = 32) (hf : f < 0) : PI l (i + 1) ((i : Int) + 1) := by
  rcases h with ⟨h1, h2⟩ | ⟨a, y, h1, h2, h3, h4⟩
  · refine .inr ⟨l.take i, [], by rw [List.take_add_one, hc, h32]; rfl, h2, by simp, ?_⟩
    have := (List.getElem?_eq_some_iff.1 hc).1
    rw [List.length_take]; omega
  · omega
theorem PI.two {l : By} {i : Nat} {f : Int} {c : UInt8} (h : PI l i f) (hc : l[i]? = some c) (h32 : c = 32) (hf : 0 ≤ f) : ∃ m : Nat, f = (m : Int) ∧ m ≤ i ∧ (l.drop m).take (i - m) = pathW l := by
  rcases h with ⟨h1, h2⟩ | ⟨a, y, h1, h2, h3, h4⟩
  · omega
  · have hil := (List.getElem?_eq_some_iff.1 hc).1
    have hlen := congrArg List.length h1
    rw [List.length_take] at hlen
    simp at hlen
    have e : l = a ++ 32 :: (y ++ 32 :: l.drop (i + 1)) := by
      have e1 : l = l.take i ++ l.drop i := (List.take_append_drop i l).symm
      rw [List.drop_eq_getElem_cons hil] at e1
      have e2 : l[i] = 32 := by
        rw [List.getElem?_eq_getElem hil] at hc
        exact (Option.some.inj hc).trans h32
      rw [e2, h1] at e1
      exact e1.trans (by simp)
    refine ⟨a.length + 1, h4, by omega, ?_⟩
    have hp : pathW l = y := by
      unfold pathW
      rw [e, sepAt_some _ h2]
      simp only
      rw [sepAt_some _ h3]
    rw [hp]
    have h5 : ((l.take i).drop (a.length + 1)) = y := by
      rw [h1, show a ++ (32 : UInt8) :: y = (a ++ [32]) ++ y by simp]
      exact List.drop_left' (by simp)
    rw [← h5, List.drop_take]
theorem PI.fin {l : By} {f : Int} (h : PI l l.length f) : pathW l = [] := by
  unfold PI at h
  rw [List.take_length] at h
  unfold pathW
  rcases h with ⟨h1, h2⟩ | ⟨a, y, h1, h2, h3, h4⟩
  · rw [sepAt_none h2]
  · rw [h1, sepAt_some _ h2]
    simp only
    rw [sepAt_none h3]
theorem sp_iff (c : UInt8) : ((c.toNat : Int) != 32) = decide (c ≠ 32) := by
  rw [Bool.eq_iff_iff, bne_iff_ne, decide_eq_true_eq]
  constructor
  · intro h e; exact h (by rw [e]; rfl)
  · intro h e
    exact h (UInt8.toNat_inj.1 (by have : (32 : UInt8).toNat = 32 := rfl; omega))
set_option maxRecDepth 100000 in
set_option maxHeartbeats 8000000 in
theorem Refpathw_any (s : ByteArray) (hs : s.size ≤ 1000000) (w : World) : Calls Tryd.prog 35 #[.string s] w fun e w' => e = .returned (.string (bs (pathW (tl s)))) ∧ w' = w := by
  have hlen := tl_length s
  obtain ⟨P, hP⟩ : ∃ P, Hid (pathW (tl s) = P) := ⟨_, Lib.hid rfl⟩
  rw [hP.out]
  go_enter Tryd.func35, Tryd.ntmps35
  go_wp2_with fail
  go_loop [3, 4] (fun f i => ∃ (k : Nat) (g : Int), i = .int .i64 k ∧ k ≤ s.size ∧ f = .int .i64 g ∧ -1 ≤ g ∧ g ≤ s.size ∧ Hid (PI (tl s) k g)) (fun _ i => s.size - (intOf i).toNat)
  case atStart => exact ⟨0, -1, rfl, by omega, rfl, by omega, by omega, Lib.hid (.inl ⟨rfl, by simp⟩)⟩
  case round =>
    obtain ⟨k, g, rfl, hk, rfl, hg1, hg2, hI⟩ := hrel
    by_cases hlt : k < s.size
    · have hc := tl_get s hlt
      by_cases h32 : s[k] = 32
      · have f1 : ((s[k].toNat : Int) != 32) = false := by rw [sp_iff]; simp [h32]
        by_cases hg : 0 ≤ g
        · obtain ⟨m, rfl, hmk, hm⟩ := hI.out.two hc h32 hg
          have hx : Hid (s.extract m k = bs P) := Lib.hid (by rw [ext_bs, hm, hP.out])
          clear hc h32 hm
          go_wp2_with fail
          go_ret
          rw [hx.out]
          exact ⟨rfl, rfl⟩
        · have hn := hI.out.one hc h32 (by omega)
          have Hn := Lib.hid hn
          clear hc h32 hn
          go_wp2_with fail
          exact ⟨⟨k + 1, (k : Int) + 1, by go_num, by omega, rfl, by omega, by omega, Hn⟩, by simp [intOf]; omega⟩
      · have f1 : ((s[k].toNat : Int) != 32) = true := by rw [sp_iff]; simp [h32]
        have hn := hI.out.no hc h32
        have Hn := Lib.hid hn
        clear hc h32 hn
        go_wp2_with fail
        exact ⟨⟨k + 1, g, by go_num, by omega, rfl, by omega, by omega, Hn⟩, by simp [intOf]; omega⟩
    · obtain rfl : k = s.size := by omega
      have hf : P = [] := by
        have := hI.out
        rw [← hlen] at this
        rw [← hP.out]; exact this.fin
      subst hf
      go_wp2_with fail
      go_ret
      exact ⟨rfl, rfl⟩
end Go.Proofs.YtpnfjiglphogoadDoor
