/-
  For the law LexTells: where what stands between tokens ends. Condition: the text has at most 2,000,000,000 bytes.
-/
import Derived.Test.YtamhlobjolnlhaaDoorRefk
namespace Go.Proofs.YtamhlobjolnlhaaDoor
open Go.RowKit Go.Shelf

/-- What a note's end means for where the separators end. -/
def CloseFin (l : List UInt8) (a P : Nat) (B : Bool) : Option Nat → Prop
  | none => P = a ∧ B = false
  | some n => P = (a + 2 + n + 2) + (sep (l.drop (a + 2 + n + 2))).1 ∧ B = (sep (l.drop (a + 2 + n + 2))).2
theorem drop_at {s : ByteArray} {a : Nat} {c : UInt8} (h : a < s.size) (hc : s[a] = c) : (tl s).drop a = c :: (tl s).drop (a + 1) := by
  have hg := tl_get s h
  rw [hc] at hg
  obtain ⟨h1, h2⟩ := List.getElem?_eq_some_iff.1 hg
  rw [List.drop_eq_getElem_cons h1, h2]
theorem head_at {s : ByteArray} {a : Nat} : ((tl s).drop a).head? = (tl s)[a]? := by rw [List.head?_drop]
theorem byte_eq {c d : UInt8} : ((c.toNat : Int) == (d.toNat : Int)) = decide (c = d) := by
  rw [Bool.eq_iff_iff]
  simp only [beq_iff_eq, decide_eq_true_eq]
  constructor
  · intro h; exact UInt8.toNat_inj.1 (by omega)
  · rintro rfl; rfl
theorem line_at {s : ByteArray} {a : Nat} {c : UInt8} (h : a < s.size) (hc : s[a] = c) : lineLen ((tl s).drop a) = if c = 10 then 0 else lineLen ((tl s).drop (a + 1)) + 1 := by
  rw [drop_at h hc, lineLen, List.takeWhile_cons]
  by_cases h10 : c = 10
  · subst h10; simp
  · rw [if_pos (by simpa using h10), if_neg h10]; rfl
theorem line_end {s : ByteArray} {a : Nat} (h : s.size ≤ a) : lineLen ((tl s).drop a) = 0 := by
  rw [List.drop_of_length_le (by rw [tl_length]; exact h)]; rfl
theorem close_at {s : ByteArray} {a : Nat} {c d : UInt8} (h : a + 1 < s.size) (hc : s[a] = c) (hd : s[a + 1] = d) : closeAt ((tl s).drop a) = if c = 42 ∧ d = 47 then some 0 else (closeAt ((tl s).drop (a + 1))).map (· + 1) := by
  rw [drop_at (by omega) hc, drop_at h hd]
  conv => lhs; unfold closeAt
theorem close_end {s : ByteArray} {a : Nat} (h : s.size ≤ a + 1) : closeAt ((tl s).drop a) = none := by
  have hl : ((tl s).drop a).length ≤ 1 := by rw [List.length_drop, tl_length]; omega
  match hx : (tl s).drop a, hl with
  | [], _ => rfl
  | [_], _ => rfl
set_option maxRecDepth 100000 in
set_option maxHeartbeats 8000000 in
theorem between_any (s : ByteArray) (k : Nat) (w : World) (hs : s.size ≤ 2000000000) (hk : k ≤ s.size) :
    Calls Tryd.prog 34 #[.string s, .int .i64 k] w fun e w' => e = .returned (.tuple #[.int .i64 (k + (sep ((tl s).drop k)).1 : Nat), .bool (sep ((tl s).drop k)).2]) ∧ w = w' := by
  have hl := tl_length s
  obtain ⟨P, hP⟩ : ∃ P, Hid (k + (sep ((tl s).drop k)).1 = P) := ⟨_, Lib.hid rfl⟩
  obtain ⟨B, hB⟩ : ∃ B, Hid ((sep ((tl s).drop k)).2 = B) := ⟨_, Lib.hid rfl⟩
  rw [hP.out, hB.out]
  go_enter Tryd.func34, Tryd.ntmps34
  go_wp2_with fail
  go_loop [1] (fun c => ∃ a : Nat, c = .int .i64 a ∧ a ≤ s.size ∧ Hid (P = a + (sep ((tl s).drop a)).1 ∧ B = (sep ((tl s).drop a)).2)) (fun c => s.size - (intOf c).toNat)
  case atStart => exact ⟨k, rfl, hk, Lib.hid ⟨hP.out.symm, hB.out.symm⟩⟩
  case round =>
    obtain ⟨a, rfl, ha, hat⟩ := hrel
    by_cases hlt : a < s.size
    · obtain ⟨c, hc⟩ : ∃ c, s[a] = c := ⟨_, rfl⟩
      have hx := Lib.hid (drop_at hlt hc)
      by_cases hbl : blank c = true
      · have hn : Hid (P = (a + 1) + (sep ((tl s).drop (a + 1))).1 ∧ B = (sep ((tl s).drop (a + 1))).2) := Lib.hid (by
          have := hat.out
          rw [hx.out, sep, if_pos hbl] at this
          simp only at this
          exact ⟨by omega, this.2⟩)
        have hor : c = 32 ∨ c = 9 ∨ c = 10 ∨ c = 13 := by simpa [blank, or_assoc] using hbl
        clear hbl hat
        rcases hor with rfl | rfl | rfl | rfl
        all_goals
          go_wp2_with fail
          exact ⟨⟨a + 1, by go_num, by omega, hn⟩, by simp [intOf]; omega⟩
      · have hbf : blank c = false := by simpa using hbl
        have n1 : ((c.toNat : Int) == 32) = false := by have := byte_eq (c := c) (d := 32); rw [decide_eq_false (by rintro rfl; simp [blank] at hbf)] at this; exact this
        have n2 : ((c.toNat : Int) == 9) = false := by have := byte_eq (c := c) (d := 9); rw [decide_eq_false (by rintro rfl; simp [blank] at hbf)] at this; exact this
        have n3 : ((c.toNat : Int) == 10) = false := by have := byte_eq (c := c) (d := 10); rw [decide_eq_false (by rintro rfl; simp [blank] at hbf)] at this; exact this
        have n4 : ((c.toNat : Int) == 13) = false := by have := byte_eq (c := c) (d := 13); rw [decide_eq_false (by rintro rfl; simp [blank] at hbf)] at this; exact this
        by_cases hlast : s.size ≤ a + 1
        · have d1 : decide ((s.size : Int) ≤ (a : Int) + 1) = true := by simp; omega
          have he : Hid (P = a ∧ B = true) := Lib.hid (by
            have := hat.out
            rw [hx.out, List.drop_of_length_le (by omega : (tl s).length ≤ a + 1), sep_else hbf (by simp) (by simp)] at this
            exact ⟨by simpa using this.1, this.2⟩)
          obtain ⟨rfl, rfl⟩ := he.out
          clear hbl hat he
          go_wp2_with fail
          go_ret2
          exact ⟨rfl, rfl⟩
        · have d1 : decide ((s.size : Int) ≤ (a : Int) + 1) = false := by simp; omega
          have hlt2 : a + 1 < s.size := by omega
          obtain ⟨d, hd⟩ : ∃ d, s[a + 1] = d := ⟨_, rfl⟩
          have hh : Hid (((tl s).drop (a + 1)).head? = some d) := Lib.hid (by rw [drop_at hlt2 hd]; rfl)
          by_cases e1 : c = 47
          · subst e1
            by_cases e2 : d = 47
            · have hn : Hid (P = a + lineLen ((tl s).drop a) + (sep ((tl s).drop (a + lineLen ((tl s).drop a)))).1 ∧ B = (sep ((tl s).drop (a + lineLen ((tl s).drop a)))).2) := Lib.hid (by
                have := hat.out
                rw [hx.out, sep, if_neg (by rw [hbf]; simp), if_pos ⟨rfl, by rw [hh.out, e2]⟩, List.drop_drop] at this
                have h10 : (47 : UInt8) ≠ 10 := by decide
                rw [line_at hlt hc, if_neg h10, show a + (lineLen ((tl s).drop (a + 1)) + 1) = a + 1 + lineLen ((tl s).drop (a + 1)) from by omega]
                simp only at this
                exact ⟨by omega, this.2⟩)
              have hle : a + lineLen ((tl s).drop a) ≤ s.size := by have := lineLen_le ((tl s).drop a); rw [List.length_drop, hl] at this; omega
              have hpos : 0 < lineLen ((tl s).drop a) := by rw [line_at hlt hc, if_neg (by decide)]; omega
              subst e2
              generalize hz : a + lineLen ((tl s).drop a) = z at hn hle
              have hza : a < z := by omega
              have Hz := Lib.hid hz
              clear hpos hbl hat hz
              go_wp2_with fail
              go_loop [1] (fun x => ∃ b : Nat, x = .int .i64 b ∧ b ≤ s.size ∧ Hid (b + lineLen ((tl s).drop b) = z)) (fun x => s.size - (intOf x).toNat)
              case atStart => exact ⟨a, rfl, ha, Hz⟩
              case round =>
                obtain ⟨b, rfl, hb, hbz⟩ := hrel
                by_cases hlb : b < s.size
                · obtain ⟨e, he⟩ : ∃ e, s[b] = e := ⟨_, rfl⟩
                  have hla := line_at hlb he
                  by_cases e10 : e = 10
                  · rw [if_pos e10] at hla
                    obtain rfl : b = z := by have := hbz.out; omega
                    subst e10
                    clear hla hbz
                    go_wp2_with fail
                    exact ⟨⟨b, rfl, hle, hn⟩, by simp [intOf]; omega⟩
                  · have p10 : ¬ (e.toNat : Int) = 10 := fun h => e10 (UInt8.toNat_inj.1 (by show e.toNat = 10; omega))
                    have r10 : ((e.toNat : Int) != 10) = true := by simpa using p10
                    have hnx : Hid (b + 1 + lineLen ((tl s).drop (b + 1)) = z) := Lib.hid (by rw [if_neg e10] at hla; have := hbz.out; omega)
                    clear hla hbz e10
                    go_wp2_with fail
                    exact ⟨⟨b + 1, by go_num, by omega, hnx⟩, by simp [intOf]; omega⟩
                · obtain rfl : b = z := by
                    have := hbz.out
                    rw [line_end (by omega)] at this
                    omega
                  clear hbz
                  go_wp2_with fail
                  exact ⟨⟨b, rfl, hle, hn⟩, by simp [intOf]; omega⟩
            · have p2 : ¬ (d.toNat : Int) = 47 := fun h => e2 (UInt8.toNat_inj.1 (by show d.toNat = 47; omega))
              have r2 : ((d.toNat : Int) != 47) = true := by simpa using p2
              by_cases e3 : d = 42
              · subst e3
                obtain ⟨C, hC⟩ : ∃ C, closeAt ((tl s).drop (a + 2)) = C := ⟨_, rfl⟩
                have hfin : Hid (CloseFin (tl s) a P B C) := Lib.hid (by
                  have := hat.out
                  rw [hx.out, sep, if_neg (by rw [hbf]; simp), if_neg (by rw [hh.out]; simp), if_pos ⟨rfl, hh.out⟩, List.drop_drop, show a + 1 + 1 = a + 2 from rfl, hC] at this
                  cases C with
                  | none => exact ⟨by simpa using this.1, this.2⟩
                  | some n =>
                    unfold CloseFin
                    simp only at this ⊢
                    rw [List.drop_drop, show a + 1 + (n + 3) = a + 2 + n + 2 from by omega] at this
                    exact ⟨by omega, this.2⟩)
                have HC : Hid (C = (closeAt ((tl s).drop (a + 2))).map (· + (a + 2 - (a + 2)))) := Lib.hid (by rw [hC]; cases C <;> simp)
                clear hC hbl hat
                go_wp2_with fail
                go_loop [7] (fun x => ∃ b : Nat, x = .int .i64 b ∧ a + 2 ≤ b ∧ b ≤ s.size ∧ Hid (C = (closeAt ((tl s).drop b)).map (· + (b - (a + 2))))) (fun x => s.size - (intOf x).toNat)
                case atStart => exact ⟨a + 2, by go_num, Nat.le_refl _, by omega, HC⟩
                case round =>
                  obtain ⟨b, rfl, hab, hb, hbC⟩ := hrel
                  by_cases hlb : b + 1 < s.size
                  · obtain ⟨e, he⟩ : ∃ e, s[b] = e := ⟨_, rfl⟩
                    obtain ⟨f, hf⟩ : ∃ f, s[b + 1] = f := ⟨_, rfl⟩
                    have hca := close_at hlb he hf
                    have step : ¬ (e = 42 ∧ f = 47) → Hid (C = (closeAt ((tl s).drop (b + 1))).map (· + (b + 1 - (a + 2)))) := fun h => Lib.hid (by
                      rw [hbC.out, hca, if_neg h]
                      cases closeAt ((tl s).drop (b + 1)) with
                      | none => rfl
                      | some n => simp; omega)
                    have Step := Lib.hid step
                    clear step
                    by_cases e42 : e = 42
                    · by_cases f47 : f = 47
                      · rw [if_pos ⟨e42, f47⟩] at hca
                        have hCs : C = some (b - (a + 2)) := by rw [hbC.out, hca]; simp
                        have hn : Hid (P = (b + 2) + (sep ((tl s).drop (b + 2))).1 ∧ B = (sep ((tl s).drop (b + 2))).2) := Lib.hid (by
                          have := hfin.out
                          rw [hCs] at this
                          unfold CloseFin at this
                          simp only at this
                          rw [show a + 2 + (b - (a + 2)) + 2 = b + 2 from by omega] at this
                          exact this)
                        subst e42 f47
                        clear hca hbC Step hfin hCs
                        go_wp2_with fail
                        exact ⟨⟨b + 2, by go_num, by omega, hn⟩, by simp [intOf]; omega⟩
                      · have hn := Step.out (fun h => f47 h.2)
                        have p47 : ¬ (f.toNat : Int) = 47 := fun h => f47 (UInt8.toNat_inj.1 (by show f.toNat = 47; omega))
                        have r47 : ((f.toNat : Int) != 47) = true := by simpa using p47
                        subst e42
                        clear hca hbC Step f47
                        go_wp2_with fail
                        exact ⟨⟨b + 1, by go_num, by omega, by omega, hn⟩, by simp [intOf]; omega⟩
                    · have hn := Step.out (fun h => e42 h.1)
                      have p42 : ¬ (e.toNat : Int) = 42 := fun h => e42 (UInt8.toNat_inj.1 (by show e.toNat = 42; omega))
                      have r42 : ((e.toNat : Int) != 42) = true := by simpa using p42
                      clear hca hbC Step e42
                      go_wp2_with fail
                      exact ⟨⟨b + 1, by go_num, by omega, by omega, hn⟩, by simp [intOf]; omega⟩
                  · have hCn : C = none := by rw [hbC.out, close_end (by omega)]; rfl
                    have he : Hid (P = a ∧ B = false) := Lib.hid (by have := hfin.out; rw [hCn] at this; exact this)
                    obtain ⟨rfl, rfl⟩ := he.out
                    have d2 : decide ((b : Int) + 1 < (s.size : Int)) = false := by simp; omega
                    have d3 : decide ((s.size : Int) ≤ (b : Int) + 1) = true := by simp; omega
                    clear hbC hfin he hCn
                    go_wp2_with fail
                    go_ret2
                    exact ⟨rfl, rfl⟩
              · have p3 : ¬ (d.toNat : Int) = 42 := fun h => e3 (UInt8.toNat_inj.1 (by show d.toNat = 42; omega))
                have r3 : ((d.toNat : Int) != 42) = true := by simpa using p3
                have he : Hid (P = a ∧ B = true) := Lib.hid (by
                  have := hat.out
                  rw [hx.out, sep_else hbf (by rw [hh.out]; simp [e2]) (by rw [hh.out]; simp [e3])] at this
                  exact ⟨by simpa using this.1, this.2⟩)
                obtain ⟨rfl, rfl⟩ := he.out
                clear hbl hat he e2 e3
                go_wp2_with fail
                go_ret2
                exact ⟨rfl, rfl⟩
          · have p1 : ¬ (c.toNat : Int) = 47 := fun h => e1 (UInt8.toNat_inj.1 (by show c.toNat = 47; omega))
            have r1 : ((c.toNat : Int) != 47) = true := by simpa using p1
            have he : Hid (P = a ∧ B = true) := Lib.hid (by
              have := hat.out
              rw [hx.out, sep_else hbf (by simp [e1]) (by simp [e1])] at this
              exact ⟨by simpa using this.1, this.2⟩)
            obtain ⟨rfl, rfl⟩ := he.out
            clear hbl hat he e1
            go_wp2_with fail
            go_ret2
            exact ⟨rfl, rfl⟩
    · obtain rfl : a = s.size := by omega
      have he : Hid (P = s.size ∧ B = true) := Lib.hid (by
        have := hat.out
        rw [List.drop_of_length_le (by omega), sep_nil] at this
        exact ⟨by simpa using this.1, this.2⟩)
      obtain ⟨rfl, rfl⟩ := he.out
      clear hat he
      go_wp2_with fail
      go_ret2
      exact ⟨rfl, rfl⟩
end Go.Proofs.YtamhlobjolnlhaaDoor
