/-
  For the laws of lines: the law LinesBack returns true for every text. No condition.
-/
import Derived.Test.YthojjmebjhempaaPure
import Derived.Test.YthojjmebjhempaaAwake
import Derived.Deep.QuietTactic
import Derived.BigQuiet
import Derived.IntWalk
namespace Go.Proofs.Ythojjmebjhempaa
open Go.RowKit Go.Shelf

theorem line_size {s x : ByteArray} (h : x ∈ lns s) : 0 < x.size := by
  have h1 := (lns_isLine h).1
  cases hz : x.size with
  | zero =>
    exact absurd (List.length_eq_zero_iff.1 (show x.data.toList.length = 0 by simpa using hz)) h1
  | succ n => omega
theorem line_le {s x : ByteArray} (h : x ∈ lns s) : x.size ≤ s.size := by
  rw [← sumL_lns s]
  obtain ⟨a, b, e⟩ := List.append_of_mem h
  rw [e]
  simp [sumL]
  omega
theorem line_byte {s x : ByteArray} (h : x ∈ lns s) {m : Nat} (hm : m + 1 < x.size) : ((x[m].toNat : Int) == 10) = false := by
  have h1 := (lns_isLine h).2 m (by simpa using hm)
  have e : x.data.toList[m]?.getD 0 = x[m] := by
    rw [List.getElem?_eq_getElem (by simp; omega)]
    rfl
  rw [e] at h1
  rw [beq_eq_false_iff_ne]
  intro e2
  exact h1 (UInt8.toNat_inj.1 (by have : x[m].toNat = 10 := by omega
                                  rw [this]; rfl))
theorem line_end {s x : ByteArray} {j : Nat} (h : (lns s)[j]? = some x) (hj : j + 1 < (lns s).length) (hx : x.size - 1 < x.size) : ((x[x.size - 1].toNat : Int) != 10) = false := by
  have h1 := lns_ends h hj
  rw [List.getLast?_eq_getElem?] at h1
  have e : x.data.toList[x.data.toList.length - 1]? = some x[x.size - 1] := by
    have hl : x.data.toList.length = x.size := by simp
    rw [List.getElem?_eq_getElem (by omega)]
    congr 1
  rw [e] at h1
  have h2 : x[x.size - 1] = 10 := by simpa using h1
  rw [h2]; rfl

set_option maxRecDepth 100000 in
set_option maxHeartbeats 4000000 in
theorem Back_any (s : ByteArray) (w : World) : Calls Try.prog 5 #[.string s] w fun e w' => e = .returned (.bool true) ∧ Below w.heap.size w w' := by
  by_cases hbig : 5000 < s.size
  · go_enter Try.func5, Try.ntmps5
    go_wp2_with fail
    refine (awake_any _).mono ?_
    rintro e w1 ⟨rfl, hb⟩
    go_wp2
    go_ret
    exact ⟨rfl, hb⟩
  · have hs : s.size ≤ 5000 := by omega
    clear hbig
    go_enter Try.func5, Try.ntmps5
    go_wp2_with fail
    refine (awake_any _).mono ?_
    rintro e w1 ⟨rfl, hb1⟩
    go_wp2_with fail
    refine (Split_any s (by omega) _).mono ?_
    rintro e w2 ⟨v, rfl, hv, hb2⟩
    have hb02 := hb1.trans (hb2.mono hb1.size)
    clear hb1 hb2
    have hll := lns_len s
    rcases hv with ⟨a, cap, rfl, hc, hm, hv⟩
    go_wp2
    have hs' : s.size ≤ 5000 := hs
    have hrest : ∀ wr : World, Below w2.heap.size w2 wr → Below w.heap.size w wr := fun wr h => hb02.trans (h.mono hb02.size)
    go_loopw [5] (fun i wr => ∃ k : Nat, k ≤ (lns s).length ∧ i = .int .i64 k ∧ Below w2.heap.size w2 wr) (fun i _ => (lns s).length - (intOf i).toNat)
    case atStart => exact ⟨0, Nat.zero_le _, rfl, Below.refl _ _⟩
    case round =>
      obtain ⟨k, hk, rfl, hB⟩ := hrel
      by_cases hlt : k < (lns s).length
      · rcases hv with hv | ⟨b, off, rfl, hbs, hx⟩
        · rw [hv] at hlt; simp at hlt
        · have hget : (lns s)[k]? = some (lns s)[k] := List.getElem?_eq_getElem hlt
          have hmem : (lns s)[k] ∈ lns s := List.getElem_mem hlt
          have e1 := (hB.cell (p := ⟨b, off + k, none⟩) hbs).trans (hx k _ hget)
          generalize hxk : (lns s)[k] = x at *
          have Hxk := Lib.hid hxk; clear hxk
          have Hget := Lib.hid hget; clear hget
          have hpos := line_size hmem
          have hsz : ((x.size : Int) == 0) = false := by rw [beq_eq_false_iff_ne]; omega
          have hxs : x.size ≤ 5000 := Nat.le_trans (line_le hmem) hs
          clear hx
          go_wp2
          go_loop [6] (fun c => ∃ m : Nat, m + 1 ≤ x.size ∧ c = .int .i64 m) (fun c => x.size - (intOf c).toNat)
          case atStart => exact ⟨0, by omega, rfl⟩
          case round =>
            obtain ⟨m, hm, rfl⟩ := hrel
            by_cases hml : m + 1 < x.size
            · have hby := line_byte hmem hml
              go_wp2
              go_round
              case rel => exact ⟨m + 1, by omega, by go_num⟩
              case measure => simp [intOf]; omega
            · by_cases hn : k + 1 < (lns s).length
              · have hby := line_end Hget.out hn (Nat.sub_lt hpos (by decide))
                have hd : decide ((k : Int) + 1 < (lns s).length) = true := by simp; omega
                obtain rfl : m = x.size - 1 := by omega
                have g1 : IntKind.i64.wrap ((x.size : Int) - 1) = (x.size : Int) - 1 := IntWalk.i64_in _ (by omega)
                have g2 : (1 : Int) ≤ x.size := by omega
                have g3 : ((x.size : Int) - 1).toNat = x.size - 1 := by omega
                have g4 : IntKind.i64.wrap ((k : Int) + 1) = (k : Int) + 1 := IntWalk.i64_in _ (by omega)
                have g5 : (0 : Int) ≤ (x.size : Int) - 1 := by omega
                have g6 : (x.size : Int) - 1 < x.size := by omega
                clear hml
                go_wp2
                go_quiet (fail)
                clear g1 g4
                go_wp2
                refine ⟨⟨k + 1, by omega, by go_num, below_draws hB nq⟩, by simp [intOf]; omega⟩
              · have hd : decide ((k : Int) + 1 < (lns s).length) = false := by simp; omega
                go_wp2
                go_quiet (fail)
                go_wp2
                refine ⟨⟨k + 1, by omega, by go_num, below_draws hB nq⟩, by simp [intOf]; omega⟩
      · obtain rfl : k = (lns s).length := by omega
        have hv2 : Strs wr (.slice a (lns s).length cap) (lns s) := Strs.below (W := w2) ⟨a, cap, rfl, hc, hm, hv⟩ hB
        have hB0 := hrest wr hB
        have hjl := join_flat ((lns s).map (·.data.toList))
        rw [lns_lgo, lgo_flatten] at hjl
        have hjs : s.data.toList.length = s.size := by simp
        have hws := whole_size s
        have hj := join_lns s
        have hww := whole_whole s
        have hlw := lns_whole s
        clear hv hrest hB hb02
        have Hjl := Lib.hid hjl; clear hjl
        have Hjs := Lib.hid hjs; clear hjs
        have Hj := Lib.hid hj; clear hj
        have Hww := Lib.hid hww; clear hww
        have Hlw := Lib.hid hlw; clear hlw
        go_wp2_with fail
        refine (Whole_any s (by omega) _).mono ?_
        rintro e w3 ⟨rfl, rfl⟩
        go_wp2_with fail
        refine (Join_any _ (lns s) wr hv2 (by rw [lns_lgo, Hjl.out]; simp [Hjs.out]; omega) (by omega)).mono ?_
        rw [Hj.out]
        rintro e w3 ⟨rfl, hb3⟩
        have hb03 := hB0.trans (hb3.mono hB0.size)
        clear hb3 hB0 hv2
        go_wp2_with fail
        refine (Count_any s (by omega) _).mono ?_
        rintro e w4 ⟨rfl, hb4⟩
        have hb04 := hb03.trans (hb4.mono hb03.size)
        clear hb4 hb03
        go_wp2_with fail
        refine (Count_any (whole s) (by omega) _).mono ?_
        rw [Hlw.out]
        rintro e w5 ⟨rfl, hb5⟩
        have hb05 := hb04.trans (hb5.mono hb04.size)
        clear hb5 hb04
        go_wp2_with fail
        refine (Whole_any (whole s) (by omega) _).mono ?_
        rw [Hww.out]
        rintro e w6 ⟨rfl, rfl⟩
        go_wp2
        go_ret
        exact ⟨rfl, hb05⟩
end Go.Proofs.Ythojjmebjhempaa
