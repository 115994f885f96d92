/-
  For the laws of cells: without: the keys that weren't taken away, by the program. Condition: at most 10,000 keys, each no longer than any text may be.
-/
import Derived.Test.YtfjmhnnjgjcmeaaGreatDoorCf
import Derived.Lib.SliceRun
import Derived.Lib.LazyBuf
namespace Go.Proofs.YtfjmhnnjgjcmeaaGreatDoor
open Go.RowKit Go.Shelf Go.Maps Go.WideMaps
set_option linter.unusedSimpArgs false
set_option linter.unusedVariables false

set_option maxRecDepth 100000 in
set_option maxHeartbeats 2000000 in
theorem without1_any (s : ByteArray) (B m k : Nat) (G : TL) (w : World) (hB : w.cell? ⟨B, 0, none⟩ = some (.map (some m))) (hS : SetOf w m k (fun t => t ∈ G)) (hs : s.size ≤ maxLen) : Calls Tryz.prog 74 #[.string s, .pointer (some ⟨B, 0, none⟩)] w fun e w' => e = .returned (.bool (decide (s ∈ G))) ∧ Below w.heap.size w w' := by
  obtain ⟨d, hlook, hd⟩ := hS.look s hs
  have hdd : decide (s ∈ G) = d := by
    cases d with
    | true => exact decide_eq_true (hd.1 rfl)
    | false => exact decide_eq_false (fun h => by have := hd.2 h; cases this)
  rw [hdd]
  clear hd hdd hS
  go_enter Tryz.func74, Tryz.ntmps74
  go_wp2_with fail
  go_ret
  exact ⟨rfl, (Below.refl _ _).alloc (Nat.le_refl _) _⟩
/-- Where the first key stands that was taken away. -/
def fstT (G xs : TL) : Nat := xs.findIdx (fun s => decide (s ∈ G))
theorem fst_at {G xs : TL} (h : fstT G xs < xs.length) : ∃ x, xs[fstT G xs]? = some x ∧ x ∈ G := by
  have h2 := List.findIdx_getElem (p := fun s => decide (s ∈ G)) (xs := xs) (w := h)
  exact ⟨_, List.getElem?_eq_getElem h, of_decide_eq_true h2⟩
theorem fst_no {G xs : TL} {k : Nat} {x : ByteArray} (h : k < fstT G xs) (hx : xs[k]? = some x) : x ∉ G := by
  obtain ⟨hk, rfl⟩ := List.getElem?_eq_some_iff.1 hx
  have h2 := List.not_of_lt_findIdx (p := fun s => decide (s ∈ G)) (xs := xs) (i := k) h
  simpa using h2
theorem fst_is {G xs : TL} {k : Nat} {x : ByteArray} (h : ∀ (j : Nat) (y : ByteArray), j < k → xs[j]? = some y → y ∉ G) (hx : xs[k]? = some x) (hg : x ∈ G) : fstT G xs = k := by
  have hk := (List.getElem?_eq_some_iff.1 hx).1
  rcases Nat.lt_trichotomy (fstT G xs) k with h1 | h1 | h1
  · obtain ⟨y, hy, hyg⟩ := fst_at (Nat.lt_trans h1 hk)
    exact absurd hyg (h _ y h1 hy)
  · exact h1
  · exact absurd hg (fst_no h1 hx)
theorem fst_end {G xs : TL} (h : ∀ (j : Nat) (y : ByteArray), xs[j]? = some y → y ∉ G) : fstT G xs = xs.length := by
  unfold fstT
  rw [List.findIdx_eq_length]
  intro x hx
  obtain ⟨j, hj⟩ := List.mem_iff_getElem?.1 hx
  exact decide_eq_false (h j x hj)
def idxI (i n : Nat) : Int := if i < n then (i : Int) else -1
set_option maxRecDepth 100000 in
set_option maxHeartbeats 4000000 in
theorem IndexF_any (v : Value) (xs : TL) (B m k : Nat) (G : TL) (w : World) (h : L.Vals w v (xs.map .string)) (hB : w.cell? ⟨B, 0, none⟩ = some (.map (some m))) (hS : SetOf w m k (fun t => t ∈ G)) (hs : ∀ s ∈ xs, s.size ≤ maxLen) : Calls Tryz.prog 90 #[v, .func (.func 74) #[] #[.pointer (some ⟨B, 0, none⟩)]] w fun e w' => e = .returned (.int .i64 (idxI (fstT G xs) xs.length)) ∧ Below w.heap.size w w' := by
  obtain ⟨a, cap, rfl, hc, hm, hat⟩ := h.at
  rw [List.length_map] at hc ⊢
  unfold maxLen at hm
  obtain ⟨n, hn⟩ : ∃ n, Hid (xs.length = n) := ⟨_, Lib.hid rfl⟩
  obtain ⟨R, hR⟩ : ∃ R, Hid (idxI (fstT G xs) xs.length = R) := ⟨_, Lib.hid rfl⟩
  rw [hR.out]
  rw [hn.out] at hc ⊢
  have Hat := Lib.hid hat
  have HB := Lib.hid hB
  have HS := Lib.hid hS
  have Hs := Lib.hid hs
  have hBl : B < w.heap.size := World.block_lt_of_cell? w _ hB
  have hml : m < w.heap.size := hS.lt
  clear hat h hB hS hs
  go_enter Tryz.func90, Tryz.ntmps90
  go_wp2_with fail
  go_loopw [8] (fun i wr => ∃ k : Nat, k ≤ n ∧ i = .int .i64 k ∧ Hid (∀ j y, j < k → xs[j]? = some y → y ∉ G) ∧ Hid (Below w.heap.size w wr)) (fun i _ => n - (intOf i).toNat)
  case atStart => exact ⟨0, Nat.zero_le _, rfl, Lib.hid (fun j y h => absurd h (by omega)), Lib.hid (Below.refl _ _)⟩
  case round =>
    obtain ⟨q, hq, rfl, hno, hBw⟩ := hrel
    rcases Nat.lt_or_ge q n with hlt | hlt
    · obtain ⟨x, hx⟩ := get_lt (l := xs) (k := q) (by rw [hn.out]; exact hlt)
      obtain ⟨b, off, rfl, hbl, e0⟩ := Hat.out q (.string x) (by rw [List.getElem?_map, hx]; rfl)
      have e1 : wr.cell? ⟨b, off + q, none⟩ = some (.string x) := (hBw.out.cell (p := ⟨b, off + q, none⟩) hbl).trans e0
      have d1 : decide (q < n) = true := decide_eq_true hlt
      have d2 : (0 : Int) ≤ (q : Int) := by omega
      have d3 : (q : Int) < (n : Int) := by omega
      have Call := Lib.hid (without1_any x B m k G wr ((hBw.out.cell (p := ⟨B, 0, none⟩) hBl).trans HB.out) (HS.out.same (hBw.out.block m hml)) (Hs.out x (List.mem_of_getElem? hx)))
      obtain ⟨d, hd⟩ : ∃ d, Hid (decide (x ∈ G) = d) := ⟨_, Lib.hid rfl⟩
      rw [hd.out] at Call
      have Hx := Lib.hid hx
      have hbs := hBw.out.size
      clear hx e0
      go_wp2_with fail
      refine Call.out.mono ?_
      rintro e w2 ⟨rfl, b2⟩
      have B2 := Lib.hid (hBw.out.trans (b2.mono hbs))
      clear b2
      cases d with
      | true =>
        have hr : Hid (R = (q : Int)) := Lib.hid (by
          rw [← hR.out, fst_is hno.out Hx.out (of_decide_eq_true hd.out), hn.out]
          unfold idxI
          rw [if_pos hlt])
        go_wp2_with fail
        go_ret
        exact ⟨by rw [hr.out]; rfl, B2.out⟩
      | false =>
        have hno2 : Hid (∀ j y, j < q + 1 → xs[j]? = some y → y ∉ G) := Lib.hid (fun j y hj hy => by
          rcases Nat.lt_or_ge j q with h | h
          · exact hno.out j y h hy
          · obtain rfl : j = q := by omega
            rw [Hx.out] at hy
            cases hy
            exact of_decide_eq_false hd.out)
        go_wp2_with fail
        exact ⟨⟨q + 1, by omega, by go_num, hno2, B2⟩, by simp [intOf]; omega⟩
    · have d1 : decide (q < n) = false := decide_eq_false (by omega)
      have hr : Hid (R = -1) := Lib.hid (by
        rw [← hR.out, fst_end (fun j y hy => hno.out j y (by have := (List.getElem?_eq_some_iff.1 hy).1; rw [hn.out] at this; omega) hy)]
        unfold idxI
        rw [if_neg (Nat.lt_irrefl _)])
      go_wp2_with fail
      go_ret
      exact ⟨by rw [hr.out]; rfl, hBw.out⟩
end Go.Proofs.YtfjmhnnjgjcmeaaGreatDoor
