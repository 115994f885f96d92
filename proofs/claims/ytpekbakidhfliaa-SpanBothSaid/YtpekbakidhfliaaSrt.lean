/-
  For the laws of span: edits put in order in a row of their own, by the program. Condition: at most 160 edits.
-/
import Derived.Test.YtpekbakidhfliaaStw
import Derived.Sort.OwnSorted
namespace Go.Proofs.Ytpekbakidhfliaa
open Go.RowKit Go.Shelf Go.Sort
set_option linter.unusedSimpArgs false

def dE : Ed := ⟨0, 0, []⟩
/-- M is L in order, those that are alike as they came. -/
def SrtOf (L M : List Ed) : Prop := ∃ D : List Nat, D.Perm (List.range L.length) ∧ D.Pairwise (fun x y => sl L y x = false) ∧ M = D.map (fun i => L.getD i dE)
theorem srt_unique {L M M' : List Ed} (h : SrtOf L M) (h' : SrtOf L M') : M = M' := by
  obtain ⟨D, p, s, rfl⟩ := h
  obtain ⟨D', p', s', rfl⟩ := h'
  rw [List.Perm.eq_of_pairwise (fun x y _ _ a b => anti_s L x y b a) s s' (p.trans p'.symm)]
theorem srt_len {L M : List Ed} (h : SrtOf L M) : M.length = L.length := by
  obtain ⟨D, p, _, rfl⟩ := h
  simpa using p.length_eq
theorem range_map (L : List Ed) : (List.range L.length).map (fun i => L.getD i dE) = L := by
  apply List.ext_getElem (by simp)
  intro i h1 h2
  simp [List.getD, List.getElem?_eq_getElem h2]
theorem srt_perm {L M : List Ed} (h : SrtOf L M) : M.Perm L := by
  obtain ⟨D, p, _, rfl⟩ := h
  have := p.map (fun i => L.getD i dE)
  rwa [range_map] at this
theorem srt_sorted {L M : List Ed} (h : SrtOf L M) : M.Pairwise (fun x y => x.fr < y.fr ∨ x.fr = y.fr ∧ x.to ≤ y.to) := by
  obtain ⟨D, _, s, rfl⟩ := h
  rw [List.pairwise_map]
  refine s.imp fun {x y} h => ?_
  have := sl_no.1 h
  show fk L x < fk L y ∨ fk L x = fk L y ∧ tk L x ≤ tk L y
  omega
theorem srt_of {L : List Ed} {n : Nat} {d : Array Nat} (hn : n = L.length) (hp : PermIn 0 n (Array.range n) d) (hs : SortedIn (sl L) 0 n d) : SrtOf L (d.toList.map (fun i => L.getD i dE)) := by
  obtain ⟨hsz, _, hperm⟩ := hp
  have hz : d.size = n := by simpa using hsz
  have e1 : d.extract 0 n = d := by rw [← hz]; exact Array.extract_size
  have e2 : (Array.range n).extract 0 n = Array.range n := by
    have : (Array.range n).size = n := by simp
    conv => lhs; rw [← this]
    simp
  rw [e1, e2] at hperm
  refine ⟨d.toList, by rw [← hn]; simpa using hperm, ?_, rfl⟩
  rw [List.pairwise_iff_getElem]
  intro i j hi hj hij
  have hi' : i < d.size := by simpa using hi
  have hj' : j < d.size := by simpa using hj
  have := hs i j (Nat.zero_le _) hij (by omega)
  rw [getElem!_pos d j hj', getElem!_pos d i hi'] at this
  simpa using this
theorem flat_ev (L : List Ed) (d : Array Nat) : (flatK (encL L) 3 d).toList = ev (d.toList.map (fun i => L.getD i dE)) := by
  apply List.ext_getElem?
  intro t
  by_cases ht : t < d.size * 3
  · have hq : t / 3 < d.size := by omega
    have hg : (d.toList.map (fun i => L.getD i dE))[t / 3]? = some (L.getD d[t / 3]! dE) := by
      simp [getElem!_pos d (t / 3) hq, hq]
    have hz : t < (flatK (encL L) 3 d).size := by rw [size_flatK]; exact ht
    have h0 : (flatK (encL L) 3 d).toList[t]? = some ((encL L d[t / 3]!)[t % 3]!) := by
      rw [← get_flatK (encL L) 3 d t ht, Array.getElem?_toList, Array.getElem?_eq_getElem hz, getElem!_pos _ t hz]
    rw [h0]
    obtain ⟨g0, g1, g2⟩ := ev_get hg
    have hm3 : t % 3 = 0 ∨ t % 3 = 1 ∨ t % 3 = 2 := by omega
    rcases hm3 with h3 | h3 | h3
    · have ej : t / 3 * 3 = t := by omega
      rw [ej] at g0; rw [g0, h3]; rfl
    · have ej : t / 3 * 3 + 1 = t := by omega
      rw [ej] at g1; rw [g1, h3]; rfl
    · have ej : t / 3 * 3 + 2 = t := by omega
      rw [ej] at g2; rw [g2, h3]; rfl
  · rw [List.getElem?_eq_none (by simp; omega), List.getElem?_eq_none (by rw [ev_len]; simp; omega)]
theorem holds_flat {w : World} {g n : Nat} {cur : Array Value} {L : List Ed} (hn : n = L.length) (hb : w.heap[g]? = some (.cells cur 39 (0, 0))) (ht : cur.toList.take (n * 3) = ev L) : HoldsK (encL L) 3 w g 0 (Array.range n) := by
  intro j hj
  have hj' : j < n * 3 := by simpa using hj
  refine ⟨?_, by simp [World.frozen?, hb]⟩
  have h1 : (flatK (encL L) 3 (Array.range n)).toList[j]? = (cur.toList.take (n * 3))[j]? := by
    rw [flat_ev, ht]
    have : (Array.range n).toList = List.range L.length := by simp [hn]
    rw [this, range_map]
  rw [List.getElem?_take_of_lt hj', Array.getElem?_toList, Array.getElem?_toList] at h1
  simp only [World.cell?, hb, Nat.zero_add]
  simp only [Option.isSome_none, Bool.false_eq_true, if_false]
  rw [← h1, Array.getElem?_eq_getElem hj, getElem!_pos _ j hj]
  rfl
theorem heap_sortedF {w : World} {g n : Nat} {os : Array Obj} {cur : Array Value} {e : TypeId} {fr : Nat × Nat} (F : Array Value) (hb : w.heap[g]? = some (.cells cur e fr)) :
    (grow (putRow id (Sort.ahead w n) g 0 F) os).heap[g]? = some (.cells (putCells id 0 F cur) e fr) := by
  have hg : g < w.heap.size := (Array.getElem?_eq_some_iff.1 hb).1
  rw [heap_grow_old _ _ (by simpa using hg)]
  simp [putRow, mapBlock, Sort.ahead, Array.getElem?_modify, hb, onCells]
theorem grownBy_sortedF {w : World} {g n : Nat} {os : Array Obj} (F : Array Value) : w.grownBy (grow (putRow id (Sort.ahead w n) g 0 F) os) (some g) := by
  refine ⟨rfl, rfl, rfl, by simp, fun k hk hne => ?_⟩
  rw [heap_grow_old _ _ (by simpa using hk)]
  have : g ≠ k := fun e => hne (by rw [e])
  simp [putRow, mapBlock, Sort.ahead, Array.getElem?_modify, this]
theorem take_putCellsF (cur : Array Value) (F : Array Value) (h : F.size ≤ cur.size) : (putCells id 0 F cur).toList.take F.size = F.toList := by
  apply List.ext_getElem?
  intro j
  by_cases hj : j < F.size
  · rw [List.getElem?_take_of_lt hj, Array.getElem?_toList]
    simp [putCells, hj, show j < cur.size by omega]
  · rw [List.getElem?_take_eq_none (by omega), List.getElem?_eq_none (by simp; omega)]
theorem own_sorted {w w' : World} {base g cap n : Nat} {cur : Array Value} {L : List Ed} {d : Array Nat} (hn : d.size = n) (hbase : base ≤ g) (hb : w.heap[g]? = some (.cells cur 39 (0, 0)))
    (h1 : n ≤ cap) (h2 : cap ≤ maxLen) (h3 : cur.size = cap * 3) (hS : SWK (encL L) 3 w g 0 d w') :
    w'.ownsRow base 39 3 (.slice (some ⟨g, 0, none⟩) n cap) n (ev (d.toList.map (fun i => L.getD i dE))) ∧ w.grownBy w' (some g) := by
  obtain ⟨m, os, rfl⟩ := hS
  refine ⟨⟨by rw [ev_len]; simp [hn], .inr ⟨g, cap, _, rfl, hbase, heap_sortedF _ hb, h1, h2, by simp [putCells, h3], ?_⟩⟩, grownBy_sortedF _⟩
  have := take_putCellsF cur (flatK (encL L) 3 d) (by rw [size_flatK, hn, h3]; exact Nat.mul_le_mul_right 3 h1)
  rw [size_flatK, hn] at this
  rw [this, flat_ev]
set_option maxRecDepth 100000 in
set_option maxHeartbeats 8000000 in
theorem stable_zero (s f : Value) (w : World) : Calls Try.prog 35 #[s, .int .i64 0, f] w fun e w' => (∃ v, e = .returned v) ∧ Below w.heap.size w w' := by
  go_enter Try.func35, Try.ntmps35
  go_wp2_with fail
  refine wp_loop_rounds 1 ?_
  rw [rounds_succ]
  go_wp2_with fail
  refine (isort_none s 0 0 f w (.inr ⟨rfl, rfl⟩)).mono ?_
  rintro e w1 ⟨⟨_, rfl⟩, b1⟩
  go_wp2_with fail
  refine wp_loop_rounds 1 ?_
  rw [rounds_succ]
  go_wp2_with fail
  go_end0
  exact ⟨⟨_, rfl⟩, b1⟩
set_option maxRecDepth 100000 in
set_option maxHeartbeats 8000000 in
theorem stableF_zero (p : Option Addr) (c : Nat) (f : Value) (w : World) : Calls Try.prog 28 #[.slice p 0 c, f] w fun e w' => (∃ v, e = .returned v) ∧ Below w.heap.size w w' := by
  go_enter Try.func28, Try.ntmps28
  go_wp2_with fail
  refine (stable_zero _ _ w).mono ?_
  rintro e w1 ⟨⟨_, rfl⟩, b1⟩
  go_wp2_with fail
  go_end0
  exact ⟨⟨_, rfl⟩, b1⟩
theorem ret_of {L : List Ed} {w0 : World} {blk n : Nat} {e : Ending} {w' : World} (h : StabR L w0 blk n e w') : ∃ v, e = .returned v := h.1
set_option maxRecDepth 100000 in
set_option maxHeartbeats 8000000 in
theorem stableF_any (L : List Ed) (blk cap n : Nat) (w0 : World) (R : RowK (encL L) 3 w0 blk 0 (Array.range n)) (hn : n ≤ 160) (hc : n ≤ cap) (hcm : cap ≤ maxLen) :
    Calls Try.prog 28 #[.slice (some ⟨blk, 0, none⟩) n cap, .func (.func 29) #[] #[]] w0 (StabR L w0 blk n) := by
  have h := stable_any L blk cap n w0 R hn hc hcm
  have Hcm := Lib.hid hcm
  clear hcm
  go_enter Try.func28, Try.ntmps28
  go_wp2_with fail
  refine h.mono ?_
  intro e w1 hS
  obtain ⟨v, rfl⟩ := ret_of hS
  have HS : Hid (StabR L w0 blk n (.returned v) w1) := Lib.hid hS
  clear hS h
  go_wp2_with fail
  go_end0
  exact ⟨⟨_, rfl⟩, HS.out.2⟩
def SortR (L : List Ed) (w : World) (e : Ending) (w' : World) : Prop := ∃ v' M, e = .returned v' ∧ SrtOf L M ∧ w'.ownsRow w.heap.size 39 3 v' L.length (ev M) ∧ Below w.heap.size w w'
set_option maxRecDepth 100000 in
set_option maxHeartbeats 8000000 in
theorem Sort_any (v : Value) (L : List Ed) (w : World) (h1 : Eds w v L) (hL : L.length ≤ 160) : Calls Try.prog 19 #[v] w (SortR L w) := by
  have H1 := Lib.hid h1
  obtain ⟨a, cap, rfl, hc, hm, hat⟩ := h1
  clear hat
  have HL : Hid (L.length ≤ 160) := Lib.hid hL
  go_enter Try.func19, Try.ntmps19
  go_wp2_with fail
  refine (Clone_any _ _ w H1.out (by omega)).mono ?_
  rintro e w1 ⟨v1, rfl, ho, b1⟩
  obtain ⟨p, c, rfl, hc1, hm1, -⟩ := own_eds ho
  have B1 := Lib.hid b1
  have Ho := Lib.hid ho
  clear ho b1
  by_cases h0 : L.length = 0
  · have hl : L = [] := List.eq_nil_of_length_eq_zero h0
    subst hl
    have h := stableF_zero p c (.func (.func 29) #[] #[]) w1
    go_wp2_with fail
    refine h.mono ?_
    rintro e w2 ⟨⟨_, rfl⟩, b2⟩
    have HB := Lib.hid b2
    clear b2
    go_wp2_with fail
    go_ret
    exact ⟨_, [], rfl, ⟨[], List.Perm.refl _, List.Pairwise.nil, rfl⟩, own_below Ho.out HB.out, B1.out.trans (HB.out.mono B1.out.size)⟩
  · have hown := Ho.out
    rcases hown.2 with ⟨hnil, _⟩ | ⟨g, cap', cur, hv, hbase, hb, g1, g2, g3, g4⟩
    · injection hnil with _ hlen _
      omega
    · cases hv
      have R : RowK (encL L) 3 w1 g 0 (Array.range L.length) := ⟨encL_len L, encL_one L, holds_flat rfl hb g4, (Array.getElem?_eq_some_iff.1 hb).1⟩
      have h := stableF_any L g c L.length w1 R HL.out g1 g2
      have HF : Hid (w1.heap[g]? = some (.cells cur 39 (0, 0)) ∧ c ≤ maxLen ∧ cur.size = c * 3 ∧ w.heap.size ≤ g) := Lib.hid ⟨hb, g2, g3, hbase⟩
      clear hb g2 g3 g4 R hown hbase
      go_wp2_with fail
      refine h.mono ?_
      rintro e w2 ⟨⟨_, rfl⟩, d', hS, hP, hO⟩
      have HS := Lib.hid hS
      have HM := Lib.hid (srt_of rfl hP hO)
      have HZ : Hid (d'.size = L.length) := Lib.hid (by simpa using hP.1)
      clear hS hP hO h
      go_wp2_with fail
      go_ret
      obtain ⟨f1, f2, f3, f4⟩ := HF.out
      obtain ⟨k1, k2⟩ := own_sorted HZ.out f4 f1 g1 f2 f3 HS.out
      refine ⟨_, _, rfl, HM.out, k1, ?_⟩
      exact B1.out.grown k2 B1.out.size fun k e => by cases e; exact f4
end Go.Proofs.Ytpekbakidhfliaa
