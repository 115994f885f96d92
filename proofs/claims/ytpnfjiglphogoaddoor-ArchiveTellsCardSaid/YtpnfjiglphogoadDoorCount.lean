/-
  For the laws of lines: Count returns how many lines a text has. Condition: the text is shorter than 2 to the 47.
-/
import Derived.Test.YtpnfjiglphogoadDoorEach
namespace Go.Proofs.YtpnfjiglphogoadDoor
open Go.RowKit Go.Shelf

attribute [local go_sem] Oper.semAt_some

/-- A store into one box keeps another. -/
theorem kpBox_set {W : World} {B Bs : Nat} {v : Value} (hne : B ≠ Bs) (u : Value) : KpBox Bs v W (W.setCell ⟨B, 0, none⟩ u) := fun h => by
  rw [World.cell?_of_block (w := W) (w' := W.setCell ⟨B, 0, none⟩ u) (a := ⟨Bs, 0, none⟩) (Below.heap_setCell _ _ _ _ (by simpa using (Ne.symm hne)))]
  exact h

set_option maxRecDepth 100000 in
set_option maxHeartbeats 2000000 in
theorem Count_in (F : Fence) (n : Nat) (h12 : F.fn 25) (h21 : F.fn 39) (h24 : F.fn 51) (hro : F.round = none) (hn : 3 ≤ n) (s : ByteArray) (hs : s.size ≤ 140737488351232) (w : World) :
    CallsIn F n Tryd.prog 25 #[.string s] w fun e W' => e = .returned (.int .i64 ((lns s).length : Nat)) ∧ Below w.heap.size w W' := by
  have h1 : 1 ≤ n := by omega
  refine callsIn_of_wp_marks Tryd.func25 rfl h12 ?_ hro
  simp only [Tryd.ntmps25, List.size_toArray, List.length_cons, List.length_nil, Nat.reduceAdd, Nat.reduceSub, Array.replicate_succ, Array.replicate_zero, List.push_toArray, List.append_toArray, List.nil_append, List.cons_append]
  gi_wp2_with (gi_at_call 39; refine (each_in F (n - 1) h21 hro _ _).mono ?_; rintro e w' ⟨rfl, rfl⟩)
  have bO := Boxed.new w 3 (.int .i64 0)
  have bN := Boxed.new (w.alloc (.cells #[.int .i64 0] 3)) 9 (.string s)
  rw [World.size_alloc] at bN
  have hB0 : Below w.heap.size w ((w.alloc (.cells #[.int .i64 0] 3)).alloc (.cells #[.string s] 9)) := ((Below.refl _ w).alloc (Nat.le_refl _) _).alloc (by simp) _
  have hll := lns_len s
  refine wpIn_rangeFunc_ownG hro h1 (gf := 51) (lb := #[.pointer (some ⟨w.heap.size + 1, 0, none⟩)]) rfl h24 (enters_of Tryd.func51 (by kernel_rfl) rfl)
    (each_stops F (n - 1) h24 hro (by omega) (w.heap.size + 1) s hs _ (by simp) bN.cell) kpBox_t (kpBox_b (by simp)) (Below.refl _ _) (fun _ => rfl)
    (fun pre W => (Boxed W w.heap.size 3 (.int .i64 (pre.length : Nat)) ∧ Boxed W (w.heap.size + 1) 9 (.string s)) ∧ Below w.heap.size w W)
    (fun _ _ _ => False)
    (OwnFrom.and (OwnFrom.and (Own.from (boxed_own _ _ _) _) (Own.from (boxed_own _ _ _) _)) (ownFrom_below (Nat.le_refl _) (by simp; omega)))
    (fun _ _ _ _ _ hs _ _ => hs)
    ⟨⟨bO.alloc _, bN⟩, hB0⟩
    (fun x => { tmps := #[.string s, undef, .int .i64 0, .pointer (some ⟨w.heap.size, 0, none⟩), .string s, .func (.func 51) #[] #[.pointer (some ⟨w.heap.size + 1, 0, none⟩)], .string x, undef, undef, undef], defers := [] }) ?assign ?body ?done ?stop
  case assign =>
    intro l x W K hK
    gi_wp2
    simpa using hK
  case body =>
    rintro l pre x W ⟨⟨hv, hv2⟩, hB⟩ hlt
    have hc := hv.cell
    have hf := hv.frozen
    gi_wp2
    refine ⟨(KeepsOthers.setCell _ _ _).from _, kpBox_set (by omega) _, ⟨⟨?_, hv2.other (by omega) _⟩, hB.setCell (p := ⟨w.heap.size, 0, none⟩) (Nat.le_refl _) _⟩⟩
    have := hv.set (.int .i64 ((pre.length : Nat) + 1))
    simpa using this
  case done =>
    rintro D ys W hD rfl ⟨⟨hv, _⟩, hB⟩ hK
    have hc := hv.cell
    gi_wp2
    refine ⟨by simp, .inl ⟨_, _, rfl, run_takeDeferred hK, ?_⟩⟩
    exact ⟨_, results_tmp rfl _ _ _, rfl, hB.trans (belowK_b (w := w) (Nat.le_refl _) W D _ _ (by simp at hD; omega) hK rfl rfl)⟩
  case stop =>
    rintro D c pre W _ _ h _
    exact h.elim
theorem Count_any (s : ByteArray) (hs : s.size ≤ 140737488351232) (w : World) : Calls Tryd.prog 25 #[.string s] w fun e w' => e = .returned (.int .i64 ((lns s).length : Nat)) ∧ Below w.heap.size w w' :=
  (callsIn_wide (n := 3)).1 (Count_in Fence.wide 3 trivial trivial trivial rfl (Nat.le_refl _) s hs w)
end Go.Proofs.YtpnfjiglphogoadDoor
