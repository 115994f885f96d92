/-
  For the laws of node: one node changed, its kids still to be changed. No condition.
-/
import Derived.Test.YtpnfjiglphogoacSep
namespace Go.Proofs.Ytpnfjiglphogoac
open Go.RowKit Go.Shelf
set_option linter.unusedSimpArgs false
set_option linter.unusedVariables false

def kidP (N : Nat) (ps : List Pr) : List Pt := ps.mapIdx fun i q => ⟨N, i * 9, q.1, q.2⟩
theorem kidP_get {N : Nat} {ps : List Pr} {k : Nat} {x : Pt} (h : (kidP N ps)[k]? = some x) : ∃ q, ps[k]? = some q ∧ x = ⟨N, k * 9, q.1, q.2⟩ := by
  unfold kidP at h
  rw [List.getElem?_mapIdx] at h
  cases hq : ps[k]? with
  | none => rw [hq] at h; cases h
  | some q => rw [hq] at h; exact ⟨q, rfl, (Option.some.inj h).symm⟩
theorem kidP_at {N : Nat} {ps : List Pr} {k : Nat} {q : Pr} (h : ps[k]? = some q) : (kidP N ps)[k]? = some ⟨N, k * 9, q.1, q.2⟩ := by
  unfold kidP
  rw [List.getElem?_mapIdx, h]; rfl
theorem kidP_len (N : Nat) (ps : List Pr) : (kidP N ps).length = ps.length := by unfold kidP; simp
theorem kidP_mem {N : Nat} {ps : List Pr} {x : Pt} (h : x ∈ kidP N ps) : ∃ k q, ps[k]? = some q ∧ x = ⟨N, k * 9, q.1, q.2⟩ := by
  obtain ⟨k, hk⟩ := List.getElem?_of_mem h
  obtain ⟨q, h1, h2⟩ := kidP_get hk
  exact ⟨k, q, h1, h2⟩
theorem kidP_take (N : Nat) (ps : List Pr) (i : Nat) : (kidP N ps).take i = kidP N (ps.take i) := by
  refine List.ext_getElem? fun k => ?_
  rw [List.getElem?_take]
  split
  · rename_i h
    unfold kidP
    rw [List.getElem?_mapIdx, List.getElem?_mapIdx, List.getElem?_take_of_lt h]
  · rename_i h
    unfold kidP
    rw [List.getElem?_mapIdx, List.getElem?_take_eq_none (by omega)]; rfl
/-- What the new row of kids is. -/
def NewRow (W WB : World) (ps : List Pr) (kv2 : Value) (N : Nat) : Prop :=
  (ps = [] ∧ ∃ a cap, kv2 = .slice a 0 cap ∧ cap ≤ maxLen) ∨ (ps ≠ [] ∧ W.heap.size ≤ N ∧ ∃ cap, kv2 = .slice (some ⟨N, 0, none⟩) ps.length cap ∧ ps.length ≤ cap ∧ cap ≤ maxLen ∧ Rw WB N (ps.length * 9) ∧ ∀ (k : Nat) (q : Pr), ps[k]? = some q → Cells WB N (k * 9) q.1.hd q.2)
theorem KeepP.cells {w W W' : World} {S : List Pt} (h : KeepP w W S W') {b o n : Nat} (hw : w.heap.size ≤ b) (hr : Rw W b n) {x : Hd} {kv : Value} (hc : Cells W b o x kv) (hS : ∀ p ∈ S, p.b = b → ∀ j, j < 9 → o + j < p.off ∨ p.off + 9 ≤ o + j) : Cells W' b o x kv := by
  obtain ⟨cs, hcs, -⟩ := hr
  obtain ⟨cs', e, -, hx⟩ := h b cs hcs hw
  refine hc.same fun j hj => ?_
  have := hx (o + j) (fun p hp hpb => hS p hp hpb j hj)
  simp [World.cell?, hcs, e, this]
theorem KeepP.rw {w W W' : World} {S : List Pt} (h : KeepP w W S W') {b n : Nat} (hw : w.heap.size ≤ b) (hr : Rw W b n) : Rw W' b n := by
  obtain ⟨cs, hcs, hl⟩ := hr
  obtain ⟨cs', e, hs, -⟩ := h b cs hcs hw
  exact ⟨cs', e, by omega⟩
theorem flatten_split {Fs : List (List Nat)} (n : Nat) : Fs.flatten = (Fs.take n).flatten ++ (Fs.drop n).flatten := by
  rw [← List.flatten_append, List.take_append_drop]
theorem Wand.step {f : Hd → Hd} {w W WB : World} {nb B N : Nat} {T : Nd} {S : List Pt} {p : Pt} {ps : List Pr} {kv2 : Value} (h : Wand f w W nb B T (S ++ [p])) (hA : ∀ q ∈ S, Apart q p) (hp : HoldsP w W p)
    (hps : ps.map (·.1) = p.t.kids) (hs : W.heap.size ≤ WB.heap.size) (hw0 : w.heap.size ≤ W.heap.size) (hKp : KeepP w W [p] WB) (hc : Cells WB p.b p.off (f p.t.hd) kv2) (hrow : NewRow W WB ps kv2 N) :
    Wand f w WB nb B T (S ++ kidP N ps) := by
  intro W' Fs hk hl hnd hge hx
  rw [List.length_append, kidP_len] at hl
  have hpl := hp.2.1.lt
  have hN : ps ≠ [] → W.heap.size ≤ N ∧ N < WB.heap.size := fun hne => by
    rcases hrow with ⟨h0, -⟩ | ⟨-, h1, cap, -, -, -, h2, -⟩
    · exact absurd h0 hne
    · exact ⟨h1, h2.lt⟩
  have hKin : ∀ q ∈ kidP N ps, q.b = N ∧ ps ≠ [] := fun q hq => by
    obtain ⟨k, r, h1, rfl⟩ := kidP_mem hq
    exact ⟨rfl, fun e => by rw [e] at h1; simp at h1⟩
  obtain ⟨F0, hF0⟩ : ∃ F0, Fs.take S.length = F0 := ⟨_, rfl⟩
  obtain ⟨FK, hFK⟩ : ∃ FK, Fs.drop S.length = FK := ⟨_, rfl⟩
  have hFs : Fs = F0 ++ FK := by rw [← hF0, ← hFK, List.take_append_drop]
  have hl0 : F0.length = S.length := by rw [← hF0, List.length_take]; omega
  have hlK : FK.length = ps.length := by rw [← hFK, List.length_drop]; omega
  rw [hFs, List.flatten_append] at hnd hge
  have hFp : ∃ Fp : List Nat, (F0.flatten ++ Fp).Nodup ∧ (∀ M ∈ Fp, W.heap.size ≤ M) ∧ (ps = [] → Fp = []) ∧ (ps ≠ [] → Fp = N :: FK.flatten) := by
    by_cases hne : ps = []
    · refine ⟨[], by rw [List.append_nil]; exact (List.nodup_append.1 hnd).1, by simp, fun _ => rfl, fun h => absurd hne h⟩
    · obtain ⟨n1, n2⟩ := hN hne
      refine ⟨N :: FK.flatten, ?_, ?_, fun h => absurd h hne, fun _ => rfl⟩
      · rw [List.nodup_append] at hnd ⊢
        obtain ⟨d1, d2, d3⟩ := hnd
        refine ⟨d1, List.nodup_cons.2 ⟨fun hm => ?_, d2⟩, fun a ha b hb => ?_⟩
        · have := hge N (List.mem_append.2 (.inr hm)); omega
        · rcases List.mem_cons.1 hb with rfl | hb
          · have := hge a (List.mem_append.2 (.inl ha)); omega
          · exact d3 a ha b hb
      · intro M hM
        rcases List.mem_cons.1 hM with rfl | hM
        · exact n1
        · have := hge M (List.mem_append.2 (.inr hM)); omega
  obtain ⟨Fp, hFn, hFg, hFe, hFc⟩ := hFp
  refine h W' (F0 ++ [Fp]) ?_ (by simp [hl0]) (by rw [List.flatten_append]; simpa using hFn) ?_ ?_
  · intro b cs hb hwb
    obtain ⟨c1, e1, s1, j1⟩ := hKp b cs hb hwb
    obtain ⟨c2, e2, s2, j2⟩ := hk b c1 e1 hwb
    have hbl : b < W.heap.size := (Array.getElem?_eq_some_iff.1 hb).1
    refine ⟨c2, e2, s2.trans s1, fun j hj => ?_⟩
    refine (j2 j fun q hq hqb => ?_).trans (j1 j fun q hq hqb => hj q (List.mem_append.2 (.inr hq)) hqb)
    rcases List.mem_append.1 hq with hq | hq
    · exact hj q (List.mem_append.2 (.inl hq)) hqb
    · obtain ⟨k1, k2⟩ := hKin q hq
      have := (hN k2).1; omega
  · intro M hM
    rw [List.flatten_append] at hM
    rcases List.mem_append.1 hM with hM | hM
    · have := hge M (List.mem_append.2 (.inl hM)); omega
    · simp at hM; exact hFg M hM
  · intro i q F hi hF
    by_cases hlt : i < S.length
    · rw [List.getElem?_append_left hlt] at hi
      rw [List.getElem?_append_left (by omega)] at hF
      exact hx i q F (by rw [List.getElem?_append_left hlt]; exact hi) (by rw [hFs, List.getElem?_append_left (by omega)]; exact hF)
    · have hiS : i = S.length := by
        have := (List.getElem?_eq_some_iff.1 hi).1
        rw [List.length_append, List.length_singleton] at this
        omega
      subst hiS
      rw [List.getElem?_append_right (by omega), Nat.sub_self] at hi
      rw [List.getElem?_append_right (by omega), hl0, Nat.sub_self] at hF
      obtain rfl : p = q := by simpa using hi
      obtain rfl : Fp = F := by simpa using hF
      have hcW : Cells W' p.b p.off (f p.t.hd) kv2 := hk.cells hp.1 (hKp.rw hp.1 hp.2.1) hc fun q hq hqb j hj => by
        rcases List.mem_append.1 hq with hq | hq
        · rcases hA q hq with h1 | h1 | h1
          · exact absurd hqb h1
          · omega
          · omega
        · obtain ⟨k1, k2⟩ := hKin q hq
          have := (hN k2).1; omega
      refine ⟨kv2, hcW, ?_⟩
      rcases hrow with ⟨h0, a, cap, rfl, hcap⟩ | ⟨hne, hNW, cap, rfl, hlc, hcap, hrw, hcs⟩
      · have hk0 : p.t.kids = [] := by rw [← hps, h0]; rfl
        rw [hk0, hFe h0, mapL]
        exact SepAt.nil hcap
      · have hklen : (mapL f p.t.kids).length = ps.length := by rw [mapL_len, ← hps, List.length_map]
        rw [hFc hne, ← hklen]
        have hwN : w.heap.size ≤ N := by omega
        refine SepAt.mk (by omega) hcap (by omega) (by rw [hklen]; exact hk.rw hwN hrw) fun k t Fk hkt hFk => ?_
        have hkl := (List.getElem?_eq_some_iff.1 hFk).1
        obtain ⟨r, hr⟩ : ∃ r, ps[k]? = some r := ⟨_, List.getElem?_eq_getElem (by omega)⟩
        obtain ⟨kv', c', s'⟩ := hx (S.length + k) ⟨N, k * 9, r.1, r.2⟩ Fk (by rw [List.getElem?_append_right (by omega), Nat.add_sub_cancel_left]; exact kidP_at hr) (by rw [hFs, List.getElem?_append_right (by omega), hl0, Nat.add_sub_cancel_left]; exact hFk)
        have ht : t = r.1.map f := by
          have h2 : p.t.kids[k]? = some r.1 := by rw [← hps, List.getElem?_map, hr]; rfl
          rw [mapL_eq, List.getElem?_map, h2] at hkt
          exact (Option.some.inj hkt).symm
        rw [ht, map_kids]
        exact ⟨kv', c', s'⟩
theorem step_holds {w W WB : World} {N : Nat} {S : List Pt} {p : Pt} {ps : List Pr} {kv2 : Value} (hA : ∀ q ∈ S, Apart q p) (hH : ∀ q ∈ S, HoldsP w W q) (hps : ∀ q ∈ ps, KidsAt w q.1.kids q.2) (hw0 : w.heap.size ≤ W.heap.size) (hKp : KeepP w W [p] WB) (hrow : NewRow W WB ps kv2 N) :
    ∀ q ∈ S ++ kidP N ps, HoldsP w WB q := by
  intro q hq
  rcases List.mem_append.1 hq with hq | hq
  · obtain ⟨h1, h2, h3, h4⟩ := hH q hq
    refine ⟨h1, hKp.rw h1 h2, hKp.cells h1 h2 h3 fun r hr hrb j hj => ?_, h4⟩
    obtain rfl : r = p := by simpa using hr
    rcases hA q hq with e | e | e
    · exact absurd hrb.symm e
    · omega
    · omega
  · obtain ⟨k, r, h1, rfl⟩ := kidP_mem hq
    rcases hrow with ⟨h0, -⟩ | ⟨hne, hNW, cap, -, hlc, hcap, hrw, hcs⟩
    · rw [h0] at h1; simp at h1
    · have hkl := (List.getElem?_eq_some_iff.1 h1).1
      obtain ⟨cs, e, hl⟩ := hrw
      exact ⟨by show w.heap.size ≤ N; omega, ⟨cs, e, by show k * 9 + 9 ≤ _; omega⟩, hcs k r h1, hps r (List.mem_of_getElem? h1)⟩
theorem step_apart {w W WB : World} {N : Nat} {S : List Pt} {ps : List Pr} {kv2 : Value} (hH : ∀ q ∈ S, HoldsP w W q) (hS : S.Pairwise Apart) (hrow : NewRow W WB ps kv2 N) : (S ++ kidP N ps).Pairwise Apart := by
  rw [List.pairwise_append]
  refine ⟨hS, ?_, fun a ha b hb => ?_⟩
  · rw [List.pairwise_iff_getElem]
    intro i j hi hj hij
    obtain ⟨q, h1, h2⟩ := kidP_get (List.getElem?_eq_getElem hi)
    obtain ⟨r, k1, k2⟩ := kidP_get (List.getElem?_eq_getElem hj)
    rw [h2, k2]
    exact .inr (.inl (by show i * 9 + 9 ≤ j * 9; omega))
  · obtain ⟨k, r, h1, rfl⟩ := kidP_mem hb
    have hal := (hH a ha).2.1.lt
    rcases hrow with ⟨h0, -⟩ | ⟨hne, hNW, -⟩
    · rw [h0] at h1; simp at h1
    · exact .inl (by show a.b ≠ N; omega)
end Go.Proofs.Ytpnfjiglphogoac
