/-
  For the laws of decls: the first entity of an id; those of an owner; whether two rows are the same. Condition: no entity has more than 100,000,000 parameters.
-/
import Derived.Test.YtbnbmjdjkadgoaaDoorDe
import Derived.StillTailTactics
import Derived.DeepKeys4
import Derived.Maps.OwnSet
import Derived.Maps.OwnOps
namespace Go.Proofs.YtbnbmjdjkadgoaaDoor.D
open Go.RowKit Go.Shelf
set_option linter.unusedSimpArgs false
set_option linter.unusedVariables false

def En0 : En := ⟨0, [], [], [], [], false, [], 0, 0⟩
def findE (l : List En) (i : B8) : Option En := l.find? fun e => e.id == i
/-- What Find answers. -/
def FindIs (r : Option En) (e : Ending) (w' : World) : Prop := ∃ pv, e = .returned (.tuple #[.agg #[.int .i64 (r.getD En0).kind, .string (bs (r.getD En0).id), .string (bs (r.getD En0).name), .string (bs (r.getD En0).owner), .string (bs (r.getD En0).type), .bool (r.getD En0).stat, pv, .int .i64 (r.getD En0).file, .int .i64 (r.getD En0).at_], .bool r.isSome]) ∧ StrsAt w' pv (r.getD En0).params
theorem find_none (w : World) : FindIs none (.returned (.tuple #[.agg #[.int .i64 0, .string ⟨#[]⟩, .string ⟨#[]⟩, .string ⟨#[]⟩, .string ⟨#[]⟩, .bool false, .slice none 0 0, .int .i64 0, .int .i64 0], .bool false])) w := ⟨.slice none 0 0, rfl, StrsAt.nil w⟩
theorem find_some {u : En} {pv : Value} {w : World} (h : StrsAt w pv u.params) : FindIs (some u) (.returned (.tuple #[.agg #[.int .i64 u.kind, .string (bs u.id), .string (bs u.name), .string (bs u.owner), .string (bs u.type), .bool u.stat, pv, .int .i64 u.file, .int .i64 u.at_], .bool true])) w := ⟨pv, rfl, h⟩
theorem find_skip {l : List En} {k : Nat} {i : B8} {e : En} (h : l[k]? = some e) (hp : findE (l.take k) i = none) (hne : e.id ≠ i) : findE (l.take (k + 1)) i = none := by
  unfold findE at hp ⊢
  rw [List.take_add_one, h, List.find?_append, hp]
  simp [hne]
theorem find_here {l : List En} {k : Nat} {i : B8} {e : En} (h : l[k]? = some e) (hp : findE (l.take k) i = none) (he : e.id = i) : findE l i = some e := by
  have split : l = l.take k ++ e :: l.drop (k + 1) := by
    obtain ⟨hk, rfl⟩ := List.getElem?_eq_some_iff.1 h
    rw [← List.drop_eq_getElem_cons hk, List.take_append_drop]
  unfold findE at hp ⊢
  conv => lhs; rw [split]
  rw [List.find?_append, hp]
  simp [he]
theorem results_cell_row_tmp {P : Program} {fn : Func} {p u : Tmp} {ty : TypeId} (h : fn.results = #[.cell p ty, .tmp u]) (tmps : Array Value) (w : World) (g : Nat) (t : TypeId) (cs : Array Value) (fr : Nat × Nat) (d : TypeDesc)
    (hp : tmps.getD p undef = .pointer (some ⟨g, 0, none⟩)) (hg : w.heap[g]? = some (.cells cs t fr))
    (hu : P.underlying ty = some d) (hd : (match d with | .struct _ | .array _ _ => true | _ => false) = true) (hi : (P.info? ty).map (·.size) = some cs.size) :
    (results fn tmps).run P w = .ok (.tuple #[.agg cs, tmps.getD u undef]) w := by
  rw [results_cell_tmp h, hp]
  simp [asAddr, run_loadVar_row w g t ty cs fr d hg hu hd hi]
set_option maxRecDepth 100000 in
set_option maxHeartbeats 16000000 in
theorem RefFind_any (w : World) (v : Value) (l : List En) (h : EnsAt w v l) (hp : ∀ e ∈ l, e.params.length ≤ 100000000) (id : ByteArray) :
    Calls Tryd.prog 11 #[v, .string id] w fun e w' => FindIs (findE l (tl id)) e w' ∧ Below w.heap.size w w' := by
  obtain ⟨a, cap, rfl, hc, hcm, hx⟩ := h
  have Hx := Lib.hid hx
  have HP := Lib.hid hp
  clear hx hp
  obtain ⟨n, hn⟩ : ∃ n, Hid (l.length = n) := ⟨_, Lib.hid rfl⟩
  rw [hn.out] at hc ⊢
  obtain ⟨r, hr⟩ : ∃ r, Hid (findE l (tl id) = r) := ⟨_, Lib.hid rfl⟩
  rw [hr.out]
  unfold maxLen at hcm
  obtain ⟨W1, hW1⟩ : ∃ W1, Hid (w.alloc (.cells #[.int .i64 0, .string ⟨#[]⟩, .string ⟨#[]⟩, .string ⟨#[]⟩, .string ⟨#[]⟩, .bool false, .slice none 0 0, .int .i64 0, .int .i64 0] 34) = W1) := ⟨_, Lib.hid rfl⟩
  have R1 : Hid (RowAt W1 w.heap.size 34 #[.int .i64 0, .string ⟨#[]⟩, .string ⟨#[]⟩, .string ⟨#[]⟩, .string ⟨#[]⟩, .bool false, .slice none 0 0, .int .i64 0, .int .i64 0]) := by rw [← hW1.out]; exact Lib.hid (RowAt.new w 34 _)
  have B1 : Hid (Below w.heap.size w W1) := by rw [← hW1.out]; exact Lib.hid ((Below.refl _ w).alloc (Nat.le_refl _) _)
  have hs1 := B1.out.size
  go_enter Tryd.func11, Tryd.ntmps11
  go_wp2_with fail
  rw [hW1.out]
  go_loopw [6] (fun c wr => ∃ k : Nat, c = .int .i64 k ∧ k ≤ n ∧ Hid (findE (l.take k) (tl id) = none) ∧ Hid (Below W1.heap.size W1 wr)) (fun c _ => n - (intOf c).toNat)
  case atStart => exact ⟨0, rfl, by omega, Lib.hid rfl, Lib.hid (Below.refl _ _)⟩
  case round =>
    obtain ⟨k, rfl, hk, hP, hB⟩ := hrel
    have BWr := Lib.hid (B1.out.trans (hB.out.mono hs1))
    have HR := R1.out.later hB.out
    by_cases hlt : k < n
    · obtain ⟨u, hu⟩ : ∃ x, l[k]? = some x := ⟨_, List.getElem?_eq_getElem (by rw [hn.out]; exact hlt)⟩
      obtain ⟨b, off, pv, rfl, cs, hst⟩ := Hx.out k u hu
      have cs2 := cs.later BWr.out
      have HU := Lib.hid (HP.out u (List.mem_of_getElem? hu))
      have HS := Lib.hid hst
      have hbl := cs.lt
      have i1 : (0 : Int) ≤ (k : Int) := by omega
      have i2 : (k : Int) < (n : Int) := by omega
      by_cases he : u.id = tl id
      · have hf := Lib.hid (find_here hu hP.out he)
        have g1 : (u.id == id.toList) = true := by rw [he]; simp [tl, Lib.toList_data]
        obtain ⟨d0, d1, d2, d3, d4, d5, d6, d7, d8⟩ := cs2
        clear cs hst hu he
        obtain ⟨uk, ui, un, uo, ut, us, up, uf, ua⟩ := u
        have hre : Hid (r = some ⟨uk, ui, un, uo, ut, us, up, uf, ua⟩) := Lib.hid (hr.out.symm.trans hf.out)
        dsimp only at d0 d1 d2 d3 d4 d5 d6 d7 d8 g1 HU HS
        clear hf
        obtain ⟨aa, ca, rfl, -⟩ := HS.out
        obtain ⟨m, hm⟩ : ∃ n, Hid (up.length = n) := ⟨_, Lib.hid rfl⟩
        rw [hm.out] at d6
        have FF : Hid (∀ V : World, Below w.heap.size w V → FindIs r (.returned (.tuple #[.agg #[.int .i64 uk, .string (bs ui), .string (bs un), .string (bs uo), .string (bs ut), .bool us, .slice aa m ca, .int .i64 uf, .int .i64 ua], .bool true])) V) := Lib.hid (fun V hV => by
          rw [hre.out]
          refine find_some (u := ⟨uk, ui, un, uo, ut, us, up, uf, ua⟩) ?_
          rw [← hm.out]
          exact HS.out.below hV)
        have f0 := HR.frozen 0
        have f1 := HR.frozen 1
        have f2 := HR.frozen 2
        have f3 := HR.frozen 3
        have f4 := HR.frozen 4
        have f5 := HR.frozen 5
        have f6 := HR.frozen 6
        have f7 := HR.frozen 7
        have f8 := HR.frozen 8
        have e0 : wr.cell? ⟨w.heap.size, 0, none⟩ = some (.int .i64 0) := HR.cell rfl
        have e1 : wr.cell? ⟨w.heap.size, 1, none⟩ = some (.string ⟨#[]⟩) := HR.cell rfl
        have e2 : wr.cell? ⟨w.heap.size, 2, none⟩ = some (.string ⟨#[]⟩) := HR.cell rfl
        have e3 : wr.cell? ⟨w.heap.size, 3, none⟩ = some (.string ⟨#[]⟩) := HR.cell rfl
        have e4 : wr.cell? ⟨w.heap.size, 4, none⟩ = some (.string ⟨#[]⟩) := HR.cell rfl
        have e5 : wr.cell? ⟨w.heap.size, 5, none⟩ = some (.bool false) := HR.cell rfl
        have e6 : wr.cell? ⟨w.heap.size, 6, none⟩ = some (.slice none 0 0) := HR.cell rfl
        have e7 : wr.cell? ⟨w.heap.size, 7, none⟩ = some (.int .i64 0) := HR.cell rfl
        have e8 : wr.cell? ⟨w.heap.size, 8, none⟩ = some (.int .i64 0) := HR.cell rfl
        have NN := Lib.hid (@nineE _ _ _ _ _ _ _ _ _ _ _ HR (.int .i64 uk) (.string (bs ui)) (.string (bs un)) (.string (bs uo)) (.string (bs ut)) (.bool us) (.slice aa m ca) (.int .i64 uf) (.int .i64 ua) _ rfl)
        clear HR
        go_wp2_with fail
        exact bodyPost_ret (results_cell_row_tmp (P := Tryd.prog) (p := 4) (u := 5) rfl _ _ w.heap.size 34 _ (0, 0) _ rfl NN.out.1 Tryd.underlying34 rfl rfl) rfl ⟨FF.out _ (BWr.out.trans (NN.out.2.2.2 _ (Nat.le_refl _))), BWr.out.trans (NN.out.2.2.2 _ (Nat.le_refl _))⟩
      · have hf := Lib.hid (find_skip hu hP.out he)
        have g1 : (u.id == id.toList) = false := by
          rw [beq_eq_false_iff_ne]; intro h9; exact he (by rw [h9]; simp [tl, Lib.toList_data])
        have d1 := cs2.c1
        clear cs cs2 hst hu he HR
        go_wp2_with fail
        go_roundw
        case rel => exact ⟨k + 1, by go_num, by omega, hf, hB⟩
        case measure => simp [intOf]; omega
    · have hkn : k = n := by omega
      subst hkn
      have hf : Hid (findE l (tl id) = none) := Lib.hid (by
        have h9 := hP.out
        rw [List.take_of_length_le (Nat.le_of_eq hn.out)] at h9
        exact h9)
      have hrn : Hid (r = none) := Lib.hid (hr.out.symm.trans hf.out)
      have f0 := HR.frozen 0
      have f1 := HR.frozen 1
      have f2 := HR.frozen 2
      have f3 := HR.frozen 3
      have f4 := HR.frozen 4
      have f5 := HR.frozen 5
      have f6 := HR.frozen 6
      have f7 := HR.frozen 7
      have f8 := HR.frozen 8
      have e0 : wr.cell? ⟨w.heap.size, 0, none⟩ = some (.int .i64 0) := HR.cell rfl
      have e1 : wr.cell? ⟨w.heap.size, 1, none⟩ = some (.string ⟨#[]⟩) := HR.cell rfl
      have e2 : wr.cell? ⟨w.heap.size, 2, none⟩ = some (.string ⟨#[]⟩) := HR.cell rfl
      have e3 : wr.cell? ⟨w.heap.size, 3, none⟩ = some (.string ⟨#[]⟩) := HR.cell rfl
      have e4 : wr.cell? ⟨w.heap.size, 4, none⟩ = some (.string ⟨#[]⟩) := HR.cell rfl
      have e5 : wr.cell? ⟨w.heap.size, 5, none⟩ = some (.bool false) := HR.cell rfl
      have e6 : wr.cell? ⟨w.heap.size, 6, none⟩ = some (.slice none 0 0) := HR.cell rfl
      have e7 : wr.cell? ⟨w.heap.size, 7, none⟩ = some (.int .i64 0) := HR.cell rfl
      have e8 : wr.cell? ⟨w.heap.size, 8, none⟩ = some (.int .i64 0) := HR.cell rfl
      have NN := Lib.hid (@nineE _ _ _ _ _ _ _ _ _ _ _ HR (.int .i64 0) (.string ⟨#[]⟩) (.string ⟨#[]⟩) (.string ⟨#[]⟩) (.string ⟨#[]⟩) (.bool false) (.slice none 0 0) (.int .i64 0) (.int .i64 0) _ rfl)
      clear HR
      go_wp2_with fail
      exact bodyPost_ret (results_cell_row_tmp (P := Tryd.prog) (p := 4) (u := 5) rfl _ _ w.heap.size 34 _ (0, 0) _ rfl NN.out.1 Tryd.underlying34 rfl rfl) rfl ⟨by rw [hrn.out]; exact find_none _, BWr.out.trans (NN.out.2.2.2 _ (Nat.le_refl _))⟩
set_option maxRecDepth 100000 in
set_option maxHeartbeats 16000000 in
theorem Find_any (w : World) (v : Value) (l : List En) (h : EnsAt w v l) (hp : ∀ e ∈ l, e.params.length ≤ 100000000) (id : ByteArray) :
    Calls Tryd.prog 10 #[v, .string id] w fun e w' => FindIs (findE l (tl id)) e w' ∧ Below w.heap.size w w' := by
  obtain ⟨a, cap, rfl, hc, hcm, hx⟩ := h
  have Hx := Lib.hid hx
  have HP := Lib.hid hp
  clear hx hp
  obtain ⟨n, hn⟩ : ∃ n, Hid (l.length = n) := ⟨_, Lib.hid rfl⟩
  rw [hn.out] at hc ⊢
  obtain ⟨r, hr⟩ : ∃ r, Hid (findE l (tl id) = r) := ⟨_, Lib.hid rfl⟩
  rw [hr.out]
  unfold maxLen at hcm
  obtain ⟨W1, hW1⟩ : ∃ W1, Hid (w.alloc (.cells #[.int .i64 0, .string ⟨#[]⟩, .string ⟨#[]⟩, .string ⟨#[]⟩, .string ⟨#[]⟩, .bool false, .slice none 0 0, .int .i64 0, .int .i64 0] 34) = W1) := ⟨_, Lib.hid rfl⟩
  have R1 : Hid (RowAt W1 w.heap.size 34 #[.int .i64 0, .string ⟨#[]⟩, .string ⟨#[]⟩, .string ⟨#[]⟩, .string ⟨#[]⟩, .bool false, .slice none 0 0, .int .i64 0, .int .i64 0]) := by rw [← hW1.out]; exact Lib.hid (RowAt.new w 34 _)
  have B1 : Hid (Below w.heap.size w W1) := by rw [← hW1.out]; exact Lib.hid ((Below.refl _ w).alloc (Nat.le_refl _) _)
  have hs1 := B1.out.size
  go_enter Tryd.func10, Tryd.ntmps10
  go_wp2_with fail
  rw [hW1.out]
  go_loopw [9] (fun c wr => ∃ k : Nat, c = .int .i64 k ∧ k ≤ n ∧ Hid (findE (l.take k) (tl id) = none) ∧ Hid (Below W1.heap.size W1 wr)) (fun c _ => n - (intOf c).toNat)
  case atStart => exact ⟨0, rfl, by omega, Lib.hid rfl, Lib.hid (Below.refl _ _)⟩
  case round =>
    obtain ⟨k, rfl, hk, hP, hB⟩ := hrel
    have BWr := Lib.hid (B1.out.trans (hB.out.mono hs1))
    have HR := R1.out.later hB.out
    by_cases hlt : k < n
    · obtain ⟨u, hu⟩ : ∃ x, l[k]? = some x := ⟨_, List.getElem?_eq_getElem (by rw [hn.out]; exact hlt)⟩
      obtain ⟨b, off, pv, rfl, cs, hst⟩ := Hx.out k u hu
      have cs2 := cs.later BWr.out
      have HU := Lib.hid (HP.out u (List.mem_of_getElem? hu))
      have HS := Lib.hid hst
      have hbl := cs.lt
      have i1 : (0 : Int) ≤ (k : Int) := by omega
      have i2 : (k : Int) < (n : Int) := by omega
      by_cases he : u.id = tl id
      · have hf := Lib.hid (find_here hu hP.out he)
        have g1 : (u.id == id.toList) = true := by rw [he]; simp [tl, Lib.toList_data]
        obtain ⟨d0, d1, d2, d3, d4, d5, d6, d7, d8⟩ := cs2
        clear cs hst hu he
        obtain ⟨uk, ui, un, uo, ut, us, up, uf, ua⟩ := u
        have hre : Hid (r = some ⟨uk, ui, un, uo, ut, us, up, uf, ua⟩) := Lib.hid (hr.out.symm.trans hf.out)
        dsimp only at d0 d1 d2 d3 d4 d5 d6 d7 d8 g1 HU HS
        clear hf
        obtain ⟨aa, ca, rfl, -⟩ := HS.out
        obtain ⟨m, hm⟩ : ∃ n, Hid (up.length = n) := ⟨_, Lib.hid rfl⟩
        rw [hm.out] at d6
        have HCp := Lib.hid (copied_any wr ⟨uk, ui, un, uo, ut, us, up, uf, ua⟩ (.slice aa m ca) (by rw [← hm.out]; exact HS.out.below BWr.out) HU.out)
        have HRw := Lib.hid HR
        clear HR
        go_wp2_with fail
        refine HCp.out.mono ?_
        rintro e w2 ⟨⟨pv', rfl, F, hF⟩, b2⟩
        obtain ⟨ax, cx, hpv, -⟩ := hF.at_
        rw [hm.out] at hpv
        subst hpv
        have HF := Lib.hid hF
        have HR := HRw.out.later b2
        have B2 := Lib.hid b2
        have hs2 := b2.size
        clear b2 hF
        have FF : Hid (∀ V : World, V.heap.size = w2.heap.size → (∀ q, q ≠ w.heap.size → V.heap[q]? = w2.heap[q]?) → FindIs r (.returned (.tuple #[.agg #[.int .i64 uk, .string (bs ui), .string (bs un), .string (bs uo), .string (bs ut), .bool us, (.slice ax m cx), .int .i64 uf, .int .i64 ua], .bool true])) V) := Lib.hid (fun V hV1 hV2 => by
          rw [hre.out]
          refine find_some (u := ⟨uk, ui, un, uo, ut, us, up, uf, ua⟩) ?_
          exact HF.out.2 V fun b hb => hV2 b (by have h1 := (HF.out.1 b hb).1; have h2 := HRw.out.lt; omega))
        have f0 := HR.frozen 0
        have f1 := HR.frozen 1
        have f2 := HR.frozen 2
        have f3 := HR.frozen 3
        have f4 := HR.frozen 4
        have f5 := HR.frozen 5
        have f6 := HR.frozen 6
        have f7 := HR.frozen 7
        have f8 := HR.frozen 8
        have e0 : w2.cell? ⟨w.heap.size, 0, none⟩ = some (.int .i64 0) := HR.cell rfl
        have e1 : w2.cell? ⟨w.heap.size, 1, none⟩ = some (.string ⟨#[]⟩) := HR.cell rfl
        have e2 : w2.cell? ⟨w.heap.size, 2, none⟩ = some (.string ⟨#[]⟩) := HR.cell rfl
        have e3 : w2.cell? ⟨w.heap.size, 3, none⟩ = some (.string ⟨#[]⟩) := HR.cell rfl
        have e4 : w2.cell? ⟨w.heap.size, 4, none⟩ = some (.string ⟨#[]⟩) := HR.cell rfl
        have e5 : w2.cell? ⟨w.heap.size, 5, none⟩ = some (.bool false) := HR.cell rfl
        have e6 : w2.cell? ⟨w.heap.size, 6, none⟩ = some (.slice none 0 0) := HR.cell rfl
        have e7 : w2.cell? ⟨w.heap.size, 7, none⟩ = some (.int .i64 0) := HR.cell rfl
        have e8 : w2.cell? ⟨w.heap.size, 8, none⟩ = some (.int .i64 0) := HR.cell rfl
        have NN := Lib.hid (@nineE w2 _ _ _ _ _ _ _ _ _ _ HR (.int .i64 uk) (.string (bs ui)) (.string (bs un)) (.string (bs uo)) (.string (bs ut)) (.bool us) (.slice ax m cx) (.int .i64 uf) (.int .i64 ua) _ rfl)
        clear HR
        go_wp2_with fail
        refine bodyPost_ret (results_cell_row_tmp (P := Tryd.prog) (p := 4) (u := 5) rfl _ _ w.heap.size 34 _ (0, 0) _ rfl NN.out.1 Tryd.underlying34 rfl rfl) rfl ?_
        exact ⟨FF.out _ NN.out.2.1 NN.out.2.2.1, BWr.out.trans ((B2.out.mono (Nat.le_of_lt HRw.out.lt)).trans (NN.out.2.2.2 _ (Nat.le_refl _)))⟩
      · have hf := Lib.hid (find_skip hu hP.out he)
        have g1 : (u.id == id.toList) = false := by
          rw [beq_eq_false_iff_ne]; intro h9; exact he (by rw [h9]; simp [tl, Lib.toList_data])
        have d1 := cs2.c1
        clear cs cs2 hst hu he HR
        go_wp2_with fail
        go_roundw
        case rel => exact ⟨k + 1, by go_num, by omega, hf, hB⟩
        case measure => simp [intOf]; omega
    · have hkn : k = n := by omega
      subst hkn
      have hf : Hid (findE l (tl id) = none) := Lib.hid (by
        have h9 := hP.out
        rw [List.take_of_length_le (Nat.le_of_eq hn.out)] at h9
        exact h9)
      have hrn : Hid (r = none) := Lib.hid (hr.out.symm.trans hf.out)
      have f0 := HR.frozen 0
      have f1 := HR.frozen 1
      have f2 := HR.frozen 2
      have f3 := HR.frozen 3
      have f4 := HR.frozen 4
      have f5 := HR.frozen 5
      have f6 := HR.frozen 6
      have f7 := HR.frozen 7
      have f8 := HR.frozen 8
      have e0 : wr.cell? ⟨w.heap.size, 0, none⟩ = some (.int .i64 0) := HR.cell rfl
      have e1 : wr.cell? ⟨w.heap.size, 1, none⟩ = some (.string ⟨#[]⟩) := HR.cell rfl
      have e2 : wr.cell? ⟨w.heap.size, 2, none⟩ = some (.string ⟨#[]⟩) := HR.cell rfl
      have e3 : wr.cell? ⟨w.heap.size, 3, none⟩ = some (.string ⟨#[]⟩) := HR.cell rfl
      have e4 : wr.cell? ⟨w.heap.size, 4, none⟩ = some (.string ⟨#[]⟩) := HR.cell rfl
      have e5 : wr.cell? ⟨w.heap.size, 5, none⟩ = some (.bool false) := HR.cell rfl
      have e6 : wr.cell? ⟨w.heap.size, 6, none⟩ = some (.slice none 0 0) := HR.cell rfl
      have e7 : wr.cell? ⟨w.heap.size, 7, none⟩ = some (.int .i64 0) := HR.cell rfl
      have e8 : wr.cell? ⟨w.heap.size, 8, none⟩ = some (.int .i64 0) := HR.cell rfl
      have NN := Lib.hid (@nineE _ _ _ _ _ _ _ _ _ _ _ HR (.int .i64 0) (.string ⟨#[]⟩) (.string ⟨#[]⟩) (.string ⟨#[]⟩) (.string ⟨#[]⟩) (.bool false) (.slice none 0 0) (.int .i64 0) (.int .i64 0) _ rfl)
      clear HR
      go_wp2_with fail
      exact bodyPost_ret (results_cell_row_tmp (P := Tryd.prog) (p := 4) (u := 5) rfl _ _ w.heap.size 34 _ (0, 0) _ rfl NN.out.1 Tryd.underlying34 rfl rfl) rfl ⟨by rw [hrn.out]; exact find_none _, BWr.out.trans (NN.out.2.2.2 _ (Nat.le_refl _))⟩
end Go.Proofs.YtbnbmjdjkadgoaaDoor.D
/-
  For the laws of decls: sets in memory, keyed by what no two may have in common, and by names; the table that grows. No condition.
-/
namespace Go.Proofs.YtbnbmjdjkadgoaaDoor.D
open Go.RowKit Go.Shelf Go.Maps Go.WideMaps
set_option linter.unusedSimpArgs false
set_option linter.unusedVariables false

theorem laidOutP : laidOutB Tryd.prog = true := by kernel_rfl
theorem row50 : (50 : TypeId) < Tryd.prog.types.size := of_decide_eq_true (by kernel_rfl)
theorem key50 : Tryd.prog.keyTypeAt 3 50 = true := by kernel_rfl
theorem wide50 : (match Tryd.prog.underlying 50 with | some (.array _ _) | some (.struct _) => true | _ => false) = true := by rw [Tryd.underlying50]
set_option maxRecDepth 100000 in
theorem law50 : Keyed Tryd.prog 50 := Keyed.of_law (deep_law_laid laidOutP (m := 3) (by omega) row50 key50 wide50)
theorem keyt50 : Tryd.prog.keyType 50 = true := by kernel_rfl
theorem cells50 : Tryd.prog.cellsOf 50 = 3 := by kernel_rfl
theorem cells3' : Tryd.prog.cellsOf 3 = 1 := by kernel_rfl
theorem cells9' : Tryd.prog.cellsOf 9 = 1 := by kernel_rfl
abbrev ukey (k : Int) (o n : ByteArray) : Value := .agg #[.int .i64 k, .string o, .string n]
theorem formed50 (k : Int) (o n : ByteArray) : (ukey k o n).formed Tryd.prog 50 = true := by simp [Value.formed, Tryd.underlying50, cells50]
theorem key_u (k : Int) (o n : ByteArray) (hk : (Lit.int .i64 k).wf = true) (ho : o.size ≤ maxLen) (hn : n.size ≤ maxLen) : ∃ kl, keyOf Tryd.prog 50 (ukey k o n) = some kl := by
  have h2 : ∀ d, Tryd.prog.keyLits (d + 1) 3 [.int .i64 k] = some [.int .i64 k] := fun d => by simp [Program.keyLits, Tryd.underlying3, hk]
  have h9 : ∀ d, Tryd.prog.keyLits (d + 1) 9 [.string o] = some [.string o.data.toList] := fun d => by simp [Program.keyLits, Tryd.underlying9, ho]
  have h9' : ∀ d, Tryd.prog.keyLits (d + 1) 9 [.string n] = some [.string n.data.toList] := fun d => by simp [Program.keyLits, Tryd.underlying9, hn]
  have hh : Tryd.prog.keyLits (Tryd.prog.types.size + 1) 50 [.int .i64 k, .string o, .string n] = some [.int .i64 k, .string o.data.toList, .string n.data.toList] := by
    obtain ⟨m, hm⟩ : ∃ m, Tryd.prog.types.size = m + 1 := Nat.exists_eq_succ_of_ne_zero (fun h => by
      have h1 : (50 : Nat) < Tryd.prog.types.size := row50
      rw [h] at h1
      exact absurd h1 (Nat.not_lt_zero _))
    rw [hm]
    unfold Program.keyLits
    simp [Tryd.underlying50, cells50, cells3', cells9', h2, h9, h9']
  have hf := formed50 k o n
  unfold keyOf
  simp only [Tryd.underlying50, keyt50, hf]
  exact ⟨.string (keyBytes [.int .i64 k, .string o.data.toList, .string n.data.toList]), by
    show ((Tryd.prog.keyLits (Tryd.prog.types.size + 1) 50 [.int .i64 k, .string o, .string n]).map fun ls => Lit.string (keyBytes ls)) = _
    rw [hh]; rfl⟩
theorem key_inj {k k' : Int} {o o' n n' : ByteArray} {kl : Lit} (h : keyOf Tryd.prog 50 (ukey k o n) = some kl) (h' : keyOf Tryd.prog 50 (ukey k' o' n') = some kl) : k = k' ∧ o = o' ∧ n = n' := by
  have := law50.inj h h'
  simpa [ukey] using this
/-- Block b is a set of keys. -/
def SetHas (W : World) (b m : Nat) (T : List Key) : Prop := ∃ D : DataW Unit, W.ownsMap Tryd.prog 50 unitElem b m D ∧
  ∀ k o n kl, keyOf Tryd.prog 50 (ukey k o n) = some kl → Maps.has D kl = decide ((⟨k, tl o, tl n⟩ : Key) ∈ T)
theorem SetHas.made (W : World) : SetHas (W.alloc (.map #[] 0)) W.heap.size 0 [] := ⟨.map [], World.ownsMap_made W Tryd.prog 50 unitElem, fun _ _ _ _ _ => rfl⟩
theorem SetHas.lt {W : World} {b m : Nat} {T : List Key} (h : SetHas W b m T) : b < W.heap.size := by
  obtain ⟨D, ⟨es, cl, hb, _⟩, _⟩ := h
  exact (Array.getElem?_eq_some_iff.1 hb).1
theorem SetHas.later {W W' : World} {b m : Nat} {T : List Key} (h : SetHas W b m T) (hb : W'.heap[b]? = W.heap[b]?) : SetHas W' b m T := by
  obtain ⟨D, ⟨es, cl, hb', r⟩, hk⟩ := h
  exact ⟨D, ⟨es, cl, hb.trans hb', r⟩, hk⟩
theorem SetHas.map {W : World} {b m : Nat} {T : List Key} (h : SetHas W b m T) : ∃ es cl, W.heap[b]? = some (.map es cl) := by
  obtain ⟨D, ⟨es, cl, hb, _⟩, _⟩ := h
  exact ⟨es, cl, hb⟩
theorem zero51 (W : World) : (zeroValue 51).run Tryd.prog W = .ok (.agg #[]) W := by kernel_rfl
theorem SetHas.look {W : World} {b m : Nat} {T : List Key} (h : SetHas W b m T) (k : Int) (o n : ByteArray) (hk : (Lit.int .i64 k).wf = true) (ho : o.size ≤ maxLen) (hn : n.size ≤ maxLen) :
    (Instr.lookup 48 (.map (some b)) (ukey k o n) true).run Tryd.prog W = .ok (.tuple #[.agg #[], .bool (decide ((⟨k, tl o, tl n⟩ : Key) ∈ T))]) W := by
  obtain ⟨D, hD, hx⟩ := h
  obtain ⟨kl, hkl⟩ := key_u k o n hk ho hn
  obtain ⟨v, ps, hrun, hv⟩ := hD.look_ok law50 Tryd.underlying48 (zero51 W) unitElem_mk hkl
  rw [hrun, hx k o n kl hkl, (unitElem_inv hv).1]
theorem SetHas.put {W : World} {b m : Nat} {T : List Key} (h : SetHas W b m T) (k : Int) (o n : ByteArray) (hk : (Lit.int .i64 k).wf = true) (ho : o.size ≤ maxLen) (hn : n.size ≤ maxLen) (hm : m < maxLen) :
    ∃ W', (Instr.mapUpdate 48 (.map (some b)) (ukey k o n) (.agg #[])).run Tryd.prog W = .ok () W' ∧ SetHas W' b (m + 1) (⟨k, tl o, tl n⟩ :: T) ∧ W.grownBy W' (some b) := by
  obtain ⟨D, hD, hx⟩ := h
  obtain ⟨kl, hkl⟩ := key_u k o n hk ho hn
  obtain ⟨W', hrun, hown, hg⟩ := hD.update law50 Tryd.underlying48 hm hkl unitElem_mk
  refine ⟨W', hrun, ⟨_, hown, fun k' o' n' kl' hkl' => ?_⟩, hg⟩
  by_cases he : kl' = kl
  · subst he
    obtain ⟨rfl, rfl, rfl⟩ := key_inj hkl hkl'
    rw [Maps.has_put_same hD.isMap (law50.key hkl)]
    simp
  · have hne : ¬ ((⟨k', tl o', tl n'⟩ : Key) = ⟨k, tl o, tl n⟩) := by
      intro h9
      rw [Key.mk.injEq] at h9
      obtain ⟨rfl, h2, h3⟩ := h9
      have e2 : o' = o := by rw [← show bs (tl o') = o' from rfl, h2]
      have e3 : n' = n := by rw [← show bs (tl n') = n' from rfl, h3]
      subst e2 e3
      rw [hkl] at hkl'
      exact he (Option.some.inj hkl').symm
    rw [Maps.has_put_other he, hx k' o' n' kl' hkl']
    rw [decide_eq_decide, List.mem_cons]
    exact ⟨.inr, fun h9 => h9.elim (fun h8 => absurd h8 hne) id⟩
theorem SetHas.congr {W : World} {b m : Nat} {T T' : List Key} (h : SetHas W b m T) (ht : ∀ k, k ∈ T ↔ k ∈ T') : SetHas W b m T' := by
  obtain ⟨D, hD, hx⟩ := h
  exact ⟨D, hD, fun k o n kl hkl => by rw [hx k o n kl hkl, decide_eq_decide]; exact ht _⟩
/-- The keys of classes and members. -/
def keysOf (out : List En) : List Key := (out.filter fun x => x.kind ≠ 4).map En.key
theorem keysOf_snoc (out : List En) (e : En) : keysOf (out ++ [e]) = keysOf out ++ if e.kind ≠ 4 then [e.key] else [] := by
  unfold keysOf
  rw [List.filter_append, List.map_append]
  congr 1
  by_cases h : e.kind = 4 <;> simp [h]
theorem step_loc {out : List En} {e : En} {tw : Bool} (h : e.kind = 4) : step out e tw = tw := by unfold step; rw [if_pos h]
theorem step_not {out : List En} {e : En} {tw : Bool} (h : e.kind ≠ 4) : step out e tw = decide (e.key ∈ keysOf out) := by unfold step keysOf; rw [if_neg h]
/-- The table that grows: its row at bl, the mistake at bm, the map at bt. -/
structure AddSt (W : World) (N bl bm bt mb : Nat) (v : Value) (ps : List Pe) : Prop where
  rl : RowAt W bl 27 #[v]
  rm : RowAt W bm 30 #[.int .i64 0, .int .i64 0, .int .i64 0]
  rt : RowAt W bt 48 #[.map (some mb)]
  own : OwnE N W v ps
  set : ∃ m, m ≤ ps.length ∧ SetHas W mb m (keysOf (ps.map (·.1)))
  ll : bl < N
  lm : bm < N
  lt : bt < N
  lb : mb < N
/-- Nothing but the table has turned. -/
structure Tz (bl bm mb : Nat) (ob : Option Nat) (W W' : World) : Prop where
  os : W'.os = W.os
  tape : W'.tape = W.tape
  output : W'.output = W.output
  size : W.heap.size ≤ W'.heap.size
  keep : ∀ k, k < W.heap.size → k ≠ bl → k ≠ bm → k ≠ mb → some k ≠ ob → W'.heap[k]? = W.heap[k]?
theorem tz_of_below {bl bm mb : Nat} {ob : Option Nat} {W W' : World} (hb : Below W.heap.size W W') : Tz bl bm mb ob W W' := ⟨hb.os, hb.tape, hb.output, hb.size, fun k hk _ _ _ _ => hb.block k hk⟩
theorem Tz.trans {bl bm mb : Nat} {ob ob' : Option Nat} {W W1 W2 : World} (h : Tz bl bm mb ob W W1) (h2 : Tz bl bm mb ob' W1 W2) (ho : ob' = ob ∨ ∃ g, ob' = some g ∧ W.heap.size ≤ g) : Tz bl bm mb ob W W2 := by
  refine ⟨h2.os.trans h.os, h2.tape.trans h.tape, h2.output.trans h.output, Nat.le_trans h.size h2.size, fun k hk k1 k2 k3 k4 => ?_⟩
  refine (h2.keep k (Nat.lt_of_lt_of_le hk h.size) k1 k2 k3 ?_).trans (h.keep k hk k1 k2 k3 k4)
  rcases ho with rfl | ⟨g, rfl, hg⟩
  · exact k4
  · intro e
    obtain rfl := Option.some.inj e
    omega
theorem own_ne {w : World} {base e size n h : Nat} {v : Value} {xs : List Value} {cs : Array Value} {t : TypeId} (ho : w.ownsRow base e size v n xs) (hb : RowAt w h t cs) (hne : t ≠ e) : some h ≠ v.ownBlock := by
  rcases ho.2 with ⟨rfl, rfl⟩ | ⟨g, cap, cur, rfl, _, hg, _⟩
  · simp [Value.ownBlock]
  · intro hh
    simp [Value.ownBlock] at hh
    subst hh
    unfold RowAt at hb
    rw [hb] at hg
    cases hg
    exact hne rfl
theorem row_ne {w : World} {b c : Nat} {t u : TypeId} {cs ds : Array Value} (h : RowAt w b t cs) (h2 : RowAt w c u ds) (hne : t ≠ u) : b ≠ c := by
  rintro rfl
  unfold RowAt at h h2
  rw [h] at h2
  cases h2
  exact hne rfl
theorem row_ne_map {w : World} {b c : Nat} {t : TypeId} {cs : Array Value} {es : Array MapEntry} {cl : Nat} (h : RowAt w b t cs) (h2 : w.heap[c]? = some (.map es cl)) : b ≠ c := by
  rintro rfl
  unfold RowAt at h
  rw [h] at h2
  cases h2
/-- The table stays, where all that it rests on does. -/
theorem AddSt.kept {W W' : World} {N bl bm bt mb : Nat} {v : Value} {ps : List Pe} (h : AddSt W N bl bm bt mb v ps) (hs : W.heap.size ≤ W'.heap.size) (hb : ∀ b, b < W.heap.size → (b < N ∨ Et W b) → W'.heap[b]? = W.heap[b]?) : AddSt W' N bl bm bt mb v ps := by
  refine ⟨h.rl.same (hb _ h.rl.lt (.inl h.ll)), h.rm.same (hb _ h.rm.lt (.inl h.lm)), h.rt.same (hb _ h.rt.lt (.inl h.lt)), owns_on h.own hs fun b _ h2 h3 => hb b h2 (.inr h3), ?_, h.ll, h.lm, h.lt, h.lb⟩
  obtain ⟨m, h1, h2⟩ := h.set
  exact ⟨m, h1, h2.later (hb _ h2.lt (.inl h.lb))⟩
theorem AddSt.later {W W' : World} {N bl bm bt mb : Nat} {v : Value} {ps : List Pe} (h : AddSt W N bl bm bt mb v ps) (hb : Below W.heap.size W W') : AddSt W' N bl bm bt mb v ps := h.kept hb.size fun b h1 _ => hb.block b h1
/-- What becomes of the table: one entity more, or the mistake. -/
def AddIs (W : World) (N bl bm bt mb : Nat) (v : Value) (ps : List Pe) (p : Pe) (tw : Bool) (e : Ending) (W' : World) : Prop :=
  Tz bl bm mb v.ownBlock W W' ∧ if step (ps.map (·.1)) p.1 tw then e = .returned (.bool false) ∧ RowAt W' bm 30 #[.int .i64 150, .int .i64 p.1.file, .int .i64 p.1.at_]
    else e = .returned (.bool true) ∧ ∃ v', AddSt W' N bl bm bt mb v' (ps ++ [p]) ∧ (v'.ownBlock = v.ownBlock ∨ ∃ g, v'.ownBlock = some g ∧ W.heap.size ≤ g)
theorem AddIs.no {W W' : World} {N bl bm bt mb : Nat} {v : Value} {ps : List Pe} {p : Pe} {tw : Bool} (h : step (ps.map (·.1)) p.1 tw = true) (h1 : Tz bl bm mb v.ownBlock W W') (h2 : RowAt W' bm 30 #[.int .i64 150, .int .i64 p.1.file, .int .i64 p.1.at_]) : AddIs W N bl bm bt mb v ps p tw (.returned (.bool false)) W' := by
  unfold AddIs
  rw [if_pos h]
  exact ⟨h1, rfl, h2⟩
theorem AddIs.yes {W W' : World} {N bl bm bt mb : Nat} {v : Value} {ps : List Pe} {p : Pe} {tw : Bool} (h : step (ps.map (·.1)) p.1 tw = false) (h1 : Tz bl bm mb v.ownBlock W W') {v' : Value} (h2 : AddSt W' N bl bm bt mb v' (ps ++ [p])) (h3 : v'.ownBlock = v.ownBlock ∨ ∃ g, v'.ownBlock = some g ∧ W.heap.size ≤ g) : AddIs W N bl bm bt mb v ps p tw (.returned (.bool true)) W' := by
  unfold AddIs
  rw [if_neg (by rw [h]; exact Bool.false_ne_true)]
  exact ⟨h1, rfl, v', h2, h3⟩
end Go.Proofs.YtbnbmjdjkadgoaaDoor.D
