/-
  For the laws of flow: the first mistake of a method, and of any files. Condition: at most 2,000,000 nodes in each file, at most 1,000 files.
-/
import Derived.Test.YtbnbmjdjkadgoaaFRf
import Derived.Test.YtbnbmjdjkadgoaaXSi
import Derived.WalkMore
namespace Go.Proofs.Ytbnbmjdjkadgoaa.F
open Go.RowKit Go.Shelf
open Go.Proofs.Ytbnbmjdjkadgoaa.X (wp_gen three_row)
set_option linter.unusedSimpArgs false
set_option linter.unusedVariables false

def sVoid : List UInt8 := [118, 111, 105, 100]
/-- What is wrong with a method: the code and the place. -/
def bodM (n b : Nd) : Int × Int := match deadN b with
  | some x => (191, x.hd.fr)
  | none => if n.hd.type ≠ sVoid ∧ endsN b = true then (190, n.hd.at_) else (0, 0)
def methM (n : Nd) : Int × Int := match n.kids.getLast? with
  | none => (0, 0)
  | some b => bodM n b
def memM (c n : Nd) : Int × Int := if c.hd.kind ≠ 1 ∨ n.hd.kind ≠ 3 ∨ n.kids = [] then (0, 0) else methM n
def clsM (c : Nd) : List Nd → Option (Int × Int)
  | [] => none
  | n :: ns => if (memM c n).1 ≠ 0 then some (memM c n) else clsM c ns
def fileM : List Nd → Option (Int × Int)
  | [] => none
  | c :: cs => (clsM c c.kids).or (fileM cs)
def filesM (k : Nat) : List (List Nd) → Option (Int × Nat × Int)
  | [] => none
  | l :: ls => match fileM l with
    | some x => some (x.1, k, x.2)
    | none => filesM (k + 1) ls
def contF (k : Nat) (ls : List (List Nd)) : Option (Int × Int) → Option (Int × Nat × Int)
  | some x => some (x.1, k, x.2)
  | none => filesM (k + 1) ls
theorem filesM_cons (k : Nat) (l : List Nd) (ls : List (List Nd)) : filesM k (l :: ls) = contF k ls (fileM l) := by rw [filesM]; cases fileM l <;> rfl
theorem bodM_zero {n b : Nd} (h : (bodM n b).1 = 0) : bodM n b = (0, 0) := by
  unfold bodM at h ⊢
  split at h
  · simp at h
  · split at h
    · simp at h
    · rename_i hh
      rw [if_neg hh]
/-- Files: rows of classes. -/
def FilesAt (W : World) (v : Value) (L : List (List Nd)) : Prop := ∃ (a : Option Addr) (cap : Nat), v = .slice a L.length cap ∧ L.length ≤ cap ∧ cap ≤ maxLen ∧ ∀ (k : Nat) (l : List Nd), L[k]? = some l → ∃ g o kv, a = some ⟨g, o, none⟩ ∧ W.cell? ⟨g, o + k, none⟩ = some kv ∧ KidsAt W l kv
theorem FilesAt.below {W W' : World} {v : Value} {L : List (List Nd)} (h : FilesAt W v L) (hb : Below W.heap.size W W') : FilesAt W' v L := by
  obtain ⟨a, cap, e, h1, h2, h3⟩ := h
  exact ⟨a, cap, e, h1, h2, fun k l hk => by
    obtain ⟨g, o, kv, e2, c, hk2⟩ := h3 k l hk
    exact ⟨g, o, kv, e2, (hb.cell (p := ⟨g, o + k, none⟩) (World.block_lt_of_cell? W _ c)).trans c, hk2.below hb⟩⟩
theorem last_at {ks : List Nd} {b : Nd} (h : ks.getLast? = some b) : ks[ks.length - 1]? = some b := by rw [List.getLast?_eq_getElem?] at h; exact h
set_option maxRecDepth 100000 in
set_option maxHeartbeats 16000000 in
theorem method_any (b o : Nat) (N : Nd) (kv : Value) (w : World) (hc : Cells w b o N.hd kv) (hk : KidsAt w N.kids kv) (hm : N.cnt ≤ 2000000) (B : Nd) (hB : N.kids.getLast? = some B) :
    Calls Try.prog 62 #[.pointer (some ⟨b, o, none⟩)] w fun e w' => e = .returned (.agg #[.int .i64 (bodM N B).1, .int .i64 0, .int .i64 (bodM N B).2]) ∧ Below w.heap.size w w' := by
  have HC := Lib.hid hc
  have hbl := hc.lt
  obtain ⟨ak, ck, hkv, hck1, hck2, hx⟩ := hk.get
  subst hkv
  have hlast := last_at hB
  obtain ⟨kb, ko, bv, rfl, cb, hkb⟩ := hx _ B hlast
  have hll := (List.getElem?_eq_some_iff.1 hlast).1
  have hNn : N.kids.length ≤ 2000000 := by have h1 := cntL_len N.kids; have h2 := cnt_kids N; omega
  have hBc : B.cnt ≤ 2000000 := by have h1 := cntL_mem (List.mem_of_getElem? hlast); have h2 := cnt_kids N; omega
  have HCB := Lib.hid cb
  have HKB := Lib.hid hkb
  obtain ⟨n, hn⟩ : ∃ n, Hid (N.kids.length = n) := ⟨_, Lib.hid rfl⟩
  rw [hn.out] at HC HCB hll hck1 hNn
  obtain ⟨m, hmm⟩ : ∃ m : Nat, Hid (m = n - 1) := ⟨_, Lib.hid rfl⟩
  have hmn : n = m + 1 := by have := hmm.out; omega
  have HMN := Lib.hid hmn
  have hmn2 : IntKind.i64.wrap (m : Int) = (m : Int) := Go.IntWalk.i64_in _ (by omega)
  have hmn3 : (n : Int) - 1 = (m : Int) := by omega
  have hml : (m : Int) < (n : Int) := by omega
  have hm0 : (0 : Int) ≤ (m : Int) := by omega
  rw [← hmm.out] at HCB
  obtain ⟨mc, hmc⟩ : ∃ r, Hid (bodM N B = r) := ⟨_, Lib.hid rfl⟩
  rw [hmc.out]
  obtain ⟨W1, hW1⟩ : ∃ W1, Hid (w.alloc (.cells #[.int .i64 0, .int .i64 0, .int .i64 0] 34) = W1) := ⟨_, Lib.hid rfl⟩
  have B1 : Hid (Below w.heap.size w W1) := by rw [← hW1.out]; exact Lib.hid ((Below.refl _ w).alloc (Nat.le_refl _) _)
  have R1 : Hid (RowAt W1 w.heap.size 34 #[.int .i64 0, .int .i64 0, .int .i64 0]) := by rw [← hW1.out]; exact Lib.hid (RowAt.new w 34 _)
  have HN := Lib.hid (fun U (hU : Below w.heap.size w U) => HC.out.later hU)
  have c8 := (HN.out W1 B1.out).c8
  unfold maxLen at hck2
  clear hc hk hx cb hkb hlast hmn
  go_enter Try.func62, Try.ntmps62
  go_upto_region 1 with fail
  rw [hW1.out]
  have K1 : ∀ p : InC W1, p.w.cell? ⟨b, o + 8, none⟩ = some (.slice (some ⟨kb, ko, none⟩) n ck) := fun p => (HN.out p.w (B1.out.trans (p.h.mono B1.out.size))).c8
  refine wp_tail_in W1 11 (Below.refl _ _) (by kernel_rfl) (by kernel_rfl) ?_
  simp only [List.take_succ_cons, List.take_zero, List.drop_succ_cons, List.drop_zero]
  repeat (quiet_step (fail))
  refine wpQuiet_nil ?_
  intro U hw'
  have hU : Below W1.heap.size W1 U := by obtain ⟨p, rfl⟩ := hw'; exact p.h
  have RU := Lib.hid (R1.out.later hU)
  have BU := Lib.hid (B1.out.trans (hU.mono B1.out.size))
  clear hw' K1 hU c8
  have call := Lib.hid (flatten_any kb (ko + m * 9) B bv U (HCB.out.later BU.out) (HKB.out.below BU.out) hBc)
  go_wp2_with fail
  refine call.out.mono ?_
  rintro e w2 ⟨⟨v, rfl, hF⟩, b2⟩
  have call2 := Lib.hid (dead_any v B w2 hBc hF)
  obtain ⟨g, go, fm, fc, rfl, hfm, hfm2, f2, f3⟩ := hF.first
  have B2 := Lib.hid (BU.out.trans (b2.mono BU.out.size))
  have R2 := Lib.hid (RU.out.later b2)
  have HF2 := Lib.hid (fun V (hV : Below w2.heap.size w2 V) => (hV.cell (p := ⟨g, go + 2, none⟩) (World.block_lt_of_cell? w2 _ f2)).trans f2)
  clear hF b2 call f2 f3
  go_wp2_with fail
  refine call2.out.mono ?_
  rintro e w3 ⟨⟨u, rfl, hD⟩, b3⟩
  have B3 := Lib.hid (B2.out.trans (b3.mono B2.out.size))
  have R3 := Lib.hid (R2.out.later b3)
  have f2 := HF2.out w3 b3
  clear b3 call2
  have y0 := R3.out.frozen 0
  have s0 : w3.cell? ⟨w.heap.size, 0, none⟩ = some (.int .i64 0) := R3.out.cell rfl
  have y1 := R3.out.frozen 1
  have s1 : w3.cell? ⟨w.heap.size, 1, none⟩ = some (.int .i64 0) := R3.out.cell rfl
  have y2 := R3.out.frozen 2
  have s2 : w3.cell? ⟨w.heap.size, 2, none⟩ = some (.int .i64 0) := R3.out.cell rfl
  rcases hD with ⟨h1, rfl⟩ | ⟨s, h1, rfl, hNs⟩
  · obtain ⟨ne, hne⟩ : ∃ q, Hid (endsN B = q) := ⟨_, Lib.hid rfl⟩
    rw [hne.out] at f2
    have c2 := (HN.out w3 B3.out).c2
    have c6 := (HN.out w3 B3.out).c6
    by_cases hv : N.hd.type = sVoid
    · have hmz : Hid (mc = (0, 0)) := Lib.hid (by rw [← hmc.out]; unfold bodM; rw [h1]; simp only; rw [if_neg (fun h => h.1 hv)])
      rw [hv] at c2
      have cv : (sVoid == [118, 111, 105, 100]) = true := rfl
      have cv2 : ((bs sVoid).toList == [118, 111, 105, 100]) = true := by rw [Lib.toList_data]; rfl
      have H1 := Lib.hid h1
      have HV := Lib.hid hv
      clear h1 hv
      go_wp2_with fail
      obtain ⟨k2, k3, k4, k5⟩ := three_row R3.out (.int .i64 0) (.int .i64 0) (.int .i64 0) rfl
      refine bodyPost_ret (results_cell_row rfl _ _ w.heap.size 34 _ (0, 0) _ rfl k2 Try.underlying34 rfl rfl) rfl ?_
      exact ⟨by rw [hmz.out], B3.out.trans (k5 _ (Nat.le_refl _))⟩
    · have HV := Lib.hid hv
      have cv : (N.hd.type == [118, 111, 105, 100]) = false := by simpa [sVoid] using hv
      have cv2 : ((bs N.hd.type).toList == [118, 111, 105, 100]) = false := by rw [Lib.toList_data]; simpa [sVoid] using hv
      clear hv
      cases ne with
      | true =>
        have hmz : Hid (mc = (190, N.hd.at_)) := Lib.hid (by rw [← hmc.out]; unfold bodM; rw [h1]; simp only; rw [if_pos ⟨HV.out, hne.out⟩])
        have H1 := Lib.hid h1
        clear h1
        go_wp2_with fail
        obtain ⟨k2, k3, k4, k5⟩ := three_row R3.out (.int .i64 190) (.int .i64 0) (.int .i64 N.hd.at_) rfl
        refine bodyPost_ret (results_cell_row rfl _ _ w.heap.size 34 _ (0, 0) _ rfl k2 Try.underlying34 rfl rfl) rfl ?_
        exact ⟨by rw [hmz.out], B3.out.trans (k5 _ (Nat.le_refl _))⟩
      | false =>
        have hmz : Hid (mc = (0, 0)) := Lib.hid (by rw [← hmc.out]; unfold bodM; rw [h1]; simp only; rw [if_neg (fun h => by have := hne.out.symm.trans h.2; cases this)])
        have H1 := Lib.hid h1
        clear h1
        go_wp2_with fail
        obtain ⟨k2, k3, k4, k5⟩ := three_row R3.out (.int .i64 0) (.int .i64 0) (.int .i64 0) rfl
        refine bodyPost_ret (results_cell_row rfl _ _ w.heap.size 34 _ (0, 0) _ rfl k2 Try.underlying34 rfl rfl) rfl ?_
        exact ⟨by rw [hmz.out], B3.out.trans (k5 _ (Nat.le_refl _))⟩
  · have hmz : Hid (mc = (191, s.t.hd.fr)) := Lib.hid (by rw [← hmc.out]; unfold bodM; rw [h1])
    have c4 := hNs.1.c4
    clear h1
    go_wp2_with fail
    obtain ⟨k2, k3, k4, k5⟩ := three_row R3.out (.int .i64 191) (.int .i64 0) (.int .i64 s.t.hd.fr) rfl
    refine bodyPost_ret (results_cell_row rfl _ _ w.heap.size 34 _ (0, 0) _ rfl k2 Try.underlying34 rfl rfl) rfl ?_
    exact ⟨by rw [hmz.out], B3.out.trans (k5 _ (Nat.le_refl _))⟩
/-- The answer, as a value. -/
def resM : Option (Int × Nat × Int) → Value
  | none => .agg #[.int .i64 0, .int .i64 0, .int .i64 0]
  | some x => .agg #[.int .i64 x.1, .int .i64 (x.2.1 : Nat), .int .i64 x.2.2]
theorem drop_at {α : Type} {l : List α} {k : Nat} {x : α} (h : l[k]? = some x) : l.drop k = x :: l.drop (k + 1) := by
  have hl := (List.getElem?_eq_some_iff.1 h).1
  rw [List.drop_eq_getElem_cons hl]
  congr 1
  rw [List.getElem?_eq_getElem hl] at h
  exact Option.some.inj h
theorem three_set {U : World} {H : Nat} {x y z : Value} (RH : RowAt U H 34 #[x, y, z]) (p q r : Value) : RowAt (((U.setCell ⟨H, 0, none⟩ p).setCell ⟨H, 1, none⟩ q).setCell ⟨H, 2, none⟩ r) H 34 #[p, q, r] := (three_row RH p q r rfl).1
set_option maxRecDepth 100000 in
set_option maxHeartbeats 32000000 in
theorem Check_any (v : Value) (L : List (List Nd)) (w : World) (hL : ∀ l ∈ L, cntL l ≤ 2000000) (hn1 : L.length ≤ 1000) (hF : FilesAt w v L) :
    Calls Try.prog 34 #[v] w fun e w' => e = .returned (resM (filesM 0 L)) ∧ Below w.heap.size w w' := by
  obtain ⟨a, cap, rfl, hc, hcap, hx⟩ := hF
  have HX := Lib.hid hx
  have HL := Lib.hid hL
  clear hx hL
  obtain ⟨n, hn⟩ : ∃ n, Hid (L.length = n) := ⟨_, Lib.hid rfl⟩
  rw [hn.out] at hc hn1
  rw [hn.out]
  unfold maxLen at hcap
  obtain ⟨R, hR⟩ : ∃ R, Hid (filesM 0 L = R) := ⟨_, Lib.hid rfl⟩
  rw [hR.out]
  obtain ⟨W1, hW1⟩ : ∃ W1, Hid ((w.alloc (.cells #[.int .i64 0, .int .i64 0, .int .i64 0] 34)).alloc (.cells #[.int .i64 0, .int .i64 0, .int .i64 0] 34) = W1) := ⟨_, Lib.hid rfl⟩
  have B1 : Hid (Below w.heap.size w W1) := by rw [← hW1.out]; exact Lib.hid (((Below.refl _ w).alloc (Nat.le_refl _) _).alloc (by simp) _)
  have hs1 : W1.heap.size = w.heap.size + 2 := by rw [← hW1.out]; simp
  have P1 : Hid (RowAt W1 w.heap.size 34 #[.int .i64 0, .int .i64 0, .int .i64 0] ∧ RowAt W1 (w.heap.size + 1) 34 #[.int .i64 0, .int .i64 0, .int .i64 0]) := by
    rw [← hW1.out]
    have h1 := (RowAt.new w 34 #[.int .i64 0, .int .i64 0, .int .i64 0]).alloc (.cells #[.int .i64 0, .int .i64 0, .int .i64 0] 34)
    have h2 := RowAt.new (w.alloc (.cells #[.int .i64 0, .int .i64 0, .int .i64 0] 34)) 34 #[.int .i64 0, .int .i64 0, .int .i64 0]
    rw [World.size_alloc] at h2
    exact Lib.hid ⟨h1, h2⟩
  go_enter Try.func34, Try.ntmps34
  go_wp2_with fail
  go_step3
  go_wp2_with fail
  go_step3
  rw [hW1.out]
  go_wp2_with fail
  go_loopw [12] (fun c wr => ∃ i : Nat, c = .int .i64 i ∧ i ≤ n ∧ Hid (R = filesM i (L.drop i)) ∧ Hid (RowAt wr w.heap.size 34 #[.int .i64 0, .int .i64 0, .int .i64 0] ∧ RowAt wr (w.heap.size + 1) 34 #[.int .i64 0, .int .i64 0, .int .i64 0]) ∧ Hid (Below w.heap.size w wr)) (fun c _ => n - (intOf c).toNat)
  case atStart => exact ⟨0, rfl, Nat.zero_le _, Lib.hid (by rw [List.drop_zero]; exact hR.out.symm), P1, B1⟩
  case round =>
    obtain ⟨i, rfl, hi, hRi, hP, hB⟩ := hrel
    obtain ⟨wo, hwo⟩ : ∃ wo, wo = wr := ⟨_, rfl⟩
    subst hwo
    have hso := hB.out.size
    by_cases hlt : i < n
    · obtain ⟨l, hl⟩ : ∃ l, L[i]? = some l := ⟨_, List.getElem?_eq_getElem (by rw [hn.out]; exact hlt)⟩
      obtain ⟨g, o, kv, rfl, c0, hkl⟩ := HX.out i l hl
      have hc0 : wo.cell? ⟨g, o + i, none⟩ = some kv := (hB.out.cell (p := ⟨g, o + i, none⟩) (World.block_lt_of_cell? w _ c0)).trans c0
      obtain ⟨al, cl, hkv, hcl1, hcl2, hxl⟩ := hkl.get
      subst hkv
      have HXL := Lib.hid hxl
      have hlc := HL.out l (List.mem_of_getElem? hl)
      have hlen : l.length ≤ 2000000 := Nat.le_trans (cntL_len l) hlc
      obtain ⟨m, hm⟩ : ∃ m, Hid (l.length = m) := ⟨_, Lib.hid rfl⟩
      rw [hm.out] at hc0 hcl1 hlen
      unfold maxLen at hcl2
      have hR2 : Hid (R = contF i (L.drop (i + 1)) (fileM (l.drop 0))) := Lib.hid (by rw [hRi.out, drop_at hl, filesM_cons, List.drop_zero])
      have i1 : (i : Int) < (n : Int) := by omega
      have i0 : (0 : Int) ≤ (i : Int) := by omega
      clear hl c0 hkl hxl hRi
      go_wp2_with fail
      go_loopw [19] (fun z wr => ∃ j : Nat, z = .int .i64 j ∧ j ≤ m ∧ Hid (R = contF i (L.drop (i + 1)) (fileM (l.drop j))) ∧ Hid (RowAt wr w.heap.size 34 #[.int .i64 0, .int .i64 0, .int .i64 0] ∧ RowAt wr (w.heap.size + 1) 34 #[.int .i64 0, .int .i64 0, .int .i64 0]) ∧ Hid (Below w.heap.size w wr)) (fun z _ => m - (intOf z).toNat)
      case atStart => exact ⟨0, rfl, Nat.zero_le _, hR2, hP, hB⟩
      case round =>
        clear hR2 hP hB hc0
        obtain ⟨wm, hwm⟩ : ∃ wm, wm = wr := ⟨_, rfl⟩
        subst hwm
        obtain ⟨j, rfl, hj, hRj, hP3, hB3⟩ := hrel
        have hs3 := hB3.out.size
        have hP3l := hP3.out.2.lt
        by_cases hlj : j < m
        · obtain ⟨c, hcj⟩ : ∃ c, l[j]? = some c := ⟨_, List.getElem?_eq_getElem (by rw [hm.out]; exact hlj)⟩
          obtain ⟨cbk, co, ckv, rfl, csc, hkc0⟩ := HXL.out j c hcj
          have hcc : c.cnt ≤ 2000000 := by have h1 := cntL_mem (List.mem_of_getElem? hcj); omega
          have hRj2 := hRj.out
          rw [drop_at hcj, fileM] at hRj2
          have HRJ := Lib.hid hRj2
          obtain ⟨e0, e1, e2, e3, e4, e5, e6, e7, e8⟩ := csc.later hB3.out
          obtain ⟨ac, cc, hckv, hcc1, hcc2, hxc⟩ := hkc0.get
          subst hckv
          have HXC := Lib.hid hxc
          have hklen : c.kids.length ≤ 2000000 := by have h1 := cntL_len c.kids; have h2 := cnt_kids c; omega
          obtain ⟨nc, hnc⟩ : ∃ n, Hid (c.kids.length = n) := ⟨_, Lib.hid rfl⟩
          rw [hnc.out] at e8 hcc1 hklen
          unfold maxLen at hcc2
          obtain ⟨kc, hkc⟩ : ∃ k, Hid (c.hd.kind = k) := ⟨_, Lib.hid rfl⟩
          have i1 : (j : Int) < (m : Int) := by omega
          have i0 : (0 : Int) ≤ (j : Int) := by omega
          obtain ⟨cb, hcb⟩ : ∃ b, Hid (wm.heap.size = b) := ⟨_, Lib.hid rfl⟩
          have hcbl : w.heap.size + 1 < cb := by rw [← hcb.out]; exact hP3l
          clear hcj csc hkc0 hxc hRj2 hRj
          go_upto_region 8 with fail
          refine wp_gen (fun W => (RowAt W w.heap.size 34 #[.int .i64 0, .int .i64 0, .int .i64 0] ∧ RowAt W (w.heap.size + 1) 34 #[.int .i64 0, .int .i64 0, .int .i64 0]) ∧ RowAt W cb 44 (c.hd.vals (.slice ac nc cc)) ∧ Below w.heap.size w W) ⟨⟨hP3.out.1.alloc _, hP3.out.2.alloc _⟩, X.row_new hcb.out.symm, hB3.out.alloc hs3 _⟩ ?_
          rw [hcb.out]
          rintro W4 ⟨p4, rc4, b4⟩
          have P4 := Lib.hid p4
          have RC4 := Lib.hid rc4
          have B4 := Lib.hid b4
          have ck8 := (show Cells W4 cb 0 c.hd (.slice ac nc cc) from Cells.row rc4).c8
          rw [Nat.zero_add] at ck8
          clear p4 rc4 b4 e0 e1 e2 e3 e4 e5 e6 e7 e8
          have hR4 : Hid (R = contF i (L.drop (i + 1)) ((clsM c (c.kids.drop 0)).or (fileM (l.drop (j + 1))))) := Lib.hid (by rw [HRJ.out, List.drop_zero])
          go_wp2_with fail
          go_loopw [26] (fun z wr => ∃ q : Nat, z = .int .i64 q ∧ q ≤ nc ∧ Hid (R = contF i (L.drop (i + 1)) ((clsM c (c.kids.drop q)).or (fileM (l.drop (j + 1))))) ∧ Hid (RowAt wr w.heap.size 34 #[.int .i64 0, .int .i64 0, .int .i64 0] ∧ RowAt wr (w.heap.size + 1) 34 #[.int .i64 0, .int .i64 0, .int .i64 0]) ∧ Hid (RowAt wr cb 44 (c.hd.vals (.slice ac nc cc))) ∧ Hid (Below w.heap.size w wr)) (fun z _ => nc - (intOf z).toNat)
          case atStart => exact ⟨0, rfl, Nat.zero_le _, hR4, P4, RC4, B4⟩
          case round =>
            clear hR4 P4 RC4 B4 ck8
            obtain ⟨wi, hwi⟩ : ∃ wi, wi = wr := ⟨_, rfl⟩
            subst hwi
            obtain ⟨q, rfl, hq, hRq, hP5, hRC, hB5⟩ := hrel
            have hs5 := hB5.out.size
            have hP5l := hP5.out.2.lt
            by_cases hlq : q < nc
            · obtain ⟨y, hy⟩ : ∃ y, c.kids[q]? = some y := ⟨_, List.getElem?_eq_getElem (by rw [hnc.out]; exact hlq)⟩
              obtain ⟨yb, yo, ykv, rfl, csy, hky⟩ := HXC.out q y hy
              have hyc : y.cnt ≤ 2000000 := by have h1 := cntL_mem (List.mem_of_getElem? hy); have h2 := cnt_kids c; omega
              have hRq2 := hRq.out
              rw [drop_at hy, clsM] at hRq2
              have HRQ := Lib.hid hRq2
              obtain ⟨e0, e1, e2, e3, e4, e5, e6, e7, e8⟩ := csy.later hB5.out
              have HKY := Lib.hid hky
              obtain ⟨ay, cy, hykv, hcy1, hcy2, -⟩ := hky.get
              subst hykv
              obtain ⟨ny, hny⟩ : ∃ n, Hid (y.kids.length = n) := ⟨_, Lib.hid rfl⟩
              rw [hny.out] at e8 HKY
              have i1 : (q : Int) < (nc : Int) := by omega
              have i0 : (0 : Int) ≤ (q : Int) := by omega
              clear hy csy hky hRq2 hRq
              go_upto_region 11 with fail
              refine wp_gen (fun W => (RowAt W w.heap.size 34 #[.int .i64 0, .int .i64 0, .int .i64 0] ∧ RowAt W (w.heap.size + 1) 34 #[.int .i64 0, .int .i64 0, .int .i64 0]) ∧ RowAt W cb 44 (c.hd.vals (.slice (some ⟨yb, yo, none⟩) nc cc)) ∧ RowAt W wi.heap.size 44 (y.hd.vals (.slice ay ny cy)) ∧ Below w.heap.size w W) ⟨⟨hP5.out.1.alloc _, hP5.out.2.alloc _⟩, hRC.out.alloc _, X.row_new rfl, hB5.out.alloc hs5 _⟩ ?_
              rintro W6 ⟨p6, rc6, ry6, b6⟩
              have HP6 := Lib.hid p6
              have HRC6 := Lib.hid rc6
              have HRY := Lib.hid ry6
              have B6 := Lib.hid b6
              clear p6 rc6 ry6 b6 e0 e1 e2 e3 e4 e5 e6 e7 e8
              have ck0 := (show Cells W6 cb 0 c.hd (.slice (some ⟨yb, yo, none⟩) nc cc) from Cells.row HRC6.out).c0
              have yk0 := (show Cells W6 wi.heap.size 0 y.hd (.slice ay ny cy) from Cells.row HRY.out).c0
              have yk8 := (show Cells W6 wi.heap.size 0 y.hd (.slice ay ny cy) from Cells.row HRY.out).c8
              rw [Nat.zero_add] at yk8
              rw [hkc.out] at ck0
              obtain ⟨ky, hkk⟩ : ∃ k, Hid (y.hd.kind = k) := ⟨_, Lib.hid rfl⟩
              rw [hkk.out] at yk0
              have NEXT : Hid ((memM c y).1 = 0 → R = contF i (L.drop (i + 1)) ((clsM c (c.kids.drop (q + 1))).or (fileM (l.drop (j + 1))))) := Lib.hid (fun h => by rw [HRQ.out, if_neg (by rw [h]; simp)])
              by_cases k1 : kc = 1
              · have f1 : (kc != 1) = false := by simpa using k1
                by_cases k3 : ky = 3
                · have f3 : (ky != 3) = false := by simpa using k3
                  by_cases ky0 : ny = 0
                  · have hR6 := Lib.hid (NEXT.out (by unfold memM; rw [if_pos (.inr (.inr (List.length_eq_zero_iff.1 (hny.out.trans ky0))))]))
                    have f8 : ((ny : Int) == 0) = true := by simpa using ky0
                    have K := Lib.hid k1
                    have K3 := Lib.hid k3
                    have KY := Lib.hid ky0
                    clear k1 k3 ky0
                    go_wp2_with fail
                    exact ⟨⟨q + 1, by go_num, by omega, hR6, HP6, HRC6, B6⟩, by simp [intOf]; omega⟩
                  · have f8 : ((ny : Int) == 0) = false := by simp; omega
                    obtain ⟨B, hBl⟩ : ∃ B, y.kids.getLast? = some B := by
                      cases hl9 : y.kids.getLast? with
                      | none => exact absurd (by rw [List.getLast?_eq_none_iff.1 hl9]; rfl : y.kids.length = 0) (by rw [hny.out]; exact ky0)
                      | some B => exact ⟨B, rfl⟩
                    have hmm : Hid (memM c y = bodM y B) := Lib.hid (by
                      unfold memM methM
                      rw [if_neg (fun h => by
                        rcases h with h | h | h
                        · exact h (hkc.out.trans k1)
                        · exact h (hkk.out.trans k3)
                        · rw [h] at hny; exact ky0 (hny.out.symm.trans rfl)), hBl])
                    have call := Lib.hid (method_any wi.heap.size 0 y (.slice ay ny cy) W6 (Cells.row HRY.out) (HKY.out.below B6.out) hyc B hBl)
                    obtain ⟨mc, hmc⟩ : ∃ r, Hid (bodM y B = r) := ⟨_, Lib.hid rfl⟩
                    rw [hmc.out] at call hmm
                    have K := Lib.hid k1
                    have K3 := Lib.hid k3
                    have KY := Lib.hid ky0
                    clear k1 k3 ky0 hBl
                    go_wp2_with fail
                    refine call.out.mono ?_
                    rintro e w7 ⟨rfl, b7⟩
                    have P7 : Hid (RowAt w7 w.heap.size 34 #[.int .i64 0, .int .i64 0, .int .i64 0] ∧ RowAt w7 (w.heap.size + 1) 34 #[.int .i64 0, .int .i64 0, .int .i64 0]) := Lib.hid ⟨HP6.out.1.later b7, HP6.out.2.later b7⟩
                    have RC7 := Lib.hid (HRC6.out.later b7)
                    have B7 := Lib.hid (B6.out.trans (b7.mono B6.out.size))
                    clear b7 ck0 yk0 yk8 call
                    have y0 := P7.out.2.frozen 0
                    have s0 : w7.cell? ⟨w.heap.size + 1, 0, none⟩ = some (.int .i64 0) := P7.out.2.cell rfl
                    have y1 := P7.out.2.frozen 1
                    have s1 : w7.cell? ⟨w.heap.size + 1, 1, none⟩ = some (.int .i64 0) := P7.out.2.cell rfl
                    have y2 := P7.out.2.frozen 2
                    have s2 : w7.cell? ⟨w.heap.size + 1, 2, none⟩ = some (.int .i64 0) := P7.out.2.cell rfl
                    by_cases hz : mc.1 = 0
                    · have hz2 : mc = (0, 0) := by have := bodM_zero (n := y) (b := B) (by rw [hmc.out]; exact hz); rw [hmc.out] at this; exact this
                      have hR6 := Lib.hid (NEXT.out (by rw [hmm.out]; exact hz))
                      rw [hz2]
                      clear hz hz2
                      go_upto_region 13 with fail
                      obtain ⟨k2, k3, k4, k5⟩ := three_row P7.out.2 (.int .i64 0) (.int .i64 0) (.int .i64 0) rfl
                      refine wp_gen (fun W => (RowAt W w.heap.size 34 #[.int .i64 0, .int .i64 0, .int .i64 0] ∧ RowAt W (w.heap.size + 1) 34 #[.int .i64 0, .int .i64 0, .int .i64 0]) ∧ RowAt W cb 44 (c.hd.vals (.slice (some ⟨yb, yo, none⟩) nc cc)) ∧ Below w.heap.size w W) ⟨⟨P7.out.1.same (k4 _ (by omega)), k2⟩, RC7.out.same (k4 _ (by omega)), B7.out.trans (k5 _ (by omega))⟩ ?_
                      rintro W8 ⟨p8, rc8, b8⟩
                      have P8 := Lib.hid p8
                      have RC8 := Lib.hid rc8
                      have B8 := Lib.hid b8
                      have t0 : W8.cell? ⟨w.heap.size + 1, 0, none⟩ = some (.int .i64 0) := p8.2.cell rfl
                      clear p8 rc8 b8 k2 k3 k4 k5 s0 s1 s2 y0 y1 y2
                      go_wp2_with fail
                      exact ⟨⟨q + 1, by go_num, by omega, hR6, P8, RC8, B8⟩, by simp [intOf]; omega⟩
                    · have hRs : Hid (R = some (mc.1, i, mc.2)) := Lib.hid (by rw [HRQ.out, if_pos (by rw [hmm.out]; exact hz), hmm.out]; rfl)
                      have f9 : (mc.1 != 0) = true := by simpa using hz
                      have HZ := Lib.hid hz
                      clear hz
                      obtain ⟨m1, m2⟩ := mc
                      go_upto_region 13 with fail
                      obtain ⟨k2, k3, k4, k5⟩ := three_row P7.out.2 (.int .i64 m1) (.int .i64 0) (.int .i64 m2) rfl
                      refine wp_gen (fun W => RowAt W w.heap.size 34 #[.int .i64 0, .int .i64 0, .int .i64 0] ∧ RowAt W (w.heap.size + 1) 34 #[.int .i64 m1, .int .i64 0, .int .i64 m2] ∧ Below w.heap.size w W) ⟨P7.out.1.same (k4 _ (by omega)), k2, B7.out.trans (k5 _ (by omega))⟩ ?_
                      rintro W8 ⟨p8, q8, b8⟩
                      have P8 := Lib.hid p8
                      have Q8 := Lib.hid q8
                      have B8 := Lib.hid b8
                      have t0 : W8.cell? ⟨w.heap.size + 1, 0, none⟩ = some (.int .i64 m1) := q8.cell rfl
                      have t1 : W8.cell? ⟨w.heap.size + 1, 1, none⟩ = some (.int .i64 0) := q8.cell rfl
                      have z1 := q8.frozen 1
                      clear p8 q8 b8 k2 k3 k4 k5 s0 s1 s2 y0 y1 y2
                      go_upto_region 18 with fail
                      refine wp_gen (fun W => RowAt W w.heap.size 34 #[.int .i64 0, .int .i64 0, .int .i64 0] ∧ RowAt W (w.heap.size + 1) 34 #[.int .i64 m1, .int .i64 (i : Nat), .int .i64 m2] ∧ Below w.heap.size w W) ⟨P8.out.other (by omega) 1 _, Q8.out.set 1 _, B8.out.setCell (p := ⟨w.heap.size + 1, 1, none⟩) (by show w.heap.size ≤ w.heap.size + 1; omega) _⟩ ?_
                      rintro W9 ⟨p9, q9, b9⟩
                      have P9 := Lib.hid p9
                      have B9 := Lib.hid b9
                      have u0 : W9.cell? ⟨w.heap.size + 1, 0, none⟩ = some (.int .i64 m1) := q9.cell rfl
                      have u1 : W9.cell? ⟨w.heap.size + 1, 1, none⟩ = some (.int .i64 (i : Nat)) := q9.cell rfl
                      have u2 : W9.cell? ⟨w.heap.size + 1, 2, none⟩ = some (.int .i64 m2) := q9.cell rfl
                      clear p9 q9 b9 t0 t1 z1
                      have y0 := P9.out.frozen 0
                      have s0 : W9.cell? ⟨w.heap.size, 0, none⟩ = some (.int .i64 0) := P9.out.cell rfl
                      have y1 := P9.out.frozen 1
                      have s1 : W9.cell? ⟨w.heap.size, 1, none⟩ = some (.int .i64 0) := P9.out.cell rfl
                      have y2 := P9.out.frozen 2
                      have s2 : W9.cell? ⟨w.heap.size, 2, none⟩ = some (.int .i64 0) := P9.out.cell rfl
                      go_wp2_with fail
                      simp only [Exit.noGoto]
                      obtain ⟨k2, k3, k4, k5⟩ := three_row P9.out (.int .i64 m1) (.int .i64 (i : Nat)) (.int .i64 m2) rfl
                      refine bodyPost_ret (results_cell_row rfl _ _ w.heap.size 34 _ (0, 0) _ rfl k2 Try.underlying34 rfl rfl) rfl ?_
                      exact ⟨by rw [hRs.out]; rfl, B9.out.trans (k5 _ (Nat.le_refl _))⟩
                · have f3 : (ky != 3) = true := by simpa using k3
                  have hR6 := Lib.hid (NEXT.out (by unfold memM; rw [if_pos (.inr (.inl (by rw [hkk.out]; exact k3)))]))
                  have K := Lib.hid k1
                  have K3 := Lib.hid k3
                  clear k1 k3
                  go_wp2_with fail
                  exact ⟨⟨q + 1, by go_num, by omega, hR6, HP6, HRC6, B6⟩, by simp [intOf]; omega⟩
              · have f1 : (kc != 1) = true := by simpa using k1
                have hR6 := Lib.hid (NEXT.out (by unfold memM; rw [if_pos (.inl (by rw [hkc.out]; exact k1))]))
                have K := Lib.hid k1
                clear k1
                go_wp2_with fail
                exact ⟨⟨q + 1, by go_num, by omega, hR6, HP6, HRC6, B6⟩, by simp [intOf]; omega⟩
            · have hqn : q = nc := by omega
              have hR7 : Hid (R = contF i (L.drop (i + 1)) (fileM (l.drop (j + 1)))) := Lib.hid (by
                rw [hRq.out, show c.kids.drop q = [] from List.drop_of_length_le (by rw [hnc.out]; omega)]; rfl)
              have hnq : ¬ ((q : Int) < (nc : Int)) := by omega
              have Hq := Lib.hid hqn
              clear hqn hlq
              go_wp2_with fail
              exact ⟨⟨j + 1, by go_num, by omega, hR7, hP5, hB5⟩, by simp [intOf]; omega⟩

        · have hjm : j = m := by omega
          have hR5 : Hid (R = filesM (i + 1) (L.drop (i + 1))) := Lib.hid (by
            rw [hRj.out, show l.drop j = [] from List.drop_of_length_le (by rw [hm.out]; omega)]; rfl)
          have hnj : ¬ ((j : Int) < (m : Int)) := by omega
          have Hj := Lib.hid hjm
          clear hjm hlj
          go_wp2_with fail
          exact ⟨⟨i + 1, by go_num, by omega, hR5, hP3, hB3⟩, by simp [intOf]; omega⟩

    · have hin : i = n := by omega
      have hRn : Hid (R = none) := Lib.hid (by rw [hRi.out, show L.drop i = [] from List.drop_of_length_le (by rw [hn.out]; omega)]; rfl)
      have hni : ¬ ((i : Int) < (n : Int)) := by omega
      have Hi := Lib.hid hin
      have y0 := hP.out.1.frozen 0
      have s0 : wo.cell? ⟨w.heap.size, 0, none⟩ = some (.int .i64 0) := hP.out.1.cell rfl
      have y1 := hP.out.1.frozen 1
      have s1 : wo.cell? ⟨w.heap.size, 1, none⟩ = some (.int .i64 0) := hP.out.1.cell rfl
      have y2 := hP.out.1.frozen 2
      have s2 : wo.cell? ⟨w.heap.size, 2, none⟩ = some (.int .i64 0) := hP.out.1.cell rfl
      have my0 := hP.out.2.frozen 0
      have ms0 : wo.cell? ⟨w.heap.size + 1, 0, none⟩ = some (.int .i64 0) := hP.out.2.cell rfl
      have my1 := hP.out.2.frozen 1
      have ms1 : wo.cell? ⟨w.heap.size + 1, 1, none⟩ = some (.int .i64 0) := hP.out.2.cell rfl
      have my2 := hP.out.2.frozen 2
      have ms2 : wo.cell? ⟨w.heap.size + 1, 2, none⟩ = some (.int .i64 0) := hP.out.2.cell rfl
      clear hin hlt
      go_wp2_with fail
      obtain ⟨k2, k3, k4, k5⟩ := three_row hP.out.1 (.int .i64 0) (.int .i64 0) (.int .i64 0) rfl
      refine bodyPost_ret (results_cell_row rfl _ _ w.heap.size 34 _ (0, 0) _ rfl k2 Try.underlying34 rfl rfl) rfl ?_
      exact ⟨by rw [hRn.out]; rfl, hB.out.trans (k5 _ (Nat.le_refl _))⟩
end Go.Proofs.Ytbnbmjdjkadgoaa.F
/-
  For the laws of flow: the document's first mistake of any files. Condition: at most 2,000,000 nodes in each file, at most 1,000 files.
-/
namespace Go.Proofs.Ytbnbmjdjkadgoaa.F
open Go.RowKit Go.Shelf
open Go.Proofs.Ytbnbmjdjkadgoaa.X (wp_gen three_row)
set_option linter.unusedSimpArgs false
set_option linter.unusedVariables false

set_option maxRecDepth 100000 in
set_option maxHeartbeats 32000000 in
theorem RefCheck_any (v : Value) (L : List (List Nd)) (w : World) (hL : ∀ l ∈ L, cntL l ≤ 2000000) (hn1 : L.length ≤ 1000) (hF : FilesAt w v L) :
    Calls Try.prog 35 #[v] w fun e w' => e = .returned (resM (filesM 0 L)) ∧ Below w.heap.size w w' := by
  obtain ⟨a, cap, rfl, hc, hcap, hx⟩ := hF
  have HX := Lib.hid hx
  have HL := Lib.hid hL
  clear hx hL
  obtain ⟨n, hn⟩ : ∃ n, Hid (L.length = n) := ⟨_, Lib.hid rfl⟩
  rw [hn.out] at hc hn1
  rw [hn.out]
  unfold maxLen at hcap
  obtain ⟨R, hR⟩ : ∃ R, Hid (filesM 0 L = R) := ⟨_, Lib.hid rfl⟩
  rw [hR.out]
  obtain ⟨W1, hW1⟩ : ∃ W1, Hid (w.alloc (.cells #[.int .i64 0, .int .i64 0, .int .i64 0] 34) = W1) := ⟨_, Lib.hid rfl⟩
  have B1 : Hid (Below w.heap.size w W1) := by rw [← hW1.out]; exact Lib.hid ((Below.refl _ w).alloc (Nat.le_refl _) _)
  have hs1 : W1.heap.size = w.heap.size + 1 := by rw [← hW1.out]; simp
  have P1 : Hid (RowAt W1 w.heap.size 34 #[.int .i64 0, .int .i64 0, .int .i64 0]) := by rw [← hW1.out]; exact Lib.hid (RowAt.new w 34 #[.int .i64 0, .int .i64 0, .int .i64 0])
  go_enter Try.func35, Try.ntmps35
  go_upto_region 1 with fail
  rw [hW1.out]
  go_wp2_with fail
  go_loopw [3] (fun z wr => ∃ i : Nat, z = .int .i64 i ∧ i ≤ n ∧ Hid (R = filesM i (L.drop i)) ∧ Hid (RowAt wr w.heap.size 34 #[.int .i64 0, .int .i64 0, .int .i64 0]) ∧ Hid (Below w.heap.size w wr)) (fun z _ => n - (intOf z).toNat)
  case atStart => exact ⟨0, rfl, Nat.zero_le _, Lib.hid (by rw [List.drop_zero]; exact hR.out.symm), P1, B1⟩
  case round =>
    clear P1 B1 hs1 hW1
    obtain ⟨i, rfl, hi, hRi, hP, hB⟩ := hrel
    obtain ⟨wo, hwo⟩ : ∃ wo, wo = wr := ⟨_, rfl⟩
    subst hwo
    have hso := hB.out.size
    by_cases hlt : i < n
    · obtain ⟨l, hl⟩ : ∃ l, L[i]? = some l := ⟨_, List.getElem?_eq_getElem (by rw [hn.out]; exact hlt)⟩
      obtain ⟨g, o, kv, rfl, c0, hkl⟩ := HX.out i l hl
      have HC0 : Hid (∀ U, Below w.heap.size w U → U.cell? ⟨g, o + i, none⟩ = some kv) := Lib.hid (fun U hU => (hU.cell (p := ⟨g, o + i, none⟩) (World.block_lt_of_cell? w _ c0)).trans c0)
      obtain ⟨al, cl, hkv, hcl1, hcl2, hxl⟩ := hkl.get
      subst hkv
      have HXL := Lib.hid hxl
      have hlc := HL.out l (List.mem_of_getElem? hl)
      have hlen : l.length ≤ 2000000 := Nat.le_trans (cntL_len l) hlc
      obtain ⟨m, hm⟩ : ∃ m, Hid (l.length = m) := ⟨_, Lib.hid rfl⟩
      rw [hm.out] at HC0 hcl1 hlen
      unfold maxLen at hcl2
      have hR2 : Hid (R = contF i (L.drop (i + 1)) (fileM (l.drop 0))) := Lib.hid (by rw [hRi.out, drop_at hl, filesM_cons, List.drop_zero])
      have i1 : (i : Int) < (n : Int) := by omega
      have i0 : (0 : Int) ≤ (i : Int) := by omega
      clear hl c0 hkl hxl hRi
      go_wp2_with fail
      go_loopw [4] (fun z wr => ∃ j : Nat, z = .int .i64 j ∧ j ≤ m ∧ Hid (R = contF i (L.drop (i + 1)) (fileM (l.drop j))) ∧ Hid (RowAt wr w.heap.size 34 #[.int .i64 0, .int .i64 0, .int .i64 0]) ∧ Hid (Below w.heap.size w wr)) (fun z _ => m - (intOf z).toNat)
      case atStart => exact ⟨0, rfl, Nat.zero_le _, hR2, hP, hB⟩
      case round =>
        clear hR2 hP hB
        obtain ⟨wm, hwm⟩ : ∃ wm, wm = wr := ⟨_, rfl⟩
        subst hwm
        obtain ⟨j, rfl, hj, hRj, hP3, hB3⟩ := hrel
        have hs3 := hB3.out.size
        have hc0 := HC0.out wm hB3.out
        by_cases hlj : j < m
        · obtain ⟨c, hcj⟩ : ∃ c, l[j]? = some c := ⟨_, List.getElem?_eq_getElem (by rw [hm.out]; exact hlj)⟩
          obtain ⟨cbk, co, ckv, rfl, csc, hkc0⟩ := HXL.out j c hcj
          have hcc : c.cnt ≤ 2000000 := by have h1 := cntL_mem (List.mem_of_getElem? hcj); omega
          have hRj2 := hRj.out
          rw [drop_at hcj, fileM] at hRj2
          have HRJ := Lib.hid hRj2
          obtain ⟨ac, cc, hckv, hcc1, hcc2, hxc⟩ := hkc0.get
          subst hckv
          have HXC := Lib.hid hxc
          have hklen : c.kids.length ≤ 2000000 := by have h1 := cntL_len c.kids; have h2 := cnt_kids c; omega
          obtain ⟨nc, hnc⟩ : ∃ n, Hid (c.kids.length = n) := ⟨_, Lib.hid rfl⟩
          have HCS := Lib.hid (fun U (hU : Below w.heap.size w U) => csc.later hU)
          rw [hnc.out] at HCS hcc1 hklen
          unfold maxLen at hcc2
          obtain ⟨kc, hkc⟩ : ∃ k, Hid (c.hd.kind = k) := ⟨_, Lib.hid rfl⟩
          have i3 : (j : Int) < (m : Int) := by omega
          have i2 : (0 : Int) ≤ (j : Int) := by omega
          clear hcj csc hkc0 hxc hRj2 hRj
          have e8 := (HCS.out wm hB3.out).c8
          have hR4 : Hid (R = contF i (L.drop (i + 1)) ((clsM c (c.kids.drop 0)).or (fileM (l.drop (j + 1))))) := Lib.hid (by rw [HRJ.out, List.drop_zero])
          go_wp2_with fail
          go_loopw [6] (fun z wr => ∃ q : Nat, z = .int .i64 q ∧ q ≤ nc ∧ Hid (R = contF i (L.drop (i + 1)) ((clsM c (c.kids.drop q)).or (fileM (l.drop (j + 1))))) ∧ Hid (RowAt wr w.heap.size 34 #[.int .i64 0, .int .i64 0, .int .i64 0]) ∧ Hid (Below w.heap.size w wr)) (fun z _ => nc - (intOf z).toNat)
          case atStart => exact ⟨0, rfl, Nat.zero_le _, hR4, hP3, hB3⟩
          case round =>
            clear hR4 hP3 hB3 e8 hc0
            obtain ⟨wi, hwi⟩ : ∃ wi, wi = wr := ⟨_, rfl⟩
            subst hwi
            obtain ⟨q, rfl, hq, hRq, hP5, hB5⟩ := hrel
            have hs5 := hB5.out.size
            have hP5l := hP5.out.lt
            by_cases hlq : q < nc
            · obtain ⟨y, hy⟩ : ∃ y, c.kids[q]? = some y := ⟨_, List.getElem?_eq_getElem (by rw [hnc.out]; exact hlq)⟩
              obtain ⟨yb, yo, ykv, rfl, csy, hky⟩ := HXC.out q y hy
              have hyc : y.cnt ≤ 2000000 := by have h1 := cntL_mem (List.mem_of_getElem? hy); have h2 := cnt_kids c; omega
              have hRq2 := hRq.out
              rw [drop_at hy, clsM] at hRq2
              have HRQ := Lib.hid hRq2
              obtain ⟨ay, cy, hykv, hcy1, hcy2, hxy⟩ := hky.get
              subst hykv
              have HXY := Lib.hid hxy
              obtain ⟨ny, hny⟩ : ∃ n, Hid (y.kids.length = n) := ⟨_, Lib.hid rfl⟩
              have HCY := Lib.hid (fun U (hU : Below w.heap.size w U) => csy.later hU)
              rw [hny.out] at HCY hcy1
              unfold maxLen at hcy2
              have hnylen : ny ≤ 2000000 := by have h1 := cntL_len y.kids; have h2 := cnt_kids y; rw [hny.out] at h1; omega
              have i1 : (q : Int) < (nc : Int) := by omega
              have i0 : (0 : Int) ≤ (q : Int) := by omega
              have hc0 := HC0.out wi hB5.out
              have ck0 := (HCS.out wi hB5.out).c0
              have yk0 := (HCY.out wi hB5.out).c0
              have yk8 := (HCY.out wi hB5.out).c8
              rw [hkc.out] at ck0
              obtain ⟨ky, hkk⟩ : ∃ k, Hid (y.hd.kind = k) := ⟨_, Lib.hid rfl⟩
              rw [hkk.out] at yk0
              have NEXT : Hid ((memM c y).1 = 0 → R = contF i (L.drop (i + 1)) ((clsM c (c.kids.drop (q + 1))).or (fileM (l.drop (j + 1))))) := Lib.hid (fun h => by rw [HRQ.out, if_neg (by rw [h]; simp)])
              clear hy csy hky hRq2 hRq hxy
              by_cases k1 : kc = 1
              · have f1 : (kc != 1) = false := by simpa using k1
                by_cases k3 : ky = 3
                · have f3 : (ky != 3) = false := by simpa using k3
                  by_cases ky0 : ny = 0
                  · have hR6 := Lib.hid (NEXT.out (by unfold memM; rw [if_pos (.inr (.inr (List.length_eq_zero_iff.1 (hny.out.trans ky0))))]))
                    have f8 : ((ny : Int) == 0) = true := by simpa using ky0
                    have K := Lib.hid k1
                    have K3 := Lib.hid k3
                    have KY := Lib.hid ky0
                    clear k1 k3 ky0
                    go_wp2_with fail
                    exact ⟨⟨q + 1, by go_num, by omega, hR6, hP5, hB5⟩, by simp [intOf]; omega⟩
                  · have f8 : ((ny : Int) == 0) = false := by simp; omega
                    obtain ⟨B, hBl⟩ : ∃ B, y.kids.getLast? = some B := by
                      cases hl9 : y.kids.getLast? with
                      | none => exact absurd (by rw [List.getLast?_eq_none_iff.1 hl9]; rfl : y.kids.length = 0) (by rw [hny.out]; exact ky0)
                      | some B => exact ⟨B, rfl⟩
                    have hlast := last_at hBl
                    rw [hny.out] at hlast
                    obtain ⟨pb, hpb⟩ : ∃ p : Nat, Hid (p = ny - 1) := ⟨_, Lib.hid rfl⟩
                    rw [← hpb.out] at hlast
                    obtain ⟨bb, bo, bv, rfl, csb, hkb⟩ := HXY.out pb B hlast
                    have hBc : B.cnt ≤ 2000000 := by have h1 := cntL_mem (List.mem_of_getElem? hlast); have h2 := cnt_kids y; omega
                    have hmm : Hid (memM c y = bodM y B) := Lib.hid (by
                      unfold memM methM
                      rw [if_neg (fun h => by
                        rcases h with h | h | h
                        · exact h (hkc.out.trans k1)
                        · exact h (hkk.out.trans k3)
                        · rw [h] at hny; exact ky0 (hny.out.symm.trans rfl)), hBl])
                    obtain ⟨ab, cb, hbv, hcb1, hcb2, -⟩ := hkb.get
                    have HKB := Lib.hid hkb
                    subst hbv
                    obtain ⟨nb, hnb⟩ : ∃ n, Hid (B.kids.length = n) := ⟨_, Lib.hid rfl⟩
                    have HCB := Lib.hid (fun U (hU : Below w.heap.size w U) => csb.later hU)
                    rw [hnb.out] at HCB HKB
                    have CD := Lib.hid (RefDead_at w B (.slice ab nb cb) HKB.out)
                    have CE := Lib.hid (RefEnds_at w B (.slice ab nb cb) HKB.out)
                    have q1 : (ny : Int) - 1 = (pb : Int) := by have := hpb.out; omega
                    have q2 : IntKind.i64.wrap (pb : Int) = (pb : Int) := Go.IntWalk.i64_in _ (by have := hpb.out; omega)
                    have q3 : (pb : Int) < (ny : Int) := by have := hpb.out; omega
                    have q4 : (0 : Int) ≤ (pb : Int) := by omega
                    have K := Lib.hid k1
                    have K3 := Lib.hid k3
                    have KY := Lib.hid ky0
                    clear k1 k3 ky0 hBl hlast csb hkb
                    go_upto_region 12 with fail
                    obtain ⟨d0, d1, d2, d3, d4, d5, d6, d7, d8⟩ := HCB.out wi hB5.out
                    have bA : Below w.heap.size w (wi.alloc (.cells #[.int .i64 0, .string ⟨#[]⟩, .string ⟨#[]⟩, .int .i64 0, .int .i64 0, .int .i64 0, .int .i64 0, .int .i64 0, .slice none 0 0] 44)) := hB5.out.alloc hs5 _
                    have a8 := (HCY.out (wi.alloc (.cells #[.int .i64 0, .string ⟨#[]⟩, .string ⟨#[]⟩, .int .i64 0, .int .i64 0, .int .i64 0, .int .i64 0, .int .i64 0, .slice none 0 0] 44)) bA).c8
                    obtain ⟨a0, a1, a2, a3, a4, a5, a6, a7, a9⟩ := HCB.out (wi.alloc (.cells #[.int .i64 0, .string ⟨#[]⟩, .string ⟨#[]⟩, .int .i64 0, .int .i64 0, .int .i64 0, .int .i64 0, .int .i64 0, .slice none 0 0] 44)) bA
                    have RA := RowAt.new wi 44 #[.int .i64 0, .string ⟨#[]⟩, .string ⟨#[]⟩, .int .i64 0, .int .i64 0, .int .i64 0, .int .i64 0, .int .i64 0, .slice none 0 0]
                    have v0 := RA.frozen 0
                    have v1 := RA.frozen 1
                    have v2 := RA.frozen 2
                    have v3 := RA.frozen 3
                    have v4 := RA.frozen 4
                    have v5 := RA.frozen 5
                    have v6 := RA.frozen 6
                    have v7 := RA.frozen 7
                    have v8 := RA.frozen 8
                    clear bA RA
                    go_region
                    go_upto_region 13 with fail
                    refine wp_gen (fun W => RowAt W w.heap.size 34 #[.int .i64 0, .int .i64 0, .int .i64 0] ∧ RowAt W wi.heap.size 44 (B.hd.vals (.slice ab nb cb)) ∧ Below w.heap.size w W) ⟨hP5.out.alloc _, RowAt.new wi 44 (B.hd.vals (.slice ab nb cb)), below_drew (hB5.out.alloc hs5 _)⟩ ?_
                    rintro W6 ⟨p6, rb6, b6⟩
                    clear d0 d1 d2 d3 d4 d5 d6 d7 d8 a0 a1 a2 a3 a4 a5 a6 a7 a8 a9 v0 v1 v2 v3 v4 v5 v6 v7 v8 hc0 ck0 yk0 yk8
                    have P6 := Lib.hid p6
                    have RB6 := Lib.hid rb6
                    have B6 := Lib.hid b6
                    obtain ⟨d0, d1, d2, d3, d4, d5, d6, d7, d8⟩ := (show Cells W6 wi.heap.size 0 B.hd (.slice ab nb cb) from Cells.row rb6)
                    simp only [Nat.zero_add] at d1 d2 d3 d4 d5 d6 d7 d8
                    clear p6 rb6 b6
                    have hs6 := B6.out.size
                    go_wp2_with fail
                    refine (CD.out W6 B6.out).mono ?_
                    rintro e w7 ⟨⟨xv, rfl, hkx⟩, b7⟩
                    obtain ⟨ax, cx, rfl, -⟩ := hkx.get
                    obtain ⟨dx, hdx⟩ : ∃ r, Hid (deadN B = r) := ⟨_, Lib.hid rfl⟩
                    rw [hdx.out]
                    obtain ⟨x, hxx⟩ : ∃ x, Hid (dx.getD zN = x) := ⟨_, Lib.hid rfl⟩
                    rw [hxx.out]
                    obtain ⟨nx, hnx⟩ : ∃ n, Hid (x.kids.length = n) := ⟨_, Lib.hid rfl⟩
                    rw [hnx.out]
                    have P7 := Lib.hid (P6.out.later b7)
                    have RB7 := Lib.hid (RB6.out.later b7)
                    have B7 := Lib.hid (B6.out.trans (b7.mono hs6))
                    have hs7 := B7.out.size
                    clear b7 hkx d0 d1 d2 d3 d4 d5 d6 d7 d8
                    go_upto_region 14 with fail
                    refine wp_gen (fun W => RowAt W w.heap.size 34 #[.int .i64 0, .int .i64 0, .int .i64 0] ∧ RowAt W wi.heap.size 44 (B.hd.vals (.slice ab nb cb)) ∧ W.cell? ⟨w7.heap.size, 4, none⟩ = some (.int .i64 x.hd.fr) ∧ Below w.heap.size w W) ⟨P7.out.alloc _, RB7.out.alloc _, (RowAt.new w7 44 (x.hd.vals (.slice ax nx cx))).cell rfl, B7.out.alloc hs7 _⟩ ?_
                    rintro W8 ⟨p8, rb8, c4, b8⟩
                    have P8 := Lib.hid p8
                    have RB8 := Lib.hid rb8
                    have B8 := Lib.hid b8
                    clear p8 rb8 b8
                    cases dx with
                    | some x' =>
                      obtain rfl : x' = x := hxx.out
                      have hRs : Hid (R = some (191, i, x'.hd.fr)) := Lib.hid (by
                        have hb : bodM y B = (191, x'.hd.fr) := by unfold bodM; rw [hdx.out]
                        rw [HRQ.out, if_pos (by rw [hmm.out, hb]; simp), hmm.out, hb]; rfl)
                      have y0 := P8.out.frozen 0
                      have s0 : W8.cell? ⟨w.heap.size, 0, none⟩ = some (.int .i64 0) := P8.out.cell rfl
                      have y1 := P8.out.frozen 1
                      have s1 : W8.cell? ⟨w.heap.size, 1, none⟩ = some (.int .i64 0) := P8.out.cell rfl
                      have y2 := P8.out.frozen 2
                      have s2 : W8.cell? ⟨w.heap.size, 2, none⟩ = some (.int .i64 0) := P8.out.cell rfl
                      go_wp2_with fail
                      (try simp only [Exit.inBlock, Exit.then, Exit.noGoto])
                      obtain ⟨k2, k3, k4, k5⟩ := three_row P8.out (.int .i64 191) (.int .i64 (i : Nat)) (.int .i64 x'.hd.fr) rfl
                      refine bodyPost_ret (results_cell_row rfl _ _ w.heap.size 34 _ (0, 0) _ rfl k2 Try.underlying34 rfl rfl) rfl ?_
                      exact ⟨by rw [hRs.out]; rfl, B8.out.trans (k5 _ (Nat.le_refl _))⟩
                    | none =>
                      clear c4
                      obtain ⟨d0, d1, d2, d3, d4, d5, d6, d7, d8⟩ := (show Cells W8 wi.heap.size 0 B.hd (.slice ab nb cb) from Cells.row RB8.out)
                      simp only [Nat.zero_add] at d1 d2 d3 d4 d5 d6 d7 d8
                      go_wp2_with fail
                      refine (CE.out W8 B8.out).mono ?_
                      rintro e w9 ⟨rfl, b9⟩
                      have P9 := Lib.hid (P8.out.later b9)
                      have B9 := Lib.hid (B8.out.trans (b9.mono B8.out.size))
                      clear b9 d0 d1 d2 d3 d4 d5 d6 d7 d8
                      have y2 := (HCY.out w9 B9.out).c2
                      have y6 := (HCY.out w9 B9.out).c6
                      obtain ⟨ne, hne⟩ : ∃ r, Hid (endsN B = r) := ⟨_, Lib.hid rfl⟩
                      rw [hne.out]
                      cases ne with
                      | false =>
                        have hR6 := Lib.hid (NEXT.out (by
                          rw [hmm.out]; unfold bodM; rw [hdx.out]; simp only
                          rw [if_neg (fun h => by have := hne.out.symm.trans h.2; cases this)]))
                        go_wp2_with fail
                        exact ⟨⟨q + 1, by go_num, by omega, hR6, P9, B9⟩, by simp [intOf]; omega⟩
                      | true =>
                        by_cases hv : y.hd.type = sVoid
                        · have hR6 := Lib.hid (NEXT.out (by
                            rw [hmm.out]; unfold bodM; rw [hdx.out]; simp only
                            rw [if_neg (fun h => h.1 hv)]))
                          rw [hv] at y2
                          have cv : (sVoid == [118, 111, 105, 100]) = true := rfl
                          have cv2 : ((bs sVoid).toList == [118, 111, 105, 100]) = true := by rw [Lib.toList_data]; rfl
                          have HV := Lib.hid hv
                          clear hv
                          go_wp2_with fail
                          exact ⟨⟨q + 1, by go_num, by omega, hR6, P9, B9⟩, by simp [intOf]; omega⟩
                        · have hRs : Hid (R = some (190, i, y.hd.at_)) := Lib.hid (by
                            have hb : bodM y B = (190, y.hd.at_) := by unfold bodM; rw [hdx.out]; simp only; rw [if_pos ⟨hv, hne.out⟩]
                            rw [HRQ.out, if_pos (by rw [hmm.out, hb]; simp), hmm.out, hb]; rfl)
                          have HV := Lib.hid hv
                          have cv : (y.hd.type == [118, 111, 105, 100]) = false := by simpa [sVoid] using hv
                          have cv2 : ((bs y.hd.type).toList == [118, 111, 105, 100]) = false := by rw [Lib.toList_data]; simpa [sVoid] using hv
                          clear hv
                          have y0 := P9.out.frozen 0
                          have s0 : w9.cell? ⟨w.heap.size, 0, none⟩ = some (.int .i64 0) := P9.out.cell rfl
                          have y1 := P9.out.frozen 1
                          have s1 : w9.cell? ⟨w.heap.size, 1, none⟩ = some (.int .i64 0) := P9.out.cell rfl
                          have y2 := P9.out.frozen 2
                          have s2 : w9.cell? ⟨w.heap.size, 2, none⟩ = some (.int .i64 0) := P9.out.cell rfl
                          go_wp2_with fail
                          (try simp only [Exit.inBlock, Exit.then, Exit.noGoto])
                          obtain ⟨k2, k3, k4, k5⟩ := three_row P9.out (.int .i64 190) (.int .i64 (i : Nat)) (.int .i64 y.hd.at_) rfl
                          refine bodyPost_ret (results_cell_row rfl _ _ w.heap.size 34 _ (0, 0) _ rfl k2 Try.underlying34 rfl rfl) rfl ?_
                          exact ⟨by rw [hRs.out]; rfl, B9.out.trans (k5 _ (Nat.le_refl _))⟩

                · have f3 : (ky != 3) = true := by simpa using k3
                  have hR6 := Lib.hid (NEXT.out (by unfold memM; rw [if_pos (.inr (.inl (by rw [hkk.out]; exact k3)))]))
                  have K := Lib.hid k1
                  have K3 := Lib.hid k3
                  clear k1 k3
                  go_wp2_with fail
                  exact ⟨⟨q + 1, by go_num, by omega, hR6, hP5, hB5⟩, by simp [intOf]; omega⟩
              · have f1 : (kc != 1) = true := by simpa using k1
                have hR6 := Lib.hid (NEXT.out (by unfold memM; rw [if_pos (.inl (by rw [hkc.out]; exact k1))]))
                have K := Lib.hid k1
                clear k1
                go_wp2_with fail
                exact ⟨⟨q + 1, by go_num, by omega, hR6, hP5, hB5⟩, by simp [intOf]; omega⟩
            · have hqn : q = nc := by omega
              have hR7 : Hid (R = contF i (L.drop (i + 1)) (fileM (l.drop (j + 1)))) := Lib.hid (by
                rw [hRq.out, show c.kids.drop q = [] from List.drop_of_length_le (by rw [hnc.out]; omega)]; rfl)
              have hnq : ¬ ((q : Int) < (nc : Int)) := by omega
              have Hq := Lib.hid hqn
              clear hqn hlq
              go_wp2_with fail
              exact ⟨⟨j + 1, by go_num, by omega, hR7, hP5, hB5⟩, by simp [intOf]; omega⟩
        · have hjm : j = m := by omega
          have hR5 : Hid (R = filesM (i + 1) (L.drop (i + 1))) := Lib.hid (by
            rw [hRj.out, show l.drop j = [] from List.drop_of_length_le (by rw [hm.out]; omega)]; rfl)
          have hnj : ¬ ((j : Int) < (m : Int)) := by omega
          have Hj := Lib.hid hjm
          clear hjm hlj
          go_wp2_with fail
          exact ⟨⟨i + 1, by go_num, by omega, hR5, hP3, hB3⟩, by simp [intOf]; omega⟩
    · have hin : i = n := by omega
      have hRn : Hid (R = none) := Lib.hid (by rw [hRi.out, show L.drop i = [] from List.drop_of_length_le (by rw [hn.out]; omega)]; rfl)
      have hni : ¬ ((i : Int) < (n : Int)) := by omega
      have Hi := Lib.hid hin
      have y0 := hP.out.frozen 0
      have s0 : wo.cell? ⟨w.heap.size, 0, none⟩ = some (.int .i64 0) := hP.out.cell rfl
      have y1 := hP.out.frozen 1
      have s1 : wo.cell? ⟨w.heap.size, 1, none⟩ = some (.int .i64 0) := hP.out.cell rfl
      have y2 := hP.out.frozen 2
      have s2 : wo.cell? ⟨w.heap.size, 2, none⟩ = some (.int .i64 0) := hP.out.cell rfl
      clear hin hlt
      go_wp2_with fail
      obtain ⟨k2, k3, k4, k5⟩ := three_row hP.out (.int .i64 0) (.int .i64 0) (.int .i64 0) rfl
      refine bodyPost_ret (results_cell_row rfl _ _ w.heap.size 34 _ (0, 0) _ rfl k2 Try.underlying34 rfl rfl) rfl ?_
      exact ⟨by rw [hRn.out]; rfl, hB.out.trans (k5 _ (Nat.le_refl _))⟩
end Go.Proofs.Ytbnbmjdjkadgoaa.F
