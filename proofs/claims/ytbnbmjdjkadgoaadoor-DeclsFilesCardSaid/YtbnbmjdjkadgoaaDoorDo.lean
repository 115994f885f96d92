/-
  For the laws of decls: a method, its parameters and locals. Condition: sizes as its theorem asks.
-/
import Derived.Test.YtbnbmjdjkadgoaaDoorDm
import Derived.Test.YtbnbmjdjkadgoaaDoorDa
import Derived.Deep.RegionHeld3
import Derived.Deep.CutRange
namespace Go.Proofs.YtbnbmjdjkadgoaaDoor.D
open Go.RowKit Go.Shelf Go.Maps Go.WideMaps
set_option linter.unusedSimpArgs false
set_option linter.unusedVariables false
abbrev Z34 : Obj := .cells #[.int .i64 0, .string ⟨#[]⟩, .string ⟨#[]⟩, .string ⟨#[]⟩, .string ⟨#[]⟩, .bool false, .slice none 0 0, .int .i64 0, .int .i64 0] 34
/-- The nine cells of a node at block b. -/
def Nine (W : World) (b : Nat) (h : Hd) (v : Value) : Prop := W.cell? ⟨b, 0, none⟩ = some (.int .i64 h.kind) ∧ W.cell? ⟨b, 1, none⟩ = some (.string (bs h.text)) ∧ W.cell? ⟨b, 2, none⟩ = some (.string (bs h.type)) ∧ W.cell? ⟨b, 3, none⟩ = some (.int .i64 h.n) ∧ W.cell? ⟨b, 4, none⟩ = some (.int .i64 h.fr) ∧ W.cell? ⟨b, 5, none⟩ = some (.int .i64 h.to_) ∧ W.cell? ⟨b, 6, none⟩ = some (.int .i64 h.at_) ∧ W.cell? ⟨b, 7, none⟩ = some (.int .i64 h.tat) ∧ W.cell? ⟨b, 8, none⟩ = some v
theorem Nine.row {W : World} {b : Nat} {h : Hd} {v : Value} (r : RowAt W b 55 (h.vals v)) : W.cell? ⟨b, 0, none⟩ = some (.int .i64 h.kind) ∧ W.cell? ⟨b, 1, none⟩ = some (.string (bs h.text)) ∧ W.cell? ⟨b, 2, none⟩ = some (.string (bs h.type)) ∧ W.cell? ⟨b, 3, none⟩ = some (.int .i64 h.n) ∧ W.cell? ⟨b, 4, none⟩ = some (.int .i64 h.fr) ∧ W.cell? ⟨b, 5, none⟩ = some (.int .i64 h.to_) ∧ W.cell? ⟨b, 6, none⟩ = some (.int .i64 h.at_) ∧ W.cell? ⟨b, 7, none⟩ = some (.int .i64 h.tat) ∧ W.cell? ⟨b, 8, none⟩ = some v :=
  ⟨r.cell (j := 0) rfl, r.cell (j := 1) rfl, r.cell (j := 2) rfl, r.cell (j := 3) rfl, r.cell (j := 4) rfl, r.cell (j := 5) rfl, r.cell (j := 6) rfl, r.cell (j := 7) rfl, r.cell (j := 8) rfl⟩
theorem idM_bs (o : ByteArray) (t : B8) : bs (idM (tl o) t) = o ++ ⟨#[46]⟩ ++ bs t ++ ⟨#[40, 41]⟩ := by
  apply ByteArray.ext
  simp [idM, tl]
theorem RunIs.from {w w5 w' : World} {N bl bm bt mb : Nat} {v v5 : Value} {R : List En × Option En} {e : Ending} (h : Tz bl bm mb v.ownBlock w w5) (ho : v5.ownBlock = v.ownBlock ∨ ∃ g, v5.ownBlock = some g ∧ w.heap.size ≤ g) (hr : RunIs w5 N bl bm bt mb v5 R e w') : RunIs w N bl bm bt mb v R e w' := by
  obtain ⟨R1, R2⟩ := R
  obtain ⟨h1, h2⟩ := hr
  refine ⟨h.trans h1 ho, ?_⟩
  cases R2 with
  | none =>
    obtain ⟨k1, v', ps', k2, k3, k4⟩ := h2
    refine ⟨k1, v', ps', k2, k3, ?_⟩
    rcases k4 with k4 | ⟨g, k4, k5⟩
    · rw [k4]; exact ho
    · exact .inr ⟨g, k4, Nat.le_trans h.size k5⟩
  | some x => exact h2
def prmK (ks : List Nd) : List B8 := (ks.filter fun k => kd k == 4).map fun k => k.hd.type
theorem prmK_yes {ks : List Nd} {i : Nat} {x : Nd} (h : ks[i]? = some x) (hx : x.hd.kind = 4) : prmK (ks.take (i + 1)) = prmK (ks.take i) ++ [x.hd.type] := by
  unfold prmK
  rw [List.take_add_one, h, List.filter_append, List.map_append]
  simp [kd, hx]
theorem prmK_no {ks : List Nd} {i : Nat} {x : Nd} (h : ks[i]? = some x) (hx : x.hd.kind ≠ 4) : prmK (ks.take (i + 1)) = prmK (ks.take i) := by
  unfold prmK
  rw [List.take_add_one, h, List.filter_append, List.map_append]
  simp [kd, hx]
theorem prmK_le (ks : List Nd) (i : Nat) : (prmK (ks.take i)).length ≤ ks.length := by
  unfold prmK
  rw [List.length_map]
  exact Nat.le_trans (List.length_filter_le _ _) (by rw [List.length_take]; omega)
theorem info9 : (Tryd.prog.info? 9).map (fun i => (i.zero, i.size, i.bytes)) = some (some (.string ⟨#[]⟩), 1, 16) := by kernel_rfl
set_option maxRecDepth 100000 in
set_option maxHeartbeats 64000000 in
theorem method_any (file : Int) (n : Nd) (ka : Option Addr) (kn kc : Nat) (owner : ByteArray) (ho : owner.size ≤ 20000000) (w0 w : World) (hw0 : Below w0.heap.size w0 w) (hk : KidsAt w0 n.kids (.slice ka kn kc))
    (P : Nd → Prop) (hP : ∀ t, P t → t.hd.text.length ≤ 20000000 ∧ t.kids.length ≤ 1000000 ∧ ∀ k ∈ t.kids, P k) (hn : P n) (hnk : kd n = 3) (hcnt : n.cnt ≤ 900000)
    (N bl bm bt mb : Nat) (hT : Tb w0.heap.size N bl bm bt mb) (v : Value) (ps : List Pe) (hA : AddSt w N bl bm bt mb v ps) (hps : ps.length + 1 + n.cnt ≤ 1000000) (hpow : Pow w0) :
    Calls Tryd.prog 33 #[.int .i64 file, .agg #[.int .i64 n.hd.kind, .string (bs n.hd.text), .string (bs n.hd.type), .int .i64 n.hd.n, .int .i64 n.hd.fr, .int .i64 n.hd.to_, .int .i64 n.hd.at_, .int .i64 n.hd.tat, .slice ka kn kc], .string owner, .func (.func 21) #[] #[.pointer (some ⟨bt, 0, none⟩), .pointer (some ⟨bm, 0, none⟩), .pointer (some ⟨bl, 0, none⟩)]] w
      fun e w' => RunIs w N bl bm bt mb v (runs (ps.map (·.1)) (memEv file (tl owner) n)) e w' := by
  obtain ⟨R, hR⟩ : ∃ R, Hid (runs (ps.map (·.1)) (memEv file (tl owner) n) = R) := ⟨_, Lib.hid rfl⟩
  rw [hR.out]
  have hnl : isLoc n = false := by unfold isLoc; rw [hnk]; rfl
  have HPn := hP n hn
  have ht := HPn.1
  obtain ⟨ka', kc', hkv, hkl, hkcm, hkx⟩ := hk.get
  obtain ⟨rfl, rfl, rfl⟩ : ka = ka' ∧ kn = n.kids.length ∧ kc = kc' := by injection hkv with h1 h2 h3; exact ⟨h1, h2, h3⟩
  clear hkv
  have HKX := Lib.hid hkx
  have HK := Lib.hid hk
  obtain ⟨kn, hkn⟩ : ∃ x, Hid (n.kids.length = x) := ⟨_, Lib.hid rfl⟩
  rw [hkn.out] at hkl HK ⊢
  have hkn1 : kn ≤ 1000000 := by rw [← hkn.out]; exact HPn.2.1
  unfold maxLen at hkcm
  obtain ⟨nb, hnb⟩ : ∃ x, Hid (w.heap.size = x) := ⟨_, Lib.hid rfl⟩
  obtain ⟨W1, hW1⟩ : ∃ W1, Hid (w.alloc (.cells #[.int .i64 n.hd.kind, .string (bs n.hd.text), .string (bs n.hd.type), .int .i64 n.hd.n, .int .i64 n.hd.fr, .int .i64 n.hd.to_, .int .i64 n.hd.at_, .int .i64 n.hd.tat, .slice ka kn kc] 55) = W1) := ⟨_, Lib.hid rfl⟩
  have R1 : Hid (RowAt W1 nb 55 (n.hd.vals (.slice ka kn kc))) := by rw [← hW1.out, ← hnb.out]; exact Lib.hid (RowAt.new w 55 _)
  have BW1 : Hid (Below w.heap.size w W1) := by rw [← hW1.out]; exact Lib.hid ((Below.refl _ w).alloc (Nat.le_refl _) _)
  have hS1 : Hid (W1.heap.size = nb + 1) := Lib.hid (by rw [← hW1.out, World.size_alloc, hnb.out])
  obtain ⟨idv, hid⟩ : ∃ s, Hid (owner ++ ⟨#[46]⟩ ++ bs n.hd.text ++ ⟨#[40, 41]⟩ = s) := ⟨_, Lib.hid rfl⟩
  have hidv : Hid (bs (idM (tl owner) n.hd.text) = idv) := Lib.hid (by rw [idM_bs, hid.out])
  have hidt : Hid (tl idv = idM (tl owner) n.hd.text) := Lib.hid (by rw [← hidv.out, tl_bs])
  have hids : Hid (idv.size ≤ 50000000) := Lib.hid (by
    rw [← hidv.out, bs_size]
    unfold idM
    simp only [List.length_append, List.length_cons, List.length_nil, tl_length]
    omega)
  have CM : Hid (∀ W, Calls Tryd.prog 19 #[.string owner, .string (bs n.hd.text)] W fun e w' => e = .returned (.string idv) ∧ w' = W) := Lib.hid (fun W => by rw [← hid.out]; exact Method_any owner (bs n.hd.text) W (by rw [bs_size n.hd.text]; omega))
  have CE : Hid (∀ W, Calls Tryd.prog 32 #[.int .i64 3, .int .i64 file, .agg #[.int .i64 n.hd.kind, .string (bs n.hd.text), .string (bs n.hd.type), .int .i64 n.hd.n, .int .i64 n.hd.fr, .int .i64 n.hd.to_, .int .i64 n.hd.at_, .int .i64 n.hd.tat, .slice ka kn kc], .string idv, .string owner] W fun e w' => e = .returned (.agg #[.int .i64 3, .string idv, .string (bs n.hd.text), .string owner, .string (bs n.hd.type), .bool false, .slice none 0 0, .int .i64 file, .int .i64 n.hd.at_]) ∧ Below W.heap.size W w') := Lib.hid (fun W => entity_any 3 file n.hd ka kn kc idv owner W)
  obtain ⟨sb, hsb⟩ : ∃ b, (n.hd.n == 1) = b := ⟨_, rfl⟩
  have hpn := hA.own.2.1
  have HN : Hid (N ≤ nb) := Lib.hid (by rw [← hnb.out]; exact hpn)
  have HA := Lib.hid hA
  have HP := Lib.hid hP
  have HT := Lib.hid hT
  have HW0 := Lib.hid hw0
  have HPow := Lib.hid hpow
  obtain ⟨i0, hi, hz0, hz1, hz2⟩ := info_parts info9
  have HM : Hid (metE file (tl owner) n = ⟨3, idM (tl owner) n.hd.text, n.hd.text, tl owner, n.hd.type, sb, prmK n.kids, file, n.hd.at_⟩) := Lib.hid (by rw [← hsb]; rfl)
  have HEV : Hid (R = if step (ps.map (·.1)) (metE file (tl owner) n) false then (ps.map (·.1), some (metE file (tl owner) n)) else runs (ps.map (·.1) ++ [metE file (tl owner) n]) (locs file (idM (tl owner) n.hd.text) 0 (evN [] n))) := Lib.hid (by
    rw [← hR.out]
    unfold memEv
    rw [if_neg (by rw [hnk]; decide), if_pos hnk, runs])
  have HNK := Lib.hid hnk
  clear hw0 hT hP hA hpow hkx hk hpn HPn hnk hR
  go_enter Tryd.func33, Tryd.ntmps33
  go_upto_region 1 with fail
  rw [hW1.out, hnb.out]
  go_cut [9] from 12 to 19 (fun c wx => ∃ gb, c = .pointer (some ⟨gb, 0, none⟩) ∧ Hid (RowAt wx gb 34 #[.int .i64 3, .string idv, .string (bs n.hd.text), .string owner, .string (bs n.hd.type), .bool false, .slice none 0 0, .int .i64 file, .int .i64 n.hd.at_]) ∧ Hid (Below W1.heap.size W1 wx) ∧ Hid (W1.heap.size ≤ gb))
  case first =>
    have F0 := Lib.hid (Nine.row R1.out)
    have FD : Hid _ := Lib.hid (Nine.row (show RowAt W1.drew nb 55 (n.hd.vals (.slice ka kn kc)) from R1.out))
    have RA := R1.out.alloc Z34
    have FA := Lib.hid (Nine.row (W := W1.alloc Z34) RA)
    have FAD := Lib.hid (Nine.row (show RowAt (W1.alloc Z34).drew nb 55 (n.hd.vals (.slice ka kn kc)) from RA))
    clear RA
    have hne : Hid (nb ≠ W1.heap.size) := Lib.hid (by have h1 := R1.out.lt; omega)
    have ZA : Hid (RowAt (W1.alloc Z34).drew W1.heap.size 34 #[.int .i64 0, .string ⟨#[]⟩, .string ⟨#[]⟩, .string ⟨#[]⟩, .string ⟨#[]⟩, .bool false, .slice none 0 0, .int .i64 0, .int .i64 0]) := Lib.hid (RowAt.new W1 34 _)
    have BA : Hid (Below W1.heap.size W1 (W1.alloc Z34).drew) := Lib.hid (below_drew ((Below.refl _ _).alloc (Nat.le_refl _) _))
    have R1AD : Hid (RowAt (W1.alloc Z34).drew nb 55 (n.hd.vals (.slice ka kn kc))) := Lib.hid (R1.out.alloc Z34)
    have R1D : Hid (RowAt W1.drew nb 55 (n.hd.vals (.slice ka kn kc))) := Lib.hid R1.out
    have BD : Hid (Below W1.heap.size W1 W1.drew) := Lib.hid (below_drew (Below.refl _ _))
    go_region_held3 (fun W => W.cell? ⟨nb, 0, none⟩ = some (.int .i64 n.hd.kind) ∧ W.cell? ⟨nb, 1, none⟩ = some (.string (bs n.hd.text)) ∧ W.cell? ⟨nb, 2, none⟩ = some (.string (bs n.hd.type)) ∧ W.cell? ⟨nb, 3, none⟩ = some (.int .i64 n.hd.n) ∧ W.cell? ⟨nb, 4, none⟩ = some (.int .i64 n.hd.fr) ∧ W.cell? ⟨nb, 5, none⟩ = some (.int .i64 n.hd.to_) ∧ W.cell? ⟨nb, 6, none⟩ = some (.int .i64 n.hd.at_) ∧ W.cell? ⟨nb, 7, none⟩ = some (.int .i64 n.hd.tat) ∧ W.cell? ⟨nb, 8, none⟩ = some (.slice ka kn kc))
      (first | (with_reducible exact F0.out) | (with_reducible exact FD.out) | (with_reducible exact FA.out) | (with_reducible exact FAD.out) | (with_reducible exact F5.out) | (with_reducible exact F6.out) | (with_reducible exact F7.out))
      (first | (go_at_call 19; ((with_reducible refine (CM.out _).mono ?_); rintro e w' ⟨rfl, hw⟩; have hw := hw.symm; subst hw)) | (go_at_call 32; ((with_reducible refine (CE.out (W1.alloc Z34).drew).mono ?_); rintro e wf ⟨rfl, bf⟩; have F5 := Lib.hid (Nine.row (R1AD.out.later bf)); have Z5 := ZA.out.later bf; have NN := Lib.hid (@nineE wf W1.heap.size _ _ _ _ _ _ _ _ _ Z5 (.int .i64 3) (.string idv) (.string (bs n.hd.text)) (.string owner) (.string (bs n.hd.type)) (.bool false) (.slice none 0 0) (.int .i64 file) (.int .i64 n.hd.at_) _ rfl); have F7 := Lib.hid (Nine.row (RowAt.same (R1AD.out.later bf) (NN.out.2.2.1 nb hne.out))); have B5 := Lib.hid (BA.out.trans (bf.mono BA.out.size)); have d0 : wf.cell? ⟨W1.heap.size, 0, none⟩ = some (.int .i64 0) := Z5.cell rfl; have z0 := Z5.frozen 0; have d1 : wf.cell? ⟨W1.heap.size, 1, none⟩ = some (.string ⟨#[]⟩) := Z5.cell rfl; have z1 := Z5.frozen 1; have d2 : wf.cell? ⟨W1.heap.size, 2, none⟩ = some (.string ⟨#[]⟩) := Z5.cell rfl; have z2 := Z5.frozen 2; have d3 : wf.cell? ⟨W1.heap.size, 3, none⟩ = some (.string ⟨#[]⟩) := Z5.cell rfl; have z3 := Z5.frozen 3; have d4 : wf.cell? ⟨W1.heap.size, 4, none⟩ = some (.string ⟨#[]⟩) := Z5.cell rfl; have z4 := Z5.frozen 4; have d5 : wf.cell? ⟨W1.heap.size, 5, none⟩ = some (.bool false) := Z5.cell rfl; have z5 := Z5.frozen 5; have d6 : wf.cell? ⟨W1.heap.size, 6, none⟩ = some (.slice none 0 0) := Z5.cell rfl; have z6 := Z5.frozen 6; have d7 : wf.cell? ⟨W1.heap.size, 7, none⟩ = some (.int .i64 0) := Z5.cell rfl; have z7 := Z5.frozen 7; have d8 : wf.cell? ⟨W1.heap.size, 8, none⟩ = some (.int .i64 0) := Z5.cell rfl; have z8 := Z5.frozen 8; clear Z5 bf)) | (go_at_call 32; ((with_reducible refine (CE.out W1.drew).mono ?_); rintro e wf ⟨rfl, bf⟩; have F5 := Lib.hid (Nine.row (R1D.out.later bf)); have F6 := Lib.hid (Nine.row (W := wf.alloc Z34) ((R1D.out.later bf).alloc Z34)); have F7 := Lib.hid (Nine.row (W := wf.alloc (.cells #[.int .i64 3, .string idv, .string (bs n.hd.text), .string owner, .string (bs n.hd.type), .bool false, .slice none 0 0, .int .i64 file, .int .i64 n.hd.at_] 34)) ((R1D.out.later bf).alloc _)); have B5 := Lib.hid (BD.out.trans (bf.mono BD.out.size)); clear bf)))
    all_goals
      go_wp2_with fail
      go_meet
      first
        | exact ⟨_, rfl, Lib.hid NN.out.1, Lib.hid (B5.out.trans (NN.out.2.2.2 _ (Nat.le_refl _))), Lib.hid (Nat.le_refl _)⟩
        | exact ⟨_, rfl, Lib.hid (RowAt.new wf 34 _), Lib.hid (B5.out.alloc (by have := B5.out.size; omega) _), Lib.hid B5.out.size⟩
  case rest =>
    obtain ⟨gb, rfl, RG, BG, hgl⟩ := hcut
    have RN := Lib.hid (R1.out.later BG.out)
    have hgn : gb ≠ nb := row_ne RG.out RN.out (by decide)
    have hgb : Hid (nb < gb) := Lib.hid (by have h1 := hgl.out; have h2 := hS1.out; omega)
    have q3 : wc.cell? ⟨nb, 3, none⟩ = some (.int .i64 n.hd.n) := RN.out.cell (j := 3) rfl
    have q5 : wc.cell? ⟨gb, 5, none⟩ = some (.bool false) := RG.out.cell rfl
    have f5 := RG.out.frozen 5
    have HR0 : Hid (RowAt (wc.setCell ⟨gb, 5, none⟩ (.bool sb)) gb 34 #[.int .i64 3, .string idv, .string (bs n.hd.text), .string owner, .string (bs n.hd.type), .bool sb, .slice none 0 0, .int .i64 file, .int .i64 n.hd.at_] ∧ RowAt (wc.setCell ⟨gb, 5, none⟩ (.bool sb)) nb 55 (n.hd.vals (.slice ka kn kc)) ∧ Below w.heap.size w (wc.setCell ⟨gb, 5, none⟩ (.bool sb))) := Lib.hid ⟨RG.out.set 5 _, RN.out.other (Ne.symm hgn) 5 _, (BW1.out.trans (BG.out.mono BW1.out.size)).setCell (p := ⟨gb, 5, none⟩) (by have h1 := hgb.out; have h2 := hnb.out; show w.heap.size ≤ gb; omega) _⟩
    go_upto_region 3 with fail
    refine X.wp_gen (fun V => RowAt V gb 34 #[.int .i64 3, .string idv, .string (bs n.hd.text), .string owner, .string (bs n.hd.type), .bool sb, .slice none 0 0, .int .i64 file, .int .i64 n.hd.at_] ∧ RowAt V nb 55 (n.hd.vals (.slice ka kn kc)) ∧ Below w.heap.size w V) HR0.out ?_
    rintro V ⟨rg, rn, bv_⟩
    have HRG := Lib.hid rg
    have HRN := Lib.hid rn
    have HBV := Lib.hid bv_
    have q8 : V.cell? ⟨nb, 8, none⟩ = some (.slice ka kn kc) := rn.cell (j := 8) rfl
    clear q3 q5 f5 HR0 rg rn bv_ hsb
    go_wp2_with fail
    go_loopw [27] (fun c wr => ∃ (k m : Nat) (pa : Option Addr) (pc : Nat), c = .int .i64 k ∧ k ≤ kn ∧ m ≤ kn ∧ Hid ((prmK (n.kids.take k)).length = m) ∧ Hid (RowAt wr gb 34 #[.int .i64 3, .string idv, .string (bs n.hd.text), .string owner, .string (bs n.hd.type), .bool sb, .slice pa m pc, .int .i64 file, .int .i64 n.hd.at_]) ∧ Hid (wr.ownsRow nb 9 1 (.slice pa m pc) m ((prmK (n.kids.take k)).map fun s => .string (bs s))) ∧ Hid (RowAt wr nb 55 (n.hd.vals (.slice ka kn kc))) ∧ Hid (Below w.heap.size w wr)) (fun c _ => kn - (intOf c).toNat)
    case atStart => exact ⟨0, 0, none, 0, rfl, by omega, by omega, Lib.hid rfl, HRG, Lib.hid (World.ownsRow_nil _ _ _ _), HRN, HBV⟩
    case round =>
      clear q8
      obtain ⟨k, m, pa, pc, rfl, hk, hmk, hm, hRG, hOw, hRN, hB⟩ := hrel
      have hsw := hB.out.size
      by_cases hlt : k < kn
      · obtain ⟨x, hx⟩ : ∃ x, n.kids[k]? = some x := ⟨_, List.getElem?_eq_getElem (by rw [hkn.out]; exact hlt)⟩
        obtain ⟨xb, xo, xv, hka, xcs, xks⟩ := HKX.out k x hx
        subst hka
        have Bw := Lib.hid (HW0.out.trans (hB.out.mono HW0.out.size))
        obtain ⟨xa, xc, hxv, -⟩ := xks.get
        subst hxv
        obtain ⟨d0, d1, d2, d3, d4, d5, d6, d7, d8⟩ := xcs.later Bw.out
        obtain ⟨qb, hqb⟩ : ∃ b, Hid (wr.heap.size = b) := ⟨_, Lib.hid rfl⟩
        obtain ⟨xn, hxn⟩ : ∃ y, Hid (x.kids.length = y) := ⟨_, Lib.hid rfl⟩
        rw [hxn.out] at d8
        have HX := Lib.hid hx
        have i1 : (0 : Int) ≤ (k : Int) := by omega
        have i2 : (k : Int) < (kn : Int) := by omega
        clear xcs xks hx
        go_upto_region 6 with fail
        refine X.wp_gen (fun X => RowAt X gb 34 #[.int .i64 3, .string idv, .string (bs n.hd.text), .string owner, .string (bs n.hd.type), .bool sb, .slice pa m pc, .int .i64 file, .int .i64 n.hd.at_] ∧ X.ownsRow nb 9 1 (.slice pa m pc) m ((prmK (n.kids.take k)).map fun s => .string (bs s)) ∧ RowAt X nb 55 (n.hd.vals (.slice (some ⟨xb, xo, none⟩) kn kc)) ∧ RowAt X qb 55 (x.hd.vals (.slice xa xn xc)) ∧ Below w.heap.size w X) ⟨hRG.out.alloc _, hOw.out.alloc _, hRN.out.alloc _, X.row_new hqb.out.symm, hB.out.alloc hsw _⟩ ?_
        rw [hqb.out]
        rintro X ⟨xg, xo_, xr, xq, xB⟩
        have HG := Lib.hid xg
        have HO := Lib.hid xo_
        have HR := Lib.hid xr
        have HB := Lib.hid xB
        have c0 : X.cell? ⟨qb, 0, none⟩ = some (.int .i64 x.hd.kind) := xq.cell (j := 0) rfl
        have c2 : X.cell? ⟨qb, 2, none⟩ = some (.string (bs x.hd.type)) := xq.cell (j := 2) rfl
        have c6 : X.cell? ⟨gb, 6, none⟩ = some (.slice pa m pc) := xg.cell rfl
        have hXs : nb ≤ X.heap.size := by have h1 := xB.size; have h2 := hnb.out; omega
        clear d0 d1 d2 d3 d4 d5 d6 d7 d8 xg xo_ xr xq xB
        by_cases h4 : x.hd.kind = 4
        · have g4 : (x.hd.kind == 4) = true := by simpa using h4
          have hp := Lib.hid (prmK_yes HX.out h4)
          have hnog : some gb ≠ (Value.slice pa m pc).ownBlock := own_ne HO.out HG.out (by decide)
          have hnon : some nb ≠ (Value.slice pa m pc).ownBlock := own_ne HO.out HR.out (by decide)
          have Hnog := Lib.hid hnog
          have Hnon := Lib.hid hnon
          clear h4 hnog hnon
          go_wp2_with (at_builtin; refine wpList_append_lies _ rfl _ _ 22 rfl nb 9 i0 _ 1 16 Tryd.underlying22 hi hz0 hz1 hz2 rfl (by decide) (.slice pa m pc) m _ rfl (HO.out.alloc _) ⟨X.heap.size, 0, none⟩ 1 1 [.string (bs x.hd.type)] rfl rfl (World.news_of_block (heap_alloc_new X _)) (by simp [Value.oneCell']) (by decide) (by unfold maxLen; omega) (by omega) (by simp; omega) (X.heap.size + 1) (by simp) ?_; intro g' c' w5 hown hgrow hat hlt9; have HO5 := Lib.hid hown; have HG5 := Lib.hid hgrow; have RG5 := RowAt.same (HG.out.alloc _) (hgrow.block gb (HG.out.alloc _).lt Hnog.out); have RN5 := Lib.hid (RowAt.same (HR.out.alloc _) (hgrow.block nb (HR.out.alloc _).lt Hnon.out)); have e6 : w5.cell? ⟨gb, 6, none⟩ = some (.slice pa m pc) := RG5.cell rfl; have z6 := RG5.frozen 6; have HRG5 := Lib.hid RG5; clear hown hgrow hat RG5)
          have Hne5 : Hid (gb ≠ g') := Lib.hid (by have h1 := own_ne HO5.out HRG5.out (by decide); intro e; exact h1 (by rw [e]; rfl))
          go_roundw
          case rel =>
            refine ⟨k + 1, m + 1, some ⟨g', 0, none⟩, c', by go_num, by omega, (by have h1 := prmK_le n.kids (k + 1); rw [hp.out, List.length_append, hm.out, hkn.out] at h1; exact h1), Lib.hid (by rw [hp.out, List.length_append, hm.out]; rfl), Lib.hid (HRG5.out.set 6 _), Lib.hid ?_, Lib.hid (RN5.out.other (Ne.symm hgn) 6 _), Lib.hid ?_⟩
            · rw [hp.out, List.map_append]
              refine ⟨HO5.out.1, ?_⟩
              rcases HO5.out.2 with h0 | ⟨g2, cap2, cur, e1, k1, hg2, k2, k3, k4, k5⟩
              · exact .inl h0
              · refine .inr ⟨g2, cap2, cur, e1, k1, ?_, k2, k3, k4, k5⟩
                have e9 : g' = g2 := by injection e1 with h1 _ _; injection h1 with h1; injection h1
                rw [Below.heap_setCell _ _ _ g2 (by have h9 := Hne5.out; rw [e9] at h9; simpa using Ne.symm h9)]
                exact hg2
            · refine ((HB.out.alloc (by have h1 := hnb.out; omega) _).grown HG5.out (by rw [World.size_alloc]; have h1 := hnb.out; omega) (fun b e => ?_)).setCell (p := ⟨gb, 6, none⟩) (by have h1 := hgb.out; have h2 := hnb.out; show w.heap.size ≤ gb; omega) _
              have h1 := (HO.out.lt b e).1
              have h2 := hnb.out
              omega
          case measure => simp [intOf]; omega
        · have g4 : (x.hd.kind == 4) = false := by rw [beq_eq_false_iff_ne]; exact h4
          have hp := Lib.hid (prmK_no HX.out h4)
          clear h4
          go_wp2_with fail
          go_roundw
          case rel => exact ⟨k + 1, m, pa, pc, by go_num, by omega, hmk, Lib.hid (by rw [hp.out]; exact hm.out), HG, Lib.hid (by rw [hp.out]; exact HO.out), HR, HB⟩
          case measure => simp [intOf]; omega
      · obtain rfl : k = kn := by omega
        have hall : Hid (prmK (n.kids.take k) = prmK n.kids) := Lib.hid (by rw [List.take_of_length_le (Nat.le_of_eq hkn.out)])
        have hsup : Hid (SupT wr N (prmK n.kids) (.slice pa m pc) (fun b => (Value.slice pa m pc).ownBlock = some b)) := Lib.hid (by
          have h1 := hOw.out
          rw [hall.out] at h1
          exact (SupT.own h1 (by rw [← hm.out, hall.out])).low HN.out)
        have A1 := Lib.hid (HA.out.later hB.out)
        have CAdd : Hid (Calls Tryd.prog 21 #[.agg #[.int .i64 3, .string idv, .string (bs n.hd.text), .string owner, .string (bs n.hd.type), .bool sb, .slice pa m pc, .int .i64 file, .int .i64 n.hd.at_], .bool false, .pointer (some ⟨bt, 0, none⟩), .pointer (some ⟨bm, 0, none⟩), .pointer (some ⟨bl, 0, none⟩)] wr fun e w' => AddIs wr N bl bm bt mb v ps (metE file (tl owner) n, .slice pa m pc) false e w') := Lib.hid (by
          have h9 := add_any (metE file (tl owner) n) pa m pc false wr N bl bm bt mb v ps A1.out (by rfl) (by rw [HM.out]; show (tl owner).length ≤ _; rw [tl_length]; omega) (by rw [HM.out]; show n.hd.text.length ≤ _; omega) (by omega) _ (by rw [HM.out]; exact hsup.out)
          rw [HM.out] at h9 ⊢
          rw [show bs (⟨3, idM (tl owner) n.hd.text, n.hd.text, tl owner, n.hd.type, sb, prmK n.kids, file, n.hd.at_⟩ : En).id = idv from hidv.out] at h9
          exact h9)
        have a0 : wr.cell? ⟨gb, 0, none⟩ = some (.int .i64 3) := hRG.out.cell rfl
        have a1 : wr.cell? ⟨gb, 1, none⟩ = some (.string idv) := hRG.out.cell rfl
        have a2 : wr.cell? ⟨gb, 2, none⟩ = some (.string (bs n.hd.text)) := hRG.out.cell rfl
        have a3 : wr.cell? ⟨gb, 3, none⟩ = some (.string owner) := hRG.out.cell rfl
        have a4 : wr.cell? ⟨gb, 4, none⟩ = some (.string (bs n.hd.type)) := hRG.out.cell rfl
        have a5 : wr.cell? ⟨gb, 5, none⟩ = some (.bool sb) := hRG.out.cell rfl
        have a6 : wr.cell? ⟨gb, 6, none⟩ = some (.slice pa m pc) := hRG.out.cell rfl
        have a7 : wr.cell? ⟨gb, 7, none⟩ = some (.int .i64 file) := hRG.out.cell rfl
        have a8 : wr.cell? ⟨gb, 8, none⟩ = some (.int .i64 n.hd.at_) := hRG.out.cell rfl
        cases hst : step (ps.map (·.1)) (metE file (tl owner) n) false with
        | true =>
          have hst' := Lib.hid hst
          have HR2 : Hid (R = (ps.map (·.1), some (metE file (tl owner) n))) := Lib.hid (by rw [HEV.out, if_pos hst])
          clear hst
          go_wp2_with fail
          refine CAdd.out.mono ?_
          intro e w5 hadd
          unfold AddIs at hadd
          rw [if_pos hst'.out] at hadd
          obtain ⟨tz5, rfl, rm5⟩ := hadd
          have HTZ5 := Lib.hid tz5
          have HRM5 := Lib.hid rm5
          clear tz5 rm5
          go_wp2_with fail
          go_ret
          exact RunIs.no ((tz_of_below hB.out).trans HTZ5.out (.inl rfl)) HR2.out HRM5.out
        | false =>
          have hst' := Lib.hid hst
          have HR2 : Hid (R = runs ((ps ++ [(metE file (tl owner) n, Value.slice pa m pc)]).map (·.1)) (locs file (idM (tl owner) n.hd.text) 0 (evN [] n))) := Lib.hid (by rw [HEV.out, if_neg (by rw [hst]; exact Bool.false_ne_true), List.map_append]; rfl)
          clear hst
          go_wp2_with fail
          refine CAdd.out.mono ?_
          intro e w5 hadd
          unfold AddIs at hadd
          rw [if_neg (by rw [hst'.out]; exact Bool.false_ne_true)] at hadd
          obtain ⟨tz5, rfl, v5, add5, ob5⟩ := hadd
          have HTZ5 := Lib.hid tz5
          have HADD5 := Lib.hid add5
          have HOB5 := Lib.hid ob5
          have rn5 : RowAt w5 nb 55 (n.hd.vals (.slice ka k kc)) := hRN.out.same (tz5.keep nb hRN.out.lt (row_ne hRN.out A1.out.rl (by decide)) (row_ne hRN.out A1.out.rm (by decide)) (by
            obtain ⟨mm, _, hset⟩ := A1.out.set
            obtain ⟨es, cl, hmap⟩ := hset.map
            exact row_ne_map hRN.out hmap) (own_ne A1.out.own.1 hRN.out (by decide)))
          have rg5 : RowAt w5 gb 34 #[.int .i64 3, .string idv, .string (bs n.hd.text), .string owner, .string (bs n.hd.type), .bool sb, .slice pa m pc, .int .i64 file, .int .i64 n.hd.at_] := hRG.out.same (tz5.keep gb hRG.out.lt (row_ne hRG.out A1.out.rl (by decide)) (row_ne hRG.out A1.out.rm (by decide)) (by
            obtain ⟨mm, _, hset⟩ := A1.out.set
            obtain ⟨es, cl, hmap⟩ := hset.map
            exact row_ne_map hRG.out hmap) (by
              intro e
              have h1 := (HA.out.own.1.lt gb e.symm).2
              have h2 := hgb.out
              have h3 := hnb.out
              omega))
          have e1 : w5.cell? ⟨gb, 1, none⟩ = some (.string idv) := rg5.cell rfl
          have b0 : w5.cell? ⟨nb, 0, none⟩ = some (.int .i64 n.hd.kind) := rn5.cell rfl
          have b1 : w5.cell? ⟨nb, 1, none⟩ = some (.string (bs n.hd.text)) := rn5.cell rfl
          have b2 : w5.cell? ⟨nb, 2, none⟩ = some (.string (bs n.hd.type)) := rn5.cell rfl
          have b3 : w5.cell? ⟨nb, 3, none⟩ = some (.int .i64 n.hd.n) := rn5.cell rfl
          have b4 : w5.cell? ⟨nb, 4, none⟩ = some (.int .i64 n.hd.fr) := rn5.cell rfl
          have b5 : w5.cell? ⟨nb, 5, none⟩ = some (.int .i64 n.hd.to_) := rn5.cell rfl
          have b6 : w5.cell? ⟨nb, 6, none⟩ = some (.int .i64 n.hd.at_) := rn5.cell rfl
          have b7 : w5.cell? ⟨nb, 7, none⟩ = some (.int .i64 n.hd.tat) := rn5.cell rfl
          have b8 : w5.cell? ⟨nb, 8, none⟩ = some (.slice ka k kc) := rn5.cell rfl
          have B5 : Hid (Below w0.heap.size w0 w5) := Lib.hid ((HW0.out.trans (hB.out.mono HW0.out.size)).trans (tz5.below HT.out A1.out.own (by have h1 := HW0.out.size; omega)))
          have CLoc : Hid (Calls Tryd.prog 48 #[.int .i64 file, .agg #[.int .i64 n.hd.kind, .string (bs n.hd.text), .string (bs n.hd.type), .int .i64 n.hd.n, .int .i64 n.hd.fr, .int .i64 n.hd.to_, .int .i64 n.hd.at_, .int .i64 n.hd.tat, .slice ka k kc], .string idv, .func (.func 21) #[] #[.pointer (some ⟨bt, 0, none⟩), .pointer (some ⟨bm, 0, none⟩), .pointer (some ⟨bl, 0, none⟩)]] w5 fun e w' => RunIs w5 N bl bm bt mb v5 R e w') := Lib.hid (by
            have h9 := locals_any file n ka k kc idv hids.out w0 w5 B5.out HK.out P (fun t ht => ⟨Nat.le_trans (HP.out t ht).1 (by omega), (HP.out t ht).2⟩) hn hnl hcnt N bl bm bt mb HT.out v5 _ HADD5.out (by rw [List.length_append, List.length_singleton]; omega) HPow.out
            rw [hidt.out, ← HR2.out] at h9
            exact h9)
          clear tz5 add5 ob5 rn5 rg5 a0 a1 a2 a3 a4 a5 a6 a7 a8
          go_wp2_with fail
          refine CLoc.out.mono ?_
          intro e w6 hrun
          have HF := Lib.hid (RunIs.from ((tz_of_below hB.out).trans HTZ5.out (.inl rfl)) (by
            rcases HOB5.out with h1 | ⟨g2, h1, h2⟩
            · exact .inl h1
            · exact .inr ⟨g2, h1, by omega⟩) hrun)
          clear hrun
          obtain ⟨rb, hrb⟩ : ∃ b, e = .returned (.bool b) := by
            have h1 := HF.out.2
            cases hR2 : R.2 with
            | none => rw [hR2] at h1; exact ⟨_, h1.1⟩
            | some y => rw [hR2] at h1; exact ⟨_, h1.1⟩
          subst hrb
          go_wp2_with fail
          go_ret
          exact HF.out
end Go.Proofs.YtbnbmjdjkadgoaaDoor.D
/-
  For the laws of decls: a class, its fields and methods. Condition: sizes as its theorem asks.
-/
namespace Go.Proofs.YtbnbmjdjkadgoaaDoor.D
open Go.RowKit Go.Shelf Go.Maps Go.WideMaps
set_option linter.unusedSimpArgs false
set_option linter.unusedVariables false
theorem tz_row {wr w5 : World} {N bl bm bt mb b : Nat} {v : Value} {ps : List Pe} {ty : TypeId} {cs : Array Value} (A : AddSt wr N bl bm bt mb v ps) (t : Tz bl bm mb v.ownBlock wr w5) (r : RowAt wr b ty cs) (h1 : ty ≠ 27) (h2 : ty ≠ 30) (h3 : ty ≠ 34) : RowAt w5 b ty cs :=
  r.same (t.keep b r.lt (row_ne r A.rl h1) (row_ne r A.rm h2) (by
    obtain ⟨mm, _, hset⟩ := A.set
    obtain ⟨es, cl, hmap⟩ := hset.map
    exact row_ne_map r hmap) (own_ne A.own.1 r h3))
theorem idF_bs (o : ByteArray) (t : B8) : bs (idF (tl o) t) = o ++ ⟨#[46]⟩ ++ bs t := by
  apply ByteArray.ext
  simp [idF, tl]
theorem runs_none {out : List En} {a : List (En × Bool)} (h : (runs out a).2 = none) : (runs out a).1 = out ++ a.map (·.1) := by
  induction a generalizing out with
  | nil => rw [runs]; simp
  | cons x a ih =>
    obtain ⟨e, tw⟩ := x
    rw [runs] at h ⊢
    split at h
    · cases h
    · rename_i hs
      rw [if_neg hs, ih h, List.append_assoc]
      rfl
/-- What comes of more. -/
def aft (r : List En × Option En) (l : List (En × Bool)) : List En × Option En := match r.2 with | none => runs r.1 l | some e => (r.1, some e)
theorem runs_app (out : List En) (a b : List (En × Bool)) : runs out (a ++ b) = aft (runs out a) b := by
  rw [runs_append]
  cases h : runs out a with
  | mk o x => cases x <;> rfl
theorem memEv_len (file : Int) (owner : B8) (k : Nd) : (memEv file owner k).length ≤ k.cnt := by
  unfold memEv
  have hl : ∀ (i : Nat) (l : List (Nd × Bool)), (locs file (idM owner k.hd.text) i l).length = l.length := by
    intro i l
    induction l generalizing i with
    | nil => rfl
    | cons x l ih => rw [locs, List.length_cons, List.length_cons, ih]
  split
  · have := cnt_pos k; simpa using this
  · split
    · rw [List.length_cons, hl, evN_kids]
      have h1 := evK_cnt [] k.kids
      have h2 := cnt_kids k
      omega
    · exact Nat.zero_le _
/-- All is as it should be ahead of a member. -/
structure Cl (w wr : World) (nb : Nat) (n : Nd) (kv : Value) (N bl bm bt mb : Nat) (v : Value) (R : List En × Option En) (file : Int) (k : Nat) (v' : Value) (ps' : List Pe) : Prop where
  root : RowAt wr nb 55 (n.hd.vals kv)
  add : AddSt wr N bl bm bt mb v' ps'
  tz : Tz bl bm mb v.ownBlock w wr
  ob : v'.ownBlock = v.ownBlock ∨ ∃ g, v'.ownBlock = some g ∧ w.heap.size ≤ g
  run : R = runs (ps'.map (·.1)) ((n.kids.drop k).flatMap (memEv file n.hd.text))
  cnt : ps'.length + 1 + cntL (n.kids.drop k) ≤ 1000000
section
variable {w wr W' : World} {nb : Nat} {n x : Nd} {kv : Value} {N bl bm bt mb : Nat} {v : Value} {R : List En × Option En} {file : Int} {k : Nat} {v' v5 : Value} {ps' : List Pe}
theorem Cl.below (h : Cl w wr nb n kv N bl bm bt mb v R file k v' ps') (hb : Below wr.heap.size wr W') : Cl w W' nb n kv N bl bm bt mb v R file k v' ps' :=
  ⟨h.root.later hb, h.add.later hb, tz_drop h.tz hb.size hb.os hb.tape hb.output fun q hq => hb.block q (Nat.lt_of_lt_of_le hq h.tz.size), h.ob, h.run, h.cnt⟩
theorem drop_at {ks : List Nd} {k : Nat} {x : Nd} (hx : ks[k]? = some x) : ks.drop k = x :: ks.drop (k + 1) := by
  obtain ⟨hl, rfl⟩ := List.getElem?_eq_some_iff.1 hx
  exact List.drop_eq_getElem_cons hl
theorem Cl.run_ (h : Cl w wr nb n kv N bl bm bt mb v R file k v' ps') (hx : n.kids[k]? = some x) : R = aft (runs (ps'.map (·.1)) (memEv file n.hd.text x)) ((n.kids.drop (k + 1)).flatMap (memEv file n.hd.text)) := by
  rw [h.run, drop_at hx, List.flatMap_cons, runs_app]
/-- No member: nothing. -/
theorem Cl.skip (h : Cl w wr nb n kv N bl bm bt mb v R file k v' ps') (hx : n.kids[k]? = some x) (h2 : x.hd.kind ≠ 2) (h3 : x.hd.kind ≠ 3) : Cl w wr nb n kv N bl bm bt mb v R file (k + 1) v' ps' := by
  refine ⟨h.root, h.add, h.tz, h.ob, ?_, ?_⟩
  · rw [h.run_ hx]
    unfold memEv
    rw [if_neg (show ¬ kd x = 2 from h2), if_neg (show ¬ kd x = 3 from h3)]
    rfl
  · have := h.cnt
    rw [drop_at hx, cntL] at this
    omega
/-- What a member that was added leaves. -/
theorem Cl.next_ {o : List En} {ps5 : List Pe} (h : Cl w wr nb n kv N bl bm bt mb v R file k v' ps') (hx : n.kids[k]? = some x) (ho : runs (ps'.map (·.1)) (memEv file n.hd.text x) = (o, none)) (hp : ps5.map (·.1) = o) (ht : Tz bl bm mb v'.ownBlock wr W') (ha : AddSt W' N bl bm bt mb v5 ps5)
    (hob : v5.ownBlock = v'.ownBlock ∨ ∃ g, v5.ownBlock = some g ∧ wr.heap.size ≤ g) : Cl w W' nb n kv N bl bm bt mb v R file (k + 1) v5 ps5 := by
  refine ⟨tz_row h.add ht h.root (by decide) (by decide) (by decide), ha, h.tz.trans ht h.ob, ?_, ?_, ?_⟩
  · rcases hob with hob | ⟨g, h1, h2⟩
    · rw [hob]; exact h.ob
    · exact .inr ⟨g, h1, Nat.le_trans h.tz.size h2⟩
  · rw [h.run_ hx, ho, hp]
    rfl
  · have h1 := h.cnt
    rw [drop_at hx, cntL] at h1
    have h2 := runs_none (out := ps'.map (·.1)) (a := memEv file n.hd.text x) (by rw [ho])
    rw [ho] at h2
    have h3 := congrArg List.length (hp.trans h2)
    rw [List.length_append, List.length_map, List.length_map, List.length_map] at h3
    have h4 := memEv_len file n.hd.text x
    omega
theorem Cl.stop {o : List En} {e : En} (h : Cl w wr nb n kv N bl bm bt mb v R file k v' ps') (hx : n.kids[k]? = some x) (ho : runs (ps'.map (·.1)) (memEv file n.hd.text x) = (o, some e)) : R = (o, some e) := by
  rw [h.run_ hx, ho]
  rfl
theorem Cl.done (h : Cl w wr nb n kv N bl bm bt mb v R file n.kids.length v' ps') : R = (ps'.map (·.1), none) := by
  rw [h.run, List.drop_length]
  rfl
end
theorem run_fld {out : List En} {file : Int} {owner : B8} {x : Nd} (h : x.hd.kind = 2) : runs out (memEv file owner x) = if step out (fldE file owner x) false then (out, some (fldE file owner x)) else (out ++ [fldE file owner x], none) := by
  unfold memEv
  rw [if_pos (show kd x = 2 from h), runs]
  rfl
set_option maxRecDepth 100000 in
set_option maxHeartbeats 64000000 in
theorem class_any (file : Int) (n : Nd) (ka : Option Addr) (kn kc : Nat) (w0 w : World) (hw0 : Below w0.heap.size w0 w) (hk : KidsAt w0 n.kids (.slice ka kn kc))
    (P : Nd → Prop) (hP : ∀ t, P t → t.hd.text.length ≤ 10000000 ∧ t.kids.length ≤ 1000000 ∧ t.cnt ≤ 900000 ∧ ∀ k ∈ t.kids, P k) (hn : P n) (hnk : kd n = 1)
    (N bl bm bt mb : Nat) (hT : Tb w0.heap.size N bl bm bt mb) (v : Value) (ps : List Pe) (hA : AddSt w N bl bm bt mb v ps) (hps : ps.length + 2 + n.cnt ≤ 1000000) (hpow : Pow w0) :
    Calls Tryd.prog 22 #[.int .i64 file, .agg #[.int .i64 n.hd.kind, .string (bs n.hd.text), .string (bs n.hd.type), .int .i64 n.hd.n, .int .i64 n.hd.fr, .int .i64 n.hd.to_, .int .i64 n.hd.at_, .int .i64 n.hd.tat, .slice ka kn kc], .func (.func 21) #[] #[.pointer (some ⟨bt, 0, none⟩), .pointer (some ⟨bm, 0, none⟩), .pointer (some ⟨bl, 0, none⟩)]] w
      fun e w' => RunIs w N bl bm bt mb v (runs (ps.map (·.1)) (clsEv file n)) e w' := by
  obtain ⟨R, hR⟩ : ∃ R, Hid (runs (ps.map (·.1)) (clsEv file n) = R) := ⟨_, Lib.hid rfl⟩
  rw [hR.out]
  have HPn := hP n hn
  have ht := HPn.1
  obtain ⟨ka', kc', hkv, hkl, hkcm, hkx⟩ := hk.get
  obtain ⟨rfl, rfl, rfl⟩ : ka = ka' ∧ kn = n.kids.length ∧ kc = kc' := by injection hkv with h1 h2 h3; exact ⟨h1, h2, h3⟩
  clear hkv
  have HKX := Lib.hid hkx
  obtain ⟨kn, hkn⟩ : ∃ x, Hid (n.kids.length = x) := ⟨_, Lib.hid rfl⟩
  rw [hkn.out] at hkl ⊢
  have hkn1 : kn ≤ 1000000 := by rw [← hkn.out]; exact HPn.2.1
  unfold maxLen at hkcm
  obtain ⟨nb, hnb⟩ : ∃ x, Hid (w.heap.size = x) := ⟨_, Lib.hid rfl⟩
  obtain ⟨W1, hW1⟩ : ∃ W1, Hid (w.alloc (.cells #[.int .i64 n.hd.kind, .string (bs n.hd.text), .string (bs n.hd.type), .int .i64 n.hd.n, .int .i64 n.hd.fr, .int .i64 n.hd.to_, .int .i64 n.hd.at_, .int .i64 n.hd.tat, .slice ka kn kc] 55) = W1) := ⟨_, Lib.hid rfl⟩
  have R1 : Hid (RowAt W1 nb 55 (n.hd.vals (.slice ka kn kc))) := by rw [← hW1.out, ← hnb.out]; exact Lib.hid (RowAt.new w 55 _)
  have BW1 : Hid (Below w.heap.size w W1) := by rw [← hW1.out]; exact Lib.hid ((Below.refl _ w).alloc (Nat.le_refl _) _)
  obtain ⟨cid, hcid⟩ : ∃ s, Hid (bs n.hd.text = s) := ⟨_, Lib.hid rfl⟩
  have hcidt : Hid (tl cid = n.hd.text) := Lib.hid (by rw [← hcid.out, tl_bs])
  have hcids : Hid (cid.size ≤ 10000000) := Lib.hid (by rw [← hcid.out, bs_size]; exact ht)
  have CC : Hid (∀ W, Calls Tryd.prog 17 #[.string (bs n.hd.text)] W fun e w' => e = .returned (.string cid) ∧ w' = W) := Lib.hid (fun W => by rw [← hcid.out]; exact Class_any (bs n.hd.text) W)
  have CE : Hid (∀ W, Calls Tryd.prog 32 #[.int .i64 1, .int .i64 file, .agg #[.int .i64 n.hd.kind, .string (bs n.hd.text), .string (bs n.hd.type), .int .i64 n.hd.n, .int .i64 n.hd.fr, .int .i64 n.hd.to_, .int .i64 n.hd.at_, .int .i64 n.hd.tat, .slice ka kn kc], .string cid, .string ⟨#[]⟩] W fun e w' => e = .returned (.agg #[.int .i64 1, .string cid, .string (bs n.hd.text), .string ⟨#[]⟩, .string (bs n.hd.type), .bool false, .slice none 0 0, .int .i64 file, .int .i64 n.hd.at_]) ∧ Below W.heap.size W w') := Lib.hid (fun W => entity_any 1 file n.hd ka kn kc cid ⟨#[]⟩ W)
  have HA := Lib.hid hA
  have HP := Lib.hid hP
  have HT := Lib.hid hT
  have HW0 := Lib.hid hw0
  have HPow := Lib.hid hpow
  have HEV : Hid (R = if step (ps.map (·.1)) (clsE file n) false then (ps.map (·.1), some (clsE file n)) else runs (ps.map (·.1) ++ [clsE file n]) (n.kids.flatMap (memEv file n.hd.text))) := Lib.hid (by
    rw [← hR.out]
    unfold clsEv
    rw [if_pos hnk, runs])
  have CAdd : Hid (∀ W, Below w.heap.size w W → Calls Tryd.prog 21 #[.agg #[.int .i64 1, .string cid, .string (bs n.hd.text), .string ⟨#[]⟩, .string (bs n.hd.type), .bool false, .slice none 0 0, .int .i64 file, .int .i64 n.hd.at_], .bool false, .pointer (some ⟨bt, 0, none⟩), .pointer (some ⟨bm, 0, none⟩), .pointer (some ⟨bl, 0, none⟩)] W fun e w' => AddIs W N bl bm bt mb v ps (clsE file n, .slice none 0 0) false e w') := Lib.hid (fun W hW => by
    have h9 := add_any (clsE file n) none 0 0 false W N bl bm bt mb v ps (HA.out.later hW) (by rfl) (by show (0 : Nat) ≤ _; omega) (by show n.hd.text.length ≤ _; omega) (by omega) _ (SupT.nil W N)
    rw [show bs (clsE file n).id = cid from hcid.out] at h9
    exact h9)
  have m0 : W1.cell? ⟨nb, 0, none⟩ = some (.int .i64 n.hd.kind) := R1.out.cell (j := 0) rfl
  have m1 : W1.cell? ⟨nb, 1, none⟩ = some (.string (bs n.hd.text)) := R1.out.cell (j := 1) rfl
  have m2 : W1.cell? ⟨nb, 2, none⟩ = some (.string (bs n.hd.type)) := R1.out.cell (j := 2) rfl
  have m3 : W1.cell? ⟨nb, 3, none⟩ = some (.int .i64 n.hd.n) := R1.out.cell (j := 3) rfl
  have m4 : W1.cell? ⟨nb, 4, none⟩ = some (.int .i64 n.hd.fr) := R1.out.cell (j := 4) rfl
  have m5 : W1.cell? ⟨nb, 5, none⟩ = some (.int .i64 n.hd.to_) := R1.out.cell (j := 5) rfl
  have m6 : W1.cell? ⟨nb, 6, none⟩ = some (.int .i64 n.hd.at_) := R1.out.cell (j := 6) rfl
  have m7 : W1.cell? ⟨nb, 7, none⟩ = some (.int .i64 n.hd.tat) := R1.out.cell (j := 7) rfl
  have m8 : W1.cell? ⟨nb, 8, none⟩ = some (.slice ka kn kc) := R1.out.cell (j := 8) rfl
  clear hw0 hT hP hA hpow hkx hk HPn hnk hR
  go_enter Tryd.func22, Tryd.ntmps22
  go_upto_region 1 with fail
  rw [hW1.out, hnb.out]
  go_wp2_with fail
  refine (CC.out _).mono ?_
  rintro e w' ⟨rfl, hw⟩
  have hw := hw.symm
  subst hw
  go_wp2_with fail
  refine (CE.out _).mono ?_
  rintro e w2 ⟨rfl, b2⟩
  have B2 := Lib.hid (BW1.out.trans (b2.mono BW1.out.size))
  have RN2 := Lib.hid (R1.out.later b2)
  clear b2 m0 m1 m2 m3 m4 m5 m6 m7 m8
  cases hst : step (ps.map (·.1)) (clsE file n) false with
  | true =>
    have hst' := Lib.hid hst
    have HR2 : Hid (R = (ps.map (·.1), some (clsE file n))) := Lib.hid (by rw [HEV.out, if_pos hst])
    clear hst
    go_wp2_with fail
    refine (CAdd.out w2 B2.out).mono ?_
    intro e w5 hadd
    unfold AddIs at hadd
    rw [if_pos hst'.out] at hadd
    obtain ⟨tz5, rfl, rm5⟩ := hadd
    have HTZ5 := Lib.hid tz5
    have HRM5 := Lib.hid rm5
    clear tz5 rm5
    go_wp2_with fail
    go_ret
    exact RunIs.no ((tz_of_below B2.out).trans HTZ5.out (.inl rfl)) HR2.out HRM5.out
  | false =>
    have hst' := Lib.hid hst
    have HR2 : Hid (R = runs ((ps ++ [(clsE file n, Value.slice none 0 0)]).map (·.1)) (n.kids.flatMap (memEv file n.hd.text))) := Lib.hid (by rw [HEV.out, if_neg (by rw [hst]; exact Bool.false_ne_true), List.map_append]; rfl)
    clear hst
    go_wp2_with fail
    refine (CAdd.out w2 B2.out).mono ?_
    intro e w5 hadd
    unfold AddIs at hadd
    rw [if_neg (by rw [hst'.out]; exact Bool.false_ne_true)] at hadd
    obtain ⟨tz5, rfl, v5, add5, ob5⟩ := hadd
    have HC5 : Hid (Cl w w5 nb n (.slice ka kn kc) N bl bm bt mb v R file 0 v5 (ps ++ [(clsE file n, .slice none 0 0)])) := Lib.hid ⟨tz_row (HA.out.later B2.out) tz5 RN2.out (by decide) (by decide) (by decide), add5, (tz_of_below B2.out).trans tz5 (.inl rfl), by
      rcases ob5 with h1 | ⟨g2, h1, h2⟩
      · exact .inl h1
      · exact .inr ⟨g2, h1, Nat.le_trans B2.out.size h2⟩, HR2.out, by
      rw [List.length_append, List.length_singleton, List.drop_zero]
      have := cnt_kids n
      omega⟩
    have q8 : w5.cell? ⟨nb, 8, none⟩ = some (.slice ka kn kc) := HC5.out.root.cell (j := 8) rfl
    clear tz5 add5 ob5
    go_wp2_with fail
    go_loopw [24] (fun c wr => ∃ (k : Nat) (v' : Value) (ps' : List Pe), c = .int .i64 k ∧ k ≤ kn ∧ Hid (Cl w wr nb n (.slice ka kn kc) N bl bm bt mb v R file k v' ps')) (fun c _ => kn - (intOf c).toNat)
    case atStart => exact ⟨0, v5, _, rfl, by omega, HC5⟩
    case round =>
      clear q8 HC5
      obtain ⟨k, v', ps', rfl, hk, hC⟩ := hrel
      by_cases hlt : k < kn
      · obtain ⟨x, hx⟩ : ∃ x, n.kids[k]? = some x := ⟨_, List.getElem?_eq_getElem (by rw [hkn.out]; exact hlt)⟩
        obtain ⟨xb, xo, xv, hka, xcs, xks⟩ := HKX.out k x hx
        subst hka
        have Bw := Lib.hid (HW0.out.trans (hC.out.tz.below HT.out HA.out.own HW0.out.size))
        obtain ⟨xa, xc, hxv, -⟩ := xks.get
        subst hxv
        have HXK := Lib.hid xks
        obtain ⟨d0, d1, d2, d3, d4, d5, d6, d7, d8⟩ := xcs.later Bw.out
        obtain ⟨qb, hqb⟩ : ∃ b, Hid (wr.heap.size = b) := ⟨_, Lib.hid rfl⟩
        obtain ⟨xn, hxn⟩ : ∃ y, Hid (x.kids.length = y) := ⟨_, Lib.hid rfl⟩
        rw [hxn.out] at d8 HXK
        have HX := Lib.hid hx
        have i1 : (0 : Int) ≤ (k : Int) := by omega
        have i2 : (k : Int) < (kn : Int) := by omega
        have HPx : Hid (P x) := Lib.hid ((HP.out n hn).2.2.2 x (List.mem_of_getElem? hx))
        have htx := (HP.out x HPx.out).1
        have hcx := (HP.out x HPx.out).2.2.1
        have hpn : ps'.length + 1 + x.cnt ≤ 1000000 := by
          have h1 := hC.out.cnt
          rw [drop_at hx, cntL] at h1
          omega
        clear xcs xks hx
        go_upto_region 7 with fail
        refine X.wp_gen (fun X => RowAt X qb 55 (x.hd.vals (.slice xa xn xc)) ∧ Below wr.heap.size wr X) ⟨X.row_new hqb.out.symm, (Below.refl _ wr).alloc (Nat.le_refl _) _⟩ ?_
        rw [hqb.out]
        rintro X ⟨xq, xB⟩
        have RX := Lib.hid xq
        have xB' : Below wr.heap.size wr X := by rw [hqb.out]; exact xB
        have HCX := Lib.hid (hC.out.below xB')
        have BX := Lib.hid (Bw.out.trans (xB'.mono Bw.out.size))
        have c0 : X.cell? ⟨qb, 0, none⟩ = some (.int .i64 x.hd.kind) := xq.cell (j := 0) rfl
        have c1 : X.cell? ⟨qb, 1, none⟩ = some (.string (bs x.hd.text)) := xq.cell (j := 1) rfl
        have c2 : X.cell? ⟨qb, 2, none⟩ = some (.string (bs x.hd.type)) := xq.cell (j := 2) rfl
        have c3 : X.cell? ⟨qb, 3, none⟩ = some (.int .i64 x.hd.n) := xq.cell (j := 3) rfl
        have c4 : X.cell? ⟨qb, 4, none⟩ = some (.int .i64 x.hd.fr) := xq.cell (j := 4) rfl
        have c5 : X.cell? ⟨qb, 5, none⟩ = some (.int .i64 x.hd.to_) := xq.cell (j := 5) rfl
        have c6 : X.cell? ⟨qb, 6, none⟩ = some (.int .i64 x.hd.at_) := xq.cell (j := 6) rfl
        have c7 : X.cell? ⟨qb, 7, none⟩ = some (.int .i64 x.hd.tat) := xq.cell (j := 7) rfl
        have c8 : X.cell? ⟨qb, 8, none⟩ = some (.slice xa xn xc) := xq.cell (j := 8) rfl
        clear d0 d1 d2 d3 d4 d5 d6 d7 d8 xq xB xB'
        by_cases h2 : x.hd.kind = 2
        · have g2 : (x.hd.kind == 2) = true := by simpa using h2
          obtain ⟨idv, hid⟩ : ∃ s, Hid (cid ++ ⟨#[46]⟩ ++ bs x.hd.text = s) := ⟨_, Lib.hid rfl⟩
          have hidv : Hid (bs (idF n.hd.text x.hd.text) = idv) := Lib.hid (by rw [← hcidt.out, idF_bs, hid.out])
          have CM : Hid (∀ W, Calls Tryd.prog 20 #[.string cid, .string (bs x.hd.text)] W fun e w' => e = .returned (.string idv) ∧ w' = W) := Lib.hid (fun W => by rw [← hid.out]; exact Field_any cid (bs x.hd.text) W (by have := hcids.out; rw [bs_size x.hd.text]; omega))
          have CE : Hid (∀ W, Calls Tryd.prog 32 #[.int .i64 2, .int .i64 file, .agg #[.int .i64 x.hd.kind, .string (bs x.hd.text), .string (bs x.hd.type), .int .i64 x.hd.n, .int .i64 x.hd.fr, .int .i64 x.hd.to_, .int .i64 x.hd.at_, .int .i64 x.hd.tat, .slice xa xn xc], .string idv, .string cid] W fun e w' => e = .returned (.agg #[.int .i64 2, .string idv, .string (bs x.hd.text), .string cid, .string (bs x.hd.type), .bool false, .slice none 0 0, .int .i64 file, .int .i64 x.hd.at_]) ∧ Below W.heap.size W w') := Lib.hid (fun W => entity_any 2 file x.hd xa xn xc idv cid W)
          obtain ⟨sb, hsb⟩ : ∃ b, (x.hd.n == 1) = b := ⟨_, rfl⟩
          have HM : Hid (fldE file n.hd.text x = ⟨2, idF n.hd.text x.hd.text, x.hd.text, n.hd.text, x.hd.type, sb, [], file, x.hd.at_⟩) := Lib.hid (by rw [← hsb]; rfl)
          have HRF := Lib.hid (run_fld (out := ps'.map (·.1)) (file := file) (owner := n.hd.text) h2)
          have HSB := Lib.hid hsb
          clear h2 hsb
          go_upto_region 9 with fail
          clear c0 c1 c2 c3 c4 c5 c6 c7 c8
          go_cut [10] from 32 to 39 (fun c wx => ∃ gb, c = .pointer (some ⟨gb, 0, none⟩) ∧ Hid (RowAt wx gb 34 #[.int .i64 2, .string idv, .string (bs x.hd.text), .string cid, .string (bs x.hd.type), .bool false, .slice none 0 0, .int .i64 file, .int .i64 x.hd.at_]) ∧ Hid (Below X.heap.size X wx) ∧ Hid (X.heap.size ≤ gb))
          case first =>
            have F0 := Lib.hid (Nine.row RX.out)
            have FD : Hid _ := Lib.hid (Nine.row (show RowAt X.drew qb 55 (x.hd.vals (.slice xa xn xc)) from RX.out))
            have RA := RX.out.alloc Z34
            have FA := Lib.hid (Nine.row (W := X.alloc Z34) RA)
            have FAD := Lib.hid (Nine.row (show RowAt (X.alloc Z34).drew qb 55 (x.hd.vals (.slice xa xn xc)) from RA))
            clear RA
            have hne : Hid (qb ≠ X.heap.size) := Lib.hid (by have h1 := RX.out.lt; omega)
            have ZA : Hid (RowAt (X.alloc Z34).drew X.heap.size 34 #[.int .i64 0, .string ⟨#[]⟩, .string ⟨#[]⟩, .string ⟨#[]⟩, .string ⟨#[]⟩, .bool false, .slice none 0 0, .int .i64 0, .int .i64 0]) := Lib.hid (RowAt.new X 34 _)
            have BA : Hid (Below X.heap.size X (X.alloc Z34).drew) := Lib.hid (below_drew ((Below.refl _ _).alloc (Nat.le_refl _) _))
            have RXAD : Hid (RowAt (X.alloc Z34).drew qb 55 (x.hd.vals (.slice xa xn xc))) := Lib.hid (RX.out.alloc Z34)
            have RXD : Hid (RowAt X.drew qb 55 (x.hd.vals (.slice xa xn xc))) := Lib.hid RX.out
            have BD : Hid (Below X.heap.size X X.drew) := Lib.hid (below_drew (Below.refl _ _))
            go_region_held3 (fun W => W.cell? ⟨qb, 0, none⟩ = some (.int .i64 x.hd.kind) ∧ W.cell? ⟨qb, 1, none⟩ = some (.string (bs x.hd.text)) ∧ W.cell? ⟨qb, 2, none⟩ = some (.string (bs x.hd.type)) ∧ W.cell? ⟨qb, 3, none⟩ = some (.int .i64 x.hd.n) ∧ W.cell? ⟨qb, 4, none⟩ = some (.int .i64 x.hd.fr) ∧ W.cell? ⟨qb, 5, none⟩ = some (.int .i64 x.hd.to_) ∧ W.cell? ⟨qb, 6, none⟩ = some (.int .i64 x.hd.at_) ∧ W.cell? ⟨qb, 7, none⟩ = some (.int .i64 x.hd.tat) ∧ W.cell? ⟨qb, 8, none⟩ = some (.slice xa xn xc))
              (first | (with_reducible exact F0.out) | (with_reducible exact FD.out) | (with_reducible exact FA.out) | (with_reducible exact FAD.out) | (with_reducible exact F5.out) | (with_reducible exact F6.out) | (with_reducible exact F7.out))
              (first | (go_at_call 20; ((with_reducible refine (CM.out _).mono ?_); rintro e w' ⟨rfl, hw⟩; have hw := hw.symm; subst hw)) | (go_at_call 32; ((with_reducible refine (CE.out (X.alloc Z34).drew).mono ?_); rintro e wf ⟨rfl, bf⟩; have F5 := Lib.hid (Nine.row (RXAD.out.later bf)); have Z5 := ZA.out.later bf; have NN := Lib.hid (@nineE wf X.heap.size _ _ _ _ _ _ _ _ _ Z5 (.int .i64 2) (.string idv) (.string (bs x.hd.text)) (.string cid) (.string (bs x.hd.type)) (.bool false) (.slice none 0 0) (.int .i64 file) (.int .i64 x.hd.at_) _ rfl); have F7 := Lib.hid (Nine.row (RowAt.same (RXAD.out.later bf) (NN.out.2.2.1 qb hne.out))); have B5 := Lib.hid (BA.out.trans (bf.mono BA.out.size)); have d0 : wf.cell? ⟨X.heap.size, 0, none⟩ = some (.int .i64 0) := Z5.cell rfl; have z0 := Z5.frozen 0; have d1 : wf.cell? ⟨X.heap.size, 1, none⟩ = some (.string ⟨#[]⟩) := Z5.cell rfl; have z1 := Z5.frozen 1; have d2 : wf.cell? ⟨X.heap.size, 2, none⟩ = some (.string ⟨#[]⟩) := Z5.cell rfl; have z2 := Z5.frozen 2; have d3 : wf.cell? ⟨X.heap.size, 3, none⟩ = some (.string ⟨#[]⟩) := Z5.cell rfl; have z3 := Z5.frozen 3; have d4 : wf.cell? ⟨X.heap.size, 4, none⟩ = some (.string ⟨#[]⟩) := Z5.cell rfl; have z4 := Z5.frozen 4; have d5 : wf.cell? ⟨X.heap.size, 5, none⟩ = some (.bool false) := Z5.cell rfl; have z5 := Z5.frozen 5; have d6 : wf.cell? ⟨X.heap.size, 6, none⟩ = some (.slice none 0 0) := Z5.cell rfl; have z6 := Z5.frozen 6; have d7 : wf.cell? ⟨X.heap.size, 7, none⟩ = some (.int .i64 0) := Z5.cell rfl; have z7 := Z5.frozen 7; have d8 : wf.cell? ⟨X.heap.size, 8, none⟩ = some (.int .i64 0) := Z5.cell rfl; have z8 := Z5.frozen 8; clear Z5 bf)) | (go_at_call 32; ((with_reducible refine (CE.out X.drew).mono ?_); rintro e wf ⟨rfl, bf⟩; have F5 := Lib.hid (Nine.row (RXD.out.later bf)); have F6 := Lib.hid (Nine.row (W := wf.alloc Z34) ((RXD.out.later bf).alloc Z34)); have F7 := Lib.hid (Nine.row (W := wf.alloc (.cells #[.int .i64 2, .string idv, .string (bs x.hd.text), .string cid, .string (bs x.hd.type), .bool false, .slice none 0 0, .int .i64 file, .int .i64 x.hd.at_] 34)) ((RXD.out.later bf).alloc _)); have B5 := Lib.hid (BD.out.trans (bf.mono BD.out.size)); clear bf)))
            all_goals
              go_wp2_with fail
              go_meet
              first
                | exact ⟨_, rfl, Lib.hid NN.out.1, Lib.hid (B5.out.trans (NN.out.2.2.2 _ (Nat.le_refl _))), Lib.hid (Nat.le_refl _)⟩
                | exact ⟨_, rfl, Lib.hid (RowAt.new wf 34 _), Lib.hid (B5.out.alloc (by have := B5.out.size; omega) _), Lib.hid B5.out.size⟩
          case rest =>
            obtain ⟨gb, rfl, RG, BG, hgl⟩ := hcut
            have RQ := Lib.hid (RX.out.later BG.out)
            have hgn : gb ≠ qb := row_ne RG.out RQ.out (by decide)
            have hsb := HSB.out
            have q3 : wc.cell? ⟨qb, 3, none⟩ = some (.int .i64 x.hd.n) := RQ.out.cell (j := 3) rfl
            have q5 : wc.cell? ⟨gb, 5, none⟩ = some (.bool false) := RG.out.cell rfl
            have f5 := RG.out.frozen 5
            have HR0 : Hid (RowAt (wc.setCell ⟨gb, 5, none⟩ (.bool sb)) gb 34 #[.int .i64 2, .string idv, .string (bs x.hd.text), .string cid, .string (bs x.hd.type), .bool sb, .slice none 0 0, .int .i64 file, .int .i64 x.hd.at_] ∧ Below X.heap.size X (wc.setCell ⟨gb, 5, none⟩ (.bool sb))) := Lib.hid ⟨RG.out.set 5 _, BG.out.setCell (p := ⟨gb, 5, none⟩) hgl.out _⟩
            go_upto_region 11 with fail
            refine YtbnbmjdjkadgoaaDoor.X.wp_gen (fun V => RowAt V gb 34 #[.int .i64 2, .string idv, .string (bs x.hd.text), .string cid, .string (bs x.hd.type), .bool sb, .slice none 0 0, .int .i64 file, .int .i64 x.hd.at_] ∧ Below X.heap.size X V) HR0.out ?_
            rintro V ⟨rg, bv_⟩
            have HCV := Lib.hid (HCX.out.below bv_)
            have hstf : Hid (∀ b, step (ps'.map (·.1)) (fldE file n.hd.text x) false = b → runs (ps'.map (·.1)) (memEv file n.hd.text x) = if b then (ps'.map (·.1), some (fldE file n.hd.text x)) else ((ps' ++ [(fldE file n.hd.text x, Value.slice none 0 0)]).map (·.1), none)) := Lib.hid (fun b hb => by
              rw [HRF.out, hb, List.map_append]
              rfl)
            have CAdd : Hid (Calls Tryd.prog 21 #[.agg #[.int .i64 2, .string idv, .string (bs x.hd.text), .string cid, .string (bs x.hd.type), .bool sb, .slice none 0 0, .int .i64 file, .int .i64 x.hd.at_], .bool false, .pointer (some ⟨bt, 0, none⟩), .pointer (some ⟨bm, 0, none⟩), .pointer (some ⟨bl, 0, none⟩)] V fun e w' => AddIs V N bl bm bt mb v' ps' (fldE file n.hd.text x, .slice none 0 0) false e w') := Lib.hid (by
              have h9 := add_any (fldE file n.hd.text x) none 0 0 false V N bl bm bt mb v' ps' HCV.out.add (by rfl) (by rw [HM.out]; show n.hd.text.length ≤ _; omega) (by rw [HM.out]; show x.hd.text.length ≤ _; omega) (by omega) _ (by rw [HM.out]; exact SupT.nil V N)
              rw [HM.out] at h9 ⊢
              rw [show bs (⟨2, idF n.hd.text x.hd.text, x.hd.text, n.hd.text, x.hd.type, sb, [], file, x.hd.at_⟩ : En).id = idv from hidv.out, show bs (⟨2, idF n.hd.text x.hd.text, x.hd.text, n.hd.text, x.hd.type, sb, [], file, x.hd.at_⟩ : En).owner = cid from hcid.out] at h9
              exact h9)
            have a0 : V.cell? ⟨gb, 0, none⟩ = some (.int .i64 2) := rg.cell rfl
            have a1 : V.cell? ⟨gb, 1, none⟩ = some (.string idv) := rg.cell rfl
            have a2 : V.cell? ⟨gb, 2, none⟩ = some (.string (bs x.hd.text)) := rg.cell rfl
            have a3 : V.cell? ⟨gb, 3, none⟩ = some (.string cid) := rg.cell rfl
            have a4 : V.cell? ⟨gb, 4, none⟩ = some (.string (bs x.hd.type)) := rg.cell rfl
            have a5 : V.cell? ⟨gb, 5, none⟩ = some (.bool sb) := rg.cell rfl
            have a6 : V.cell? ⟨gb, 6, none⟩ = some (.slice none 0 0) := rg.cell rfl
            have a7 : V.cell? ⟨gb, 7, none⟩ = some (.int .i64 file) := rg.cell rfl
            have a8 : V.cell? ⟨gb, 8, none⟩ = some (.int .i64 x.hd.at_) := rg.cell rfl
            clear q3 q5 f5 HR0 rg bv_ hsb
            cases hst : step (ps'.map (·.1)) (fldE file n.hd.text x) false with
            | true =>
              have hst' := Lib.hid hst
              have HR2 := Lib.hid (HCV.out.stop HX.out (hstf.out true hst))
              clear hst
              go_wp2_with fail
              refine CAdd.out.mono ?_
              intro e w5 hadd
              unfold AddIs at hadd
              rw [if_pos hst'.out] at hadd
              obtain ⟨tz5, rfl, rm5⟩ := hadd
              have HTZ5 := Lib.hid tz5
              have HRM5 := Lib.hid rm5
              clear tz5 rm5
              go_wp2_with fail
              go_ret
              exact RunIs.no (HCV.out.tz.trans HTZ5.out HCV.out.ob) HR2.out HRM5.out
            | false =>
              have hst' := Lib.hid hst
              have hrf := Lib.hid (hstf.out false hst)
              clear hst
              go_wp2_with fail
              refine CAdd.out.mono ?_
              intro e w5 hadd
              unfold AddIs at hadd
              rw [if_neg (by rw [hst'.out]; exact Bool.false_ne_true)] at hadd
              obtain ⟨tz5, rfl, v5, add5, ob5⟩ := hadd
              have HC5 := Lib.hid (HCV.out.next_ HX.out hrf.out rfl tz5 add5 ob5)
              clear tz5 add5 ob5
              go_wp2_with fail
              go_roundw
              case rel => exact ⟨k + 1, _, _, by go_num, by omega, HC5⟩
              case measure => simp [intOf]; omega
        · have g2 : (x.hd.kind == 2) = false := by rw [beq_eq_false_iff_ne]; exact h2
          by_cases h3 : x.hd.kind = 3
          · have g3 : (x.hd.kind == 3) = true := by simpa using h3
            have CMet : Hid (Calls Tryd.prog 33 #[.int .i64 file, .agg #[.int .i64 x.hd.kind, .string (bs x.hd.text), .string (bs x.hd.type), .int .i64 x.hd.n, .int .i64 x.hd.fr, .int .i64 x.hd.to_, .int .i64 x.hd.at_, .int .i64 x.hd.tat, .slice xa xn xc], .string cid, .func (.func 21) #[] #[.pointer (some ⟨bt, 0, none⟩), .pointer (some ⟨bm, 0, none⟩), .pointer (some ⟨bl, 0, none⟩)]] X fun e w' => RunIs X N bl bm bt mb v' (runs (ps'.map (·.1)) (memEv file n.hd.text x)) e w') := Lib.hid (by
              have h9 := method_any file x xa xn xc cid (by have := hcids.out; omega) w0 X BX.out HXK.out P (fun t ht => ⟨Nat.le_trans (HP.out t ht).1 (by omega), (HP.out t ht).2.1, (HP.out t ht).2.2.2⟩) HPx.out h3 hcx N bl bm bt mb HT.out v' ps' HCX.out.add (by omega) HPow.out
              rw [hcidt.out] at h9
              exact h9)
            clear h2 h3
            go_wp2_with fail
            refine CMet.out.mono ?_
            intro e w5 hrun
            cases hr2 : runs (ps'.map (·.1)) (memEv file n.hd.text x) with
            | mk o y =>
              rw [hr2] at hrun
              cases y with
              | none =>
                obtain ⟨tz5, rfl, v5, ps5, hp5, add5, ob5⟩ := hrun
                have HC5 := Lib.hid (HCX.out.next_ HX.out hr2 hp5 tz5 add5 ob5)
                clear tz5 hp5 add5 ob5 hr2
                go_wp2_with fail
                go_roundw
                case rel => exact ⟨k + 1, _, _, by go_num, by omega, HC5⟩
                case measure => simp [intOf]; omega
              | some y =>
                obtain ⟨tz5, rfl, rm5⟩ := hrun
                have HR2 := Lib.hid (HCX.out.stop HX.out hr2)
                have HTZ5 := Lib.hid tz5
                have HRM5 := Lib.hid rm5
                clear tz5 rm5 hr2
                go_wp2_with fail
                go_ret
                exact RunIs.no (HCX.out.tz.trans HTZ5.out HCX.out.ob) HR2.out HRM5.out
          · have g3 : (x.hd.kind == 3) = false := by rw [beq_eq_false_iff_ne]; exact h3
            have HC5 := Lib.hid (HCX.out.skip HX.out h2 h3)
            clear h2 h3
            go_wp2_with fail
            go_roundw
            case rel => exact ⟨k + 1, _, _, by go_num, by omega, HC5⟩
            case measure => simp [intOf]; omega
      · obtain rfl : k = kn := by omega
        have hfin : Hid (R = (ps'.map (·.1), none)) := Lib.hid (Cl.done (by rw [hkn.out]; exact hC.out))
        go_wp2_with fail
        go_ret
        exact RunIs.yes hC.out.tz hfin.out hC.out.add hC.out.ob
end Go.Proofs.YtbnbmjdjkadgoaaDoor.D
