/-
  For the laws of node: a row of kids in new memory; what a change of one node does; what changing a tree keeps. Condition: at most 2,000,000 nodes.
-/
import Derived.Test.YtpnfjiglphogoacStep
import Derived.Test.YtpnfjiglphogoacCnt
namespace Go.Proofs.Ytpnfjiglphogoac
open Go.RowKit Go.Shelf
set_option linter.unusedSimpArgs false
set_option linter.unusedVariables false

theorem exists_min (P : Nat → Prop) (h : ∃ n, P n) : ∃ n, P n ∧ ∀ m, P m → n ≤ m := by
  obtain ⟨n, hn⟩ := h
  induction n using Nat.strongRecOn with
  | _ n ih =>
    by_cases hl : ∃ m, m < n ∧ P m
    · obtain ⟨m, hm, hp⟩ := hl
      exact ih m hm hp
    · exact ⟨n, hn, fun m hm => Nat.le_of_not_lt fun hlt => hl ⟨m, hlt, hm⟩⟩
open Classical in
/-- The least number with P, if there is one. -/
noncomputable def least (P : Nat → Prop) : Nat := if h : ∃ n, P n then (exists_min P h).choose else 0
theorem least_spec {P : Nat → Prop} {n : Nat} (h : P n) : P (least P) ∧ least P ≤ n := by
  have hx : ∃ n, P n := ⟨n, h⟩
  unfold least
  rw [dif_pos hx]
  have := (exists_min P hx).choose_spec
  exact ⟨this.1, this.2 n h⟩
theorem RowP.below {W W' : World} {a : Option Addr} {ps : List Pr} (h : RowP W a ps) (hb : Below W.heap.size W W') : RowP W' a ps := fun k p hk => by
  obtain ⟨b, off, e, c, hkk⟩ := h k p hk
  exact ⟨b, off, e, c.later hb, hkk.below hb⟩
set_option maxRecDepth 100000 in
set_option maxHeartbeats 8000000 in
/-- slices.Clone: the kids in a row of their own. -/
theorem Clone_any (w0 w : World) (a : Option Addr) (cap : Nat) (ps : List Pr) (hW : Below w0.heap.size w0 w) (hr : RowP w a ps) (hq : ∀ p ∈ ps, KidsAt w0 p.1.kids p.2) (hc : ps.length ≤ cap) (hcap : cap ≤ maxLen) (hn : ps.length ≤ 2000000) :
    Calls Try.prog 36 #[.slice a ps.length cap] w fun e w' => ∃ v, e = .returned v ∧ OwnP w0 w.heap.size w' v ps ∧ Below w.heap.size w w' := by
  have HR := Lib.hid hr
  have HQ := Lib.hid hq
  have hs0 := hW.size
  have HW := Lib.hid hW
  clear hr hq hW
  cases a with
  | none =>
    have h0 : ps = [] := by
      cases ps with
      | nil => rfl
      | cons y L =>
        obtain ⟨b, off, e, _⟩ := HR.out 0 y rfl
        cases e
    subst h0
    have he : ∀ W : World, (binOp .eql 22 (.slice none 0 cap) (.slice none 0 0)).run Try.prog W = .ok (.bool true) W := fun W => Lib.run_eql_slice_nil W 22 24 none 0 cap 0 0 Try.underlying22
    go_enter Try.func36, Try.ntmps36
    go_wp2_with fail
    go_ret
    exact ⟨_, rfl, OwnP.nil HW.out hs0 (Nat.le_refl _), Below.refl _ _⟩
  | some ad =>
    obtain ⟨n, hn0⟩ : ∃ n, Hid (ps.length = n) := ⟨_, Lib.hid rfl⟩
    have he : ∀ W : World, (binOp .eql 22 (.slice (some ad) n cap) (.slice none 0 0)).run Try.prog W = .ok (.bool false) W := fun W => Lib.run_eql_slice_nil W 22 24 (some ad) n cap 0 0 Try.underlying22
    have O0 : Hid (OwnP w0 w.heap.size (w.alloc (.cells #[] 24)) (.slice (some ⟨w.heap.size, 0, none⟩) 0 0) []) := Lib.hid ⟨World.ownsRow_made w #[] 0 (Nat.le_refl _) (Nat.zero_le _) rfl, HW.out.alloc hs0 _, ⟨hs0, by simp⟩, fun p hp => by cases hp⟩
    have B0 : Hid (Below w.heap.size w (w.alloc (.cells #[] 24))) := Lib.hid ((Below.refl _ w).alloc (Nat.le_refl _) _)
    have HR2 : Hid (RowP (w.alloc (.cells #[] 24)) (some ad) ps) := Lib.hid (HR.out.below B0.out)
    rw [hn0.out]
    go_enter Try.func36, Try.ntmps36
    go_wp2_with (at_builtin; refine wpList_append_nds (w0 := w0) (w := w.alloc (.cells #[] 24)) rfl _ _ rfl _ [] ps (some ad) cap rfl O0.out (by rw [hn0.out]; rfl) HR2.out HQ.out (by simp; omega) ?_; intro v2 W2 hown2 hb2)
    have B2 := Lib.hid (B0.out.trans hb2)
    have O2 : Hid (OwnP w0 w.heap.size W2 v2 ps) := Lib.hid (by simpa using hown2)
    clear hown2 hb2
    go_wp2_with fail
    go_ret
    exact ⟨_, rfl, O2.out, B2.out⟩
def ptrs (S : List Pt) : List Value := S.map fun p => .pointer (some ⟨p.b, p.off, none⟩)
theorem ptrs_len (S : List Pt) : (ptrs S).length = S.length := by unfold ptrs; rw [List.length_map]
theorem ptrs_app (A B : List Pt) : ptrs (A ++ B) = ptrs A ++ ptrs B := by unfold ptrs; rw [List.map_append]
theorem ptrs_one (p : Pt) : ptrs [p] = [.pointer (some ⟨p.b, p.off, none⟩)] := rfl
/-- What a change of one node is: of its head, as f says. -/
def ChangeOk (fid : Nat) (caps : Array Value) (f : Hd → Hd) (w : World) : Prop :=
  ∀ (W : World) (b o : Nat) (h : Hd) (a : Option Addr) (n c : Nat), Below w.heap.size w W → w.heap.size ≤ b → Rw W b (o + 9) → Cells W b o h (.slice a n c) →
    Calls Try.prog fid (#[.pointer (some ⟨b, o, none⟩)] ++ caps) W fun e w' => (∃ v, e = .returned v) ∧ Upd W w' b o ∧ Cells w' b o (f h) (.slice a n c)
def cntS (S : List Pt) : Nat := cntL (S.map (·.t))
theorem cntS_app (A B : List Pt) : cntS (A ++ B) = cntS A + cntS B := by unfold cntS; rw [List.map_append, cntL_app]
theorem cntS_one (p : Pt) : cntS [p] = p.t.cnt := by unfold cntS; simp [cntL]
theorem cntS_len (S : List Pt) : S.length ≤ cntS S := by unfold cntS; have := cntL_len (S.map (·.t)); simpa using this
theorem cntS_kidP (N : Nat) (ps : List Pr) : cntS (kidP N ps) = cntL (ps.map (·.1)) := by
  unfold cntS
  congr 1
  refine List.ext_getElem? fun k => ?_
  rw [List.getElem?_map, List.getElem?_map]
  cases hp : ps[k]? with
  | none => rw [List.getElem?_eq_none (by rw [kidP_len]; exact List.getElem?_eq_none_iff.1 hp)]; rfl
  | some q => rw [kidP_at hp]; rfl
/-- Between two nodes. -/
structure CInv (f : Hd → Hd) (w : World) (T : Nd) (S : List Pt) (u : Value) (wr : World) : Prop where
  own : wr.ownsRow (w.heap.size + 2) 45 1 u S.length (ptrs S)
  apart : S.Pairwise Apart
  holds : ∀ p ∈ S, HoldsP w wr p ∧ p.b ≠ w.heap.size + 1
  wand : Wand f w wr (w.heap.size + 2) w.heap.size T S
  below : Below w.heap.size w wr
  size : w.heap.size + 3 ≤ wr.heap.size
  res : RowAt wr (w.heap.size + 1) 24 #[.int .i64 0, .string ⟨#[]⟩, .string ⟨#[]⟩, .int .i64 0, .int .i64 0, .int .i64 0, .int .i64 0, .int .i64 0, .slice none 0 0]
  few : cntS S ≤ 2000000
noncomputable def left (f : Hd → Hd) (w : World) (T : Nd) (u : Value) (wr : World) : Nat := least fun n => ∃ S, CInv f w T S u wr ∧ cntS S = n
theorem left_le {f : Hd → Hd} {w : World} {T : Nd} {S : List Pt} {u : Value} {wr : World} (h : CInv f w T S u wr) : left f w T u wr ≤ cntS S := (least_spec (P := fun n => ∃ S, CInv f w T S u wr ∧ cntS S = n) ⟨S, h, rfl⟩).2
theorem left_spec {f : Hd → Hd} {w : World} {T : Nd} {u : Value} {wr : World} (h : ∃ S, CInv f w T S u wr) : ∃ S, CInv f w T S u wr ∧ cntS S = left f w T u wr := by
  obtain ⟨S, h⟩ := h
  exact (least_spec (P := fun n => ∃ S, CInv f w T S u wr ∧ cntS S = n) ⟨S, h, rfl⟩).1
/-- What changed answers. -/
def ChgIs (f : Hd → Hd) (w : World) (T : Nd) (e : Ending) (w' : World) : Prop := ∃ kv F, e = .returned (.agg #[.int .i64 (f T.hd).kind, .string (bs (f T.hd).text), .string (bs (f T.hd).type), .int .i64 (f T.hd).n, .int .i64 (f T.hd).fr, .int .i64 (f T.hd).to_, .int .i64 (f T.hd).at_, .int .i64 (f T.hd).tat, kv]) ∧ SepAt w' (mapL f T.kids) kv F ∧ F.Nodup ∧ (∀ N ∈ F, w.heap.size ≤ N) ∧ Below w.heap.size w w'
end Go.Proofs.Ytpnfjiglphogoac
