/-
  For the laws of decls: entities, and what a tree of nodes declares, in order; no program. No condition.
-/
import Derived.Test.YtbnbmjdjkadgoaaDoorNd
import Derived.Lib.ItoaNum
import Derived.Test.YtbnbmjdjkadgoaaDoorBase
import Derived.Test.YtbnbmjdjkadgoaaDoorXQt
namespace Go.Proofs.YtbnbmjdjkadgoaaDoor.D
set_option linter.unusedVariables false
abbrev B8 := List UInt8

/-- An entity. -/
structure En where
  kind : Int
  id : B8
  name : B8
  owner : B8
  type : B8
  stat : Bool
  params : List B8
  file : Int
  at_ : Int
deriving DecidableEq
theorem En.eq_iff {a b : En} : a = b ↔ a.kind = b.kind ∧ a.id = b.id ∧ a.name = b.name ∧ a.owner = b.owner ∧ a.type = b.type ∧ a.stat = b.stat ∧ a.params = b.params ∧ a.file = b.file ∧ a.at_ = b.at_ := by
  obtain ⟨k1, i1, x1, o1, y1, t1, l1, f1, z1⟩ := a
  obtain ⟨k2, i2, x2, o2, y2, t2, l2, f2, z2⟩ := b
  rw [En.mk.injEq]
def kd (k : Nd) : Int := k.hd.kind
/-- Is a node a parameter, or a local? -/
def isLoc (k : Nd) : Bool := (kd k == 4) || (kd k == 6)
mutual
/-- The parameters and locals within a node, in order, each with whether its name is seen already. -/
def evN (own : List B8) : Nd → List (Nd × Bool) | .mk _ ks => evK own ks
def evK (own : List B8) : List Nd → List (Nd × Bool)
  | [] => []
  | k :: ks => (if isLoc k then [(k, decide (k.hd.text ∈ own))] else []) ++ (evN own k ++ evK (if isLoc k then k.hd.text :: own else own) ks)
end
theorem evN_kids (own : List B8) (t : Nd) : evN own t = evK own t.kids := by cases t; rw [evN]; rfl
mutual
/-- Only which names are seen plays a part. -/
theorem evN_congr {a b : List B8} (h : ∀ x, x ∈ a ↔ x ∈ b) : ∀ t : Nd, evN a t = evN b t
  | .mk _ ks => by rw [evN, evN, evK_congr h ks]
theorem evK_congr {a b : List B8} (h : ∀ x, x ∈ a ↔ x ∈ b) : ∀ ks : List Nd, evK a ks = evK b ks
  | [] => by rw [evK, evK]
  | k :: ks => by
    rw [evK, evK, evN_congr h k, decide_eq_decide.2 (h k.hd.text)]
    by_cases hl : isLoc k
    · rw [if_pos hl, if_pos hl, if_pos hl, evK_congr (a := k.hd.text :: a) (b := k.hd.text :: b) (fun x => by simp [h x]) ks]
    · rw [if_neg hl, if_neg hl, if_neg hl, evK_congr h ks]
end
mutual
/-- They are the parameters and locals of all nodes, in order. -/
theorem evN_all (d : Nat) (own : List B8) : ∀ t : Nd, ((t.pre d).map (·.2)).filter isLoc = (if isLoc t then [t] else []) ++ (evN own t).map (·.1)
  | .mk h ks => by
    rw [Nd.pre, List.map_cons, List.filter_cons, evN, ← evK_all (d + 1) own ks]
    split <;> rfl
theorem evK_all (d : Nat) (own : List B8) : ∀ ks : List Nd, ((preL d ks).map (·.2)).filter isLoc = (evK own ks).map (·.1)
  | [] => by rw [preL, evK]; rfl
  | k :: ks => by
    rw [preL, evK, List.map_append, List.filter_append, evN_all d own k, evK_all d (if isLoc k then k.hd.text :: own else own) ks, List.map_append, List.map_append, List.append_assoc]
    congr 1
    split <;> rfl
end
mutual
theorem evN_cnt (own : List B8) : ∀ t : Nd, (evN own t).length ≤ t.cnt
  | .mk _ ks => by rw [evN, Nd.cnt]; have := evK_cnt own ks; omega
theorem evK_cnt (own : List B8) : ∀ ks : List Nd, (evK own ks).length ≤ cntL ks
  | [] => by rw [evK]; exact Nat.zero_le _
  | k :: ks => by
    rw [evK, cntL, List.length_append, List.length_append]
    have h2 := evK_cnt (if isLoc k then k.hd.text :: own else own) ks
    have h3 : (evN own k).length + 1 ≤ k.cnt := by
      cases k with
      | mk h js => rw [evN, Nd.cnt]; have := evK_cnt own js; omega
    have h4 : (if isLoc k then [(k, decide (k.hd.text ∈ own))] else []).length ≤ 1 := by split <;> simp
    omega
end
/-- A frame of the walk through a tree: a node, how many of its kids are done, and the names that these declare. -/
structure Fr where
  t : Nd
  i : Nat
  s : List B8
/-- All names that are seen. -/
def vis (fs : List Fr) : List B8 := fs.flatMap (·.s)
/-- A frame in which a kid is done. -/
def Fr.done (f : Fr) (k : Nd) : Fr := if isLoc k then { f with s := k.hd.text :: f.s } else f
def upd (k : Nd) : List Fr → List Fr
  | [] => []
  | f :: fs => f.done k :: fs
theorem upd_len (k : Nd) (fs : List Fr) : (upd k fs).length = fs.length := by cases fs <;> rfl
/-- What is left to come (the innermost frame first). -/
def rem : Nat → List Fr → List (Nd × Bool)
  | 0, _ => []
  | _, [] => []
  | n + 1, f :: fs => evK (vis (f :: fs)) (f.t.kids.drop f.i) ++ rem n (upd f.t fs)
theorem rem_succ (n : Nat) (f : Fr) (fs : List Fr) : rem (n + 1) (f :: fs) = evK (vis (f :: fs)) (f.t.kids.drop f.i) ++ rem n (upd f.t fs) := rfl
theorem vis_cons (f : Fr) (fs : List Fr) : vis (f :: fs) = f.s ++ vis fs := by simp [vis]
theorem vis_upd (k : Nd) (f : Fr) (fs : List Fr) : vis (upd k (f :: fs)) = if isLoc k then k.hd.text :: vis (f :: fs) else vis (f :: fs) := by
  rw [show upd k (f :: fs) = f.done k :: fs from rfl]
  unfold Fr.done
  split
  · rw [vis_cons, vis_cons]; rfl
  · rfl
/-- A kid is gone into. -/
theorem rem_push {n : Nat} {f : Fr} {fs : List Fr} {k : Nd} (h : f.t.kids[f.i]? = some k) (hn : (f :: fs).length ≤ n) :
    rem n (f :: fs) = (if isLoc k then [(k, decide (k.hd.text ∈ vis (f :: fs)))] else []) ++ rem (n + 1) (⟨k, 0, []⟩ :: { f with i := f.i + 1 } :: fs) := by
  obtain ⟨m, rfl⟩ : ∃ m, n = m + 1 := ⟨n - 1, by simp at hn; omega⟩
  have hd : f.t.kids.drop f.i = k :: f.t.kids.drop (f.i + 1) := by
    obtain ⟨hl, rfl⟩ := List.getElem?_eq_some_iff.1 h
    exact List.drop_eq_getElem_cons hl
  have e1 : vis (⟨k, 0, []⟩ :: { f with i := f.i + 1 } :: fs) = vis (f :: fs) := by rw [vis_cons, vis_cons, vis_cons]; rfl
  rw [rem_succ m f fs, rem_succ (m + 1), hd, evK, e1]
  show _ = _ ++ (evK (vis (f :: fs)) (List.drop 0 k.kids) ++ rem (m + 1) (upd k ({ f with i := f.i + 1 } :: fs)))
  rw [List.drop_zero, ← evN_kids, List.append_assoc, List.append_assoc]
  congr 2
  have e2 : upd k ({ f with i := f.i + 1 } :: fs) = { f.done k with i := f.i + 1 } :: fs := by
    rw [show upd k ({ f with i := f.i + 1 } :: fs) = ({ f with i := f.i + 1 } : Fr).done k :: fs from rfl]
    unfold Fr.done
    split <;> rfl
  have e3 : vis (upd k ({ f with i := f.i + 1 } :: fs)) = if isLoc k then k.hd.text :: vis (f :: fs) else vis (f :: fs) := by
    rw [vis_upd]
    have : vis ({ f with i := f.i + 1 } :: fs) = vis (f :: fs) := by rw [vis_cons, vis_cons]
    rw [this]
  rw [e2] at e3 ⊢
  rw [rem_succ, e3]
  have e4 : ({ f.done k with i := f.i + 1 } : Fr).t = f.t := by unfold Fr.done; split <;> rfl
  rw [e4]
/-- A frame whose kids are all done. -/
theorem rem_pop {n : Nat} {f : Fr} {fs : List Fr} (h : f.t.kids[f.i]? = none) : rem (n + 1) (f :: fs) = rem n (upd f.t fs) := by
  rw [rem_succ, List.drop_eq_nil_of_le (by simpa using h), evK, List.nil_append]
/-- A measure. -/
def wt (fs : List Fr) : Nat := (fs.map fun f => 2 * cntL (f.t.kids.drop f.i) + 1).sum
theorem wt_cons (f : Fr) (fs : List Fr) : wt (f :: fs) = 2 * cntL (f.t.kids.drop f.i) + 1 + wt fs := by simp [wt]
theorem wt_push {f : Fr} {fs : List Fr} {k : Nd} (h : f.t.kids[f.i]? = some k) : wt (⟨k, 0, []⟩ :: { f with i := f.i + 1 } :: fs) + 1 = wt (f :: fs) := by
  have hd : f.t.kids.drop f.i = k :: f.t.kids.drop (f.i + 1) := by
    obtain ⟨hl, rfl⟩ := List.getElem?_eq_some_iff.1 h
    exact List.drop_eq_getElem_cons hl
  rw [wt_cons, wt_cons, wt_cons, hd, cntL, cnt_kids]
  show 2 * cntL (List.drop 0 k.kids) + 1 + (2 * cntL (f.t.kids.drop (f.i + 1)) + 1 + wt fs) + 1 = _
  rw [List.drop_zero]
  omega
theorem wt_upd (k : Nd) (fs : List Fr) : wt (upd k fs) = wt fs := by
  cases fs with
  | nil => rfl
  | cons f fs => rw [upd, wt_cons, wt_cons]; unfold Fr.done; split <;> rfl

/-- What the names of no two classes or members have in common. -/
structure Key where
  kind : Int
  owner : B8
  name : B8
deriving DecidableEq
def En.key (e : En) : Key := ⟨e.kind, e.owner, e.name⟩
/-- One entity more, or the mistake: it is declared twice. -/
def step (out : List En) (e : En) (tw : Bool) : Bool := if e.kind = 4 then tw else decide (e.key ∈ (out.filter fun x => x.kind ≠ 4).map En.key)
/-- Entities, one after the other, as far as none is declared twice; and the first that is. -/
def runs (out : List En) : List (En × Bool) → List En × Option En
  | [] => (out, none)
  | (e, tw) :: l => if step out e tw then (out, some e) else runs (out ++ [e]) l
theorem runs_append (out : List En) (a b : List (En × Bool)) : runs out (a ++ b) = match runs out a with | (o, none) => runs o b | (o, some e) => (o, some e) := by
  induction a generalizing out with
  | nil => rfl
  | cons x a ih =>
    obtain ⟨e, tw⟩ := x
    rw [List.cons_append, runs, runs]
    split
    · rfl
    · exact ih _
/-- The digits of a number. -/
def dgt (n : Nat) : B8 := Go.Lib.decDigits n
def idF (c n : B8) : B8 := c ++ [46] ++ n
def idM (c n : B8) : B8 := c ++ [46] ++ n ++ [40, 41]
def idL (m : B8) (n : Nat) : B8 := m ++ [35] ++ dgt n
/-- What is the same for all. -/
def ent (kind file : Int) (n : Nd) (id owner : B8) : En := ⟨kind, id, n.hd.text, owner, n.hd.type, false, [], file, n.hd.at_⟩
def locE (file : Int) (owner : B8) (x : Nd × Bool) (i : Nat) : En × Bool := (ent 4 file x.1 (idL owner i) owner, x.2)
/-- The parameters and locals from number i on. -/
def locs (file : Int) (owner : B8) : Nat → List (Nd × Bool) → List (En × Bool)
  | _, [] => []
  | i, x :: l => locE file owner x i :: locs file owner (i + 1) l
theorem locs_append (file : Int) (owner : B8) : ∀ (i : Nat) (a b : List (Nd × Bool)), locs file owner i (a ++ b) = locs file owner i a ++ locs file owner (i + a.length) b
  | i, [], b => rfl
  | i, x :: a, b => by
    rw [List.cons_append, locs, locs, List.cons_append, locs_append file owner (i + 1) a b, List.length_cons, Nat.add_right_comm, Nat.add_assoc]
def prm (n : Nd) : List B8 := (n.kids.filter fun k => kd k == 4).map fun k => k.hd.type
def metE (file : Int) (owner : B8) (n : Nd) : En := { ent 3 file n (idM owner n.hd.text) owner with stat := n.hd.n == 1, params := prm n }
def fldE (file : Int) (owner : B8) (n : Nd) : En := { ent 2 file n (idF owner n.hd.text) owner with stat := n.hd.n == 1 }
def clsE (file : Int) (n : Nd) : En := ent 1 file n n.hd.text []
/-- What a member declares. -/
def memEv (file : Int) (owner : B8) (k : Nd) : List (En × Bool) :=
  if kd k = 2 then [(fldE file owner k, false)] else if kd k = 3 then (metE file owner k, false) :: locs file (idM owner k.hd.text) 0 (evN [] k) else []
/-- What a class declares. -/
def clsEv (file : Int) (n : Nd) : List (En × Bool) := if kd n = 1 then (clsE file n, false) :: n.kids.flatMap (memEv file n.hd.text) else []
def filEv (file : Int) (l : List Nd) : List (En × Bool) := l.flatMap (clsEv file)
def allEv : Nat → List (List Nd) → List (En × Bool)
  | _, [] => []
  | i, l :: ls => filEv (i : Nat) l ++ allEv (i + 1) ls
/-- The table of files, or the first that is declared twice. -/
def table (fs : List (List Nd)) : List En × Option En := runs [] (allEv 0 fs)
end Go.Proofs.YtbnbmjdjkadgoaaDoor.D
/-
  For the laws of decls: entities in memory: a row that reads as entities, and one that the call made. No condition.
-/
namespace Go.Proofs.YtbnbmjdjkadgoaaDoor.D
open Go.RowKit Go.Shelf
set_option linter.unusedVariables false

/-- A slice that reads as texts. -/
def StrsAt (W : World) (v : Value) (l : List B8) : Prop := ∃ (a : Option Addr) (cap : Nat), v = .slice a l.length cap ∧ l.length ≤ cap ∧ cap ≤ maxLen ∧
  ∀ (k : Nat) (s : B8), l[k]? = some s → ∃ b off, a = some ⟨b, off, none⟩ ∧ W.cell? ⟨b, off + k, none⟩ = some (.string (bs s))
theorem StrsAt.nil (W : World) : StrsAt W (.slice none 0 0) [] := ⟨none, 0, rfl, Nat.le_refl _, Nat.zero_le _, fun k s h => by simp at h⟩
theorem StrsAt.below {W W' : World} {v : Value} {l : List B8} (h : StrsAt W v l) (hb : Below W.heap.size W W') : StrsAt W' v l := by
  obtain ⟨a, cap, e, h1, h2, h3⟩ := h
  refine ⟨a, cap, e, h1, h2, fun k s hk => ?_⟩
  obtain ⟨b, off, e2, hc⟩ := h3 k s hk
  exact ⟨b, off, e2, (hb.cell (p := ⟨b, off + k, none⟩) (World.block_lt_of_cell? W _ hc)).trans hc⟩
/-- The texts rest on the blocks F, all rows of texts, from lo on. -/
def SupT (W : World) (lo : Nat) (l : List B8) (v : Value) (F : Nat → Prop) : Prop := (∀ b, F b → lo ≤ b ∧ ∃ cs fr, W.heap[b]? = some (.cells cs 9 fr)) ∧ ∀ V : World, (∀ b, F b → V.heap[b]? = W.heap[b]?) → StrsAt V v l
theorem SupT.at_ {W : World} {lo : Nat} {l : List B8} {v : Value} {F : Nat → Prop} (h : SupT W lo l v F) : StrsAt W v l := h.2 W fun _ _ => rfl
theorem SupT.lt {W : World} {lo : Nat} {l : List B8} {v : Value} {F : Nat → Prop} (h : SupT W lo l v F) {b : Nat} (hb : F b) : b < W.heap.size := by
  obtain ⟨_, cs, fr, h2⟩ := h.1 b hb
  exact (Array.getElem?_eq_some_iff.1 h2).1
theorem SupT.keep {W W' : World} {lo : Nat} {l : List B8} {v : Value} {F : Nat → Prop} (h : SupT W lo l v F) (hb : ∀ b, F b → W'.heap[b]? = W.heap[b]?) : SupT W' lo l v F :=
  ⟨fun b hF => ⟨(h.1 b hF).1, by rw [hb b hF]; exact (h.1 b hF).2⟩, fun V hV => h.2 V fun b hF => (hV b hF).trans (hb b hF)⟩
theorem SupT.below {W W' : World} {lo : Nat} {l : List B8} {v : Value} {F : Nat → Prop} (h : SupT W lo l v F) (hb : Below W.heap.size W W') : SupT W' lo l v F := h.keep fun b hF => hb.block b (h.lt hF)
theorem SupT.low {W : World} {lo lo' : Nat} {l : List B8} {v : Value} {F : Nat → Prop} (h : SupT W lo l v F) (hl : lo' ≤ lo) : SupT W lo' l v F := ⟨fun b hF => ⟨Nat.le_trans hl (h.1 b hF).1, (h.1 b hF).2⟩, h.2⟩
theorem SupT.nil (W : World) (lo : Nat) : SupT W lo [] (.slice none 0 0) (fun _ => False) := ⟨fun b h => h.elim, fun V _ => StrsAt.nil V⟩
/-- An own row of texts. -/
theorem SupT.own {W : World} {base n : Nat} {v : Value} {l : List B8} (h : W.ownsRow base 9 1 v n (l.map fun s => .string (bs s))) (hn : n = l.length) : SupT W base l v (fun b => v.ownBlock = some b) := by
  subst hn
  have hh := h
  rcases h.2 with ⟨rfl, h0⟩ | ⟨g, cap, cur, rfl, _, hg, h1, h2, h3, h4⟩
  · have : l = [] := List.length_eq_zero_iff.1 h0
    subst this
    exact ⟨fun b hb => (by cases hb), fun V _ => StrsAt.nil V⟩
  · refine ⟨fun b hb => ⟨(hh.lt b hb).1, by obtain rfl := Option.some.inj hb; exact ⟨_, _, hg⟩⟩, fun V hV => ?_⟩
    have hgV : V.heap[g]? = some (.cells cur 9 (0, 0)) := (hV g rfl).trans hg
    refine ⟨_, cap, rfl, h1, h2, fun k s hk => ⟨g, 0, rfl, ?_⟩⟩
    have hkl := (List.getElem?_eq_some_iff.1 hk).1
    have : (l.map fun s => Value.string (bs s))[k]? = some (.string (bs s)) := by rw [List.getElem?_map, hk]; rfl
    rw [← h4, List.getElem?_take_of_lt (by omega)] at this
    simp [World.cell?, hgV]
    simpa using this
/-- An entity's cells. -/
def En.vals (e : En) (pv : Value) : Array Value := #[.int .i64 e.kind, .string (bs e.id), .string (bs e.name), .string (bs e.owner), .string (bs e.type), .bool e.stat, pv, .int .i64 e.file, .int .i64 e.at_]
abbrev En.agg (e : En) (pv : Value) : Value := .agg (e.vals pv)
/-- The nine cells from o on, in block b. -/
structure ECells (W : World) (b o : Nat) (e : En) (pv : Value) : Prop where
  c0 : W.cell? ⟨b, o, none⟩ = some (.int .i64 e.kind)
  c1 : W.cell? ⟨b, o + 1, none⟩ = some (.string (bs e.id))
  c2 : W.cell? ⟨b, o + 2, none⟩ = some (.string (bs e.name))
  c3 : W.cell? ⟨b, o + 3, none⟩ = some (.string (bs e.owner))
  c4 : W.cell? ⟨b, o + 4, none⟩ = some (.string (bs e.type))
  c5 : W.cell? ⟨b, o + 5, none⟩ = some (.bool e.stat)
  c6 : W.cell? ⟨b, o + 6, none⟩ = some pv
  c7 : W.cell? ⟨b, o + 7, none⟩ = some (.int .i64 e.file)
  c8 : W.cell? ⟨b, o + 8, none⟩ = some (.int .i64 e.at_)
theorem ECells.lt {W : World} {b o : Nat} {e : En} {pv : Value} (c : ECells W b o e pv) : b < W.heap.size := World.block_lt_of_cell? W _ c.c0
theorem ECells.same {W W' : World} {b o : Nat} {e : En} {pv : Value} (c : ECells W b o e pv) (hs : ∀ j, j < 9 → W'.cell? ⟨b, o + j, none⟩ = W.cell? ⟨b, o + j, none⟩) : ECells W' b o e pv :=
  ⟨(hs 0 (by omega)).trans c.c0, (hs 1 (by omega)).trans c.c1, (hs 2 (by omega)).trans c.c2, (hs 3 (by omega)).trans c.c3, (hs 4 (by omega)).trans c.c4, (hs 5 (by omega)).trans c.c5, (hs 6 (by omega)).trans c.c6, (hs 7 (by omega)).trans c.c7, (hs 8 (by omega)).trans c.c8⟩
theorem ECells.later {W W' : World} {b o : Nat} {e : En} {pv : Value} (c : ECells W b o e pv) (hb : Below W.heap.size W W') : ECells W' b o e pv := c.same fun j _ => hb.cell (p := ⟨b, o + j, none⟩) c.lt
theorem ECells.row {W : World} {b : Nat} {t : TypeId} {e : En} {pv : Value} (r : RowAt W b t (e.vals pv)) : ECells W b 0 e pv :=
  ⟨r.cell (j := 0) rfl, r.cell (j := 1) rfl, r.cell (j := 2) rfl, r.cell (j := 3) rfl, r.cell (j := 4) rfl, r.cell (j := 5) rfl, r.cell (j := 6) rfl, r.cell (j := 7) rfl, r.cell (j := 8) rfl⟩
/-- A slice that reads as entities. -/
def EnsAt (W : World) (v : Value) (l : List En) : Prop := ∃ (a : Option Addr) (cap : Nat), v = .slice a l.length cap ∧ l.length ≤ cap ∧ cap ≤ maxLen ∧
  ∀ (k : Nat) (e : En), l[k]? = some e → ∃ b off pv, a = some ⟨b, off, none⟩ ∧ ECells W b (off + k * 9) e pv ∧ StrsAt W pv e.params
theorem EnsAt.nil (W : World) : EnsAt W (.slice none 0 0) [] := ⟨none, 0, rfl, Nat.le_refl _, Nat.zero_le _, fun k s h => by simp at h⟩
theorem EnsAt.below {W W' : World} {v : Value} {l : List En} (h : EnsAt W v l) (hb : Below W.heap.size W W') : EnsAt W' v l := by
  obtain ⟨a, cap, e, h1, h2, h3⟩ := h
  refine ⟨a, cap, e, h1, h2, fun k s hk => ?_⟩
  obtain ⟨b, off, pv, e2, hc, hs⟩ := h3 k s hk
  exact ⟨b, off, pv, e2, hc.later hb, hs.below hb⟩
abbrev Pe := En × Value
def rowE (p : Pe) : List Value := (p.1.vals p.2).toList
def fe (L : List Pe) : List Value := L.flatMap rowE
theorem rowE_len (p : Pe) : (rowE p).length = 9 := rfl
theorem fe_len (L : List Pe) : (fe L).length = L.length * 9 := by
  unfold fe
  induction L with
  | nil => rfl
  | cons x L ih => rw [List.flatMap_cons, List.length_append, ih, List.length_cons, rowE_len]; omega
theorem fe_append (A B : List Pe) : fe (A ++ B) = fe A ++ fe B := by unfold fe; rw [List.flatMap_append]
theorem fe_one (p : Pe) : fe [p] = rowE p := by simp [fe]
theorem fe_get {L : List Pe} {k : Nat} {x : Pe} (h : L[k]? = some x) (j : Nat) (hj : j < 9) : (fe L)[k * 9 + j]? = (rowE x)[j]? := by
  have e : L = L.take k ++ x :: L.drop (k + 1) := by
    obtain ⟨hk, rfl⟩ := List.getElem?_eq_some_iff.1 h
    rw [← List.drop_eq_getElem_cons hk, List.take_append_drop]
  have hkl := (List.getElem?_eq_some_iff.1 h).1
  have hl : (fe (L.take k)).length = k * 9 := by rw [fe_len, List.length_take]; congr 1; omega
  rw [e, fe_append, show x :: L.drop (k + 1) = [x] ++ L.drop (k + 1) from rfl, fe_append, fe_one]
  rw [List.getElem?_append_right (by omega), hl, show k * 9 + j - k * 9 = j by omega, List.getElem?_append_left (by rw [rowE_len]; exact hj)]
/-- An own row of entities, each with parameters at rest on blocks from base on. -/
def OwnE (base : Nat) (W : World) (v : Value) (ps : List Pe) : Prop := W.ownsRow base 34 9 v ps.length (fe ps) ∧ base ≤ W.heap.size ∧ ∀ p ∈ ps, ∃ F, SupT W base p.1.params p.2 F
theorem OwnE.nil {base : Nat} {W : World} (h : base ≤ W.heap.size) : OwnE base W (.slice none 0 0) [] := ⟨World.ownsRow_nil _ _ _ _, h, fun p hp => by cases hp⟩
theorem OwnE.low {base base' : Nat} {W : World} {v : Value} {ps : List Pe} (h : OwnE base W v ps) (hb : base' ≤ base) : OwnE base' W v ps :=
  ⟨own_low h.1 hb, Nat.le_trans hb h.2.1, fun p hp => by obtain ⟨F, h1⟩ := h.2.2 p hp; exact ⟨F, h1.low hb⟩⟩
/-- Block b is a row of entities, or of texts. -/
def Et (W : World) (b : Nat) : Prop := ∃ cs t fr, W.heap[b]? = some (.cells cs t fr) ∧ (t = 34 ∨ t = 9)
theorem owns_on {base : Nat} {W V : World} {v : Value} {ps : List Pe} (h : OwnE base W v ps) (hs : W.heap.size ≤ V.heap.size) (hb : ∀ b, base ≤ b → b < W.heap.size → Et W b → V.heap[b]? = W.heap[b]?) : OwnE base V v ps := by
  obtain ⟨h1, h2, h3⟩ := h
  refine ⟨⟨h1.1, ?_⟩, Nat.le_trans h2 hs, fun p hp => ?_⟩
  · rcases h1.2 with h0 | ⟨g, cap, cur, e1, k1, hg, k2, k3, k4, k5⟩
    · exact .inl h0
    · exact .inr ⟨g, cap, cur, e1, k1, (hb g k1 (Array.getElem?_eq_some_iff.1 hg).1 ⟨_, _, _, hg, .inl rfl⟩).trans hg, k2, k3, k4, k5⟩
  · obtain ⟨F, hF⟩ := h3 p hp
    exact ⟨F, hF.keep fun b hbF => by
      obtain ⟨h5, cs, fr, h6⟩ := hF.1 b hbF
      exact hb b h5 (hF.lt hbF) ⟨_, _, _, h6, .inr rfl⟩⟩
theorem OwnE.below {base : Nat} {W W' : World} {v : Value} {ps : List Pe} (h : OwnE base W v ps) (hb : Below W.heap.size W W') : OwnE base W' v ps := owns_on h hb.size fun b _ h2 _ => hb.block b h2
theorem OwnE.at_ {base : Nat} {W : World} {v : Value} {ps : List Pe} (h : OwnE base W v ps) : EnsAt W v (ps.map (·.1)) := by
  obtain ⟨h1, _, h3⟩ := h
  rcases h1.2 with ⟨rfl, h0⟩ | ⟨g, cap, cur, rfl, _, hg, k1, k2, k3, k4⟩
  · have : ps = [] := List.length_eq_zero_iff.1 h0
    subst this
    exact EnsAt.nil W
  · refine ⟨_, cap, by rw [List.length_map], by rw [List.length_map]; exact k1, k2, fun k e hk => ?_⟩
    rw [List.getElem?_map] at hk
    cases hp : ps[k]? with
    | none => rw [hp] at hk; simp at hk
    | some p =>
      rw [hp] at hk
      obtain rfl : p.1 = e := by simpa using hk
      have hkl := (List.getElem?_eq_some_iff.1 hp).1
      have cell : ∀ j, j < 9 → W.cell? ⟨g, 0 + k * 9 + j, none⟩ = (rowE p)[j]? := fun j hj => by
        rw [← fe_get hp j hj, ← k4, List.getElem?_take_of_lt (by omega), Nat.zero_add]
        simp [World.cell?, hg]
      obtain ⟨F, hF⟩ := h3 p (List.mem_of_getElem? hp)
      exact ⟨g, 0, p.2, rfl, ⟨cell 0 (by omega), cell 1 (by omega), cell 2 (by omega), cell 3 (by omega), cell 4 (by omega), cell 5 (by omega), cell 6 (by omega), cell 7 (by omega), cell 8 (by omega)⟩, hF.at_⟩
/-- One entity more. -/
theorem OwnE.snoc {base n g cap : Nat} {W w' : World} {v : Value} {ps : List Pe} {p : Pe} {F : Nat → Prop} (h : OwnE base W v ps) (hp : SupT W base p.1.params p.2 F)
    (hown : w'.ownsRow base 34 9 (.slice (some ⟨g, 0, none⟩) n cap) (ps.length + 1) (fe ps ++ rowE p)) (hgrow : W.grownBy w' v.ownBlock) : OwnE base w' (.slice (some ⟨g, 0, none⟩) n cap) (ps ++ [p]) := by
  have hs := hgrow.size
  have one : ∀ (q : Pe) (G : Nat → Prop), SupT W base q.1.params q.2 G → ∃ G', SupT w' base q.1.params q.2 G' := fun q G hq => by
    refine ⟨G, hq.keep fun b hb => hgrow.block b (hq.lt hb) fun e => ?_⟩
    obtain ⟨_, cs, fr, h6⟩ := hq.1 b hb
    rcases h.1.2 with ⟨e1, _⟩ | ⟨g2, cap2, cur, e1, _, hg, _⟩
    · rw [e1] at e; cases e
    · rw [e1] at e
      obtain rfl := Option.some.inj e
      rw [h6] at hg
      cases hg
  refine ⟨by rw [List.length_append, fe_append, fe_one]; exact hown, Nat.le_trans h.2.1 hs, fun q hq => ?_⟩
  rcases List.mem_append.1 hq with hq | hq
  · obtain ⟨G, h1⟩ := h.2.2 q hq
    exact one q G h1
  · obtain rfl := List.mem_singleton.1 hq
    exact one q F hp
theorem infoEnt : (Tryd.prog.info? 34).map (fun i => (i.zero, i.size, i.bytes)) = some (some (.agg #[.int .i64 0, .string ⟨#[]⟩, .string ⟨#[]⟩, .string ⟨#[]⟩, .string ⟨#[]⟩, .bool false, .slice none 0 0, .int .i64 0, .int .i64 0]), 9, 120) := by kernel_rfl
end Go.Proofs.YtbnbmjdjkadgoaaDoor.D
/-
  For the laws of decls: an entity that is made; whether two are the same. No condition.
-/
namespace Go.Proofs.YtbnbmjdjkadgoaaDoor.D
open Go.RowKit Go.Shelf
set_option linter.unusedSimpArgs false
set_option linter.unusedVariables false

theorem row_new2 (w : World) (o : Obj) (t : TypeId) (vs : Array Value) : RowAt ((w.alloc o).alloc (.cells vs t)) (w.heap.size + 1) t vs := by
  have := RowAt.new (w.alloc o) t vs
  rwa [World.size_alloc] at this
set_option maxRecDepth 100000 in
set_option maxHeartbeats 4000000 in
theorem entity_any (kind file : Int) (h : Hd) (ak : Option Addr) (nk ck : Nat) (id owner : ByteArray) (w : World) :
    Calls Tryd.prog 32 #[.int .i64 kind, .int .i64 file, .agg #[.int .i64 h.kind, .string (bs h.text), .string (bs h.type), .int .i64 h.n, .int .i64 h.fr, .int .i64 h.to_, .int .i64 h.at_, .int .i64 h.tat, .slice ak nk ck], .string id, .string owner] w fun e w' =>
      e = .returned (.agg #[.int .i64 kind, .string id, .string (bs h.text), .string owner, .string (bs h.type), .bool false, .slice none 0 0, .int .i64 file, .int .i64 h.at_]) ∧ Below w.heap.size w w' := by
  obtain ⟨k, tx, ty, n, fr, to_, at_, tat⟩ := h
  dsimp only
  obtain ⟨x, hx⟩ : ∃ x, bs tx = x := ⟨_, rfl⟩
  obtain ⟨y, hy⟩ : ∃ x, bs ty = x := ⟨_, rfl⟩
  rw [hx, hy]
  clear hx hy
  go_enter Tryd.func32, Tryd.ntmps32
  go_wp2_with fail
  exact bodyPost_ret (results_cell_row (P := Tryd.prog) rfl _ _ (w.heap.size + 1) 34 _ (0, 0) _ rfl (row_new2 w _ 34 _) Tryd.underlying34 rfl rfl) rfl ⟨rfl, ((Below.refl _ w).alloc (Nat.le_refl _) _).alloc (by simp) _⟩
/-- What a comparison answers. -/
def CmpQ (Q : Prop) (e : Ending) : Prop := ∃ r : Bool, e = .returned (.bool r) ∧ (r = true ↔ Q)
theorem CmpQ.no {Q : Prop} {e : Ending} (he : e = .returned (.bool false)) (h : ¬ Q) : CmpQ Q e := ⟨false, he, ⟨(fun h2 => by cases h2), fun h2 => absurd h2 h⟩⟩
theorem CmpQ.yes {Q : Prop} {e : Ending} (he : e = .returned (.bool true)) (h : Q) : CmpQ Q e := ⟨true, he, ⟨fun _ => h, fun _ => rfl⟩⟩
theorem CmpQ.bool {Q : Prop} [Decidable Q] {e : Ending} (h : CmpQ Q e) : e = .returned (.bool (decide Q)) := by
  obtain ⟨r, rfl, hr⟩ := h
  congr 2
  rw [Bool.eq_iff_iff, hr, decide_eq_true_iff]
theorem take_eq {l m : List B8} (hl : l.length = m.length) (h : l.take m.length = m.take m.length) : l = m := by
  rw [List.take_of_length_le (Nat.le_of_eq hl), List.take_of_length_le (Nat.le_refl _)] at h
  exact h
theorem take_one {l m : List B8} {k : Nat} {s : B8} (h : l.take k = m.take k) (h1 : l[k]? = some s) (h2 : m[k]? = some s) : l.take (k + 1) = m.take (k + 1) := by
  rw [List.take_add_one, List.take_add_one, h, h1, h2]
set_option maxRecDepth 100000 in
set_option maxHeartbeats 16000000 in
theorem One_any (w : World) (a b : En) (pa pb : Value) (hpa : StrsAt w pa a.params) (hpb : StrsAt w pb b.params) :
    Calls Tryd.prog 13 #[.agg #[.int .i64 a.kind, .string (bs a.id), .string (bs a.name), .string (bs a.owner), .string (bs a.type), .bool a.stat, pa, .int .i64 a.file, .int .i64 a.at_], .agg #[.int .i64 b.kind, .string (bs b.id), .string (bs b.name), .string (bs b.owner), .string (bs b.type), .bool b.stat, pb, .int .i64 b.file, .int .i64 b.at_]] w fun e w' => CmpQ (a = b) e ∧ Below w.heap.size w w' := by
  obtain ⟨aa, ca, rfl, hca, hcam, hxa⟩ := hpa
  obtain ⟨ab, cb, rfl, hcb, hcbm, hxb⟩ := hpb
  have key0 : a = b ↔ _ := En.eq_iff
  generalize (a = b) = Q at key0 ⊢
  have key := Lib.hid key0
  clear key0
  obtain ⟨k1, i1, x1, o1, y1, t1, l1, f1, z1⟩ := a
  obtain ⟨k2, i2, x2, o2, y2, t2, l2, f2, z2⟩ := b
  dsimp only at key hxa hxb hca hcb ⊢
  have Hxa := Lib.hid hxa
  have Hxb := Lib.hid hxb
  clear hxa hxb
  obtain ⟨n, hn⟩ : ∃ n, Hid (l1.length = n) := ⟨_, Lib.hid rfl⟩
  obtain ⟨n2, hn2⟩ : ∃ n, Hid (l2.length = n) := ⟨_, Lib.hid rfl⟩
  rw [hn.out] at hca ⊢
  rw [hn2.out] at hcb ⊢
  unfold maxLen at hcam hcbm
  have hbb : Hid (Below w.heap.size w ((w.alloc (.cells #[] 34)).alloc (.cells #[] 34))) := Lib.hid (((Below.refl _ w).alloc (Nat.le_refl _) _).alloc (by simp) _)
  by_cases e0 : k1 = k2
  rotate_left
  · have g0 : (k1 == k2) = false := by rw [beq_eq_false_iff_ne]; exact e0
    have hne : Hid (¬ Q) := Lib.hid (fun h => e0 (by
      have h2 := key.out.1 h
      try dsimp only at h2
      exact h2.1))
    go_enter Tryd.func13, Tryd.ntmps13
    go_wp2_with fail
    go_ret
    exact ⟨CmpQ.no rfl hne.out, ((Below.refl _ w).alloc (Nat.le_refl _) _).alloc (by simp) _⟩
  subst e0
  by_cases e1 : i1 = i2
  rotate_left
  · have g1 : (i1 == i2) = false := by rw [beq_eq_false_iff_ne]; exact e1
    have hne : Hid (¬ Q) := Lib.hid (fun h => e1 (by
      have h2 := key.out.1 h
      try dsimp only at h2
      exact h2.2.1))
    go_enter Tryd.func13, Tryd.ntmps13
    go_wp2_with fail
    go_ret
    exact ⟨CmpQ.no rfl hne.out, ((Below.refl _ w).alloc (Nat.le_refl _) _).alloc (by simp) _⟩
  subst e1
  by_cases e2 : x1 = x2
  rotate_left
  · have g2 : (x1 == x2) = false := by rw [beq_eq_false_iff_ne]; exact e2
    have hne : Hid (¬ Q) := Lib.hid (fun h => e2 (by
      have h2 := key.out.1 h
      try dsimp only at h2
      exact h2.2.2.1))
    go_enter Tryd.func13, Tryd.ntmps13
    go_wp2_with fail
    go_ret
    exact ⟨CmpQ.no rfl hne.out, ((Below.refl _ w).alloc (Nat.le_refl _) _).alloc (by simp) _⟩
  subst e2
  by_cases e3 : o1 = o2
  rotate_left
  · have g3 : (o1 == o2) = false := by rw [beq_eq_false_iff_ne]; exact e3
    have hne : Hid (¬ Q) := Lib.hid (fun h => e3 (by
      have h2 := key.out.1 h
      try dsimp only at h2
      exact h2.2.2.2.1))
    go_enter Tryd.func13, Tryd.ntmps13
    go_wp2_with fail
    go_ret
    exact ⟨CmpQ.no rfl hne.out, ((Below.refl _ w).alloc (Nat.le_refl _) _).alloc (by simp) _⟩
  subst e3
  by_cases e4 : y1 = y2
  rotate_left
  · have g4 : (y1 == y2) = false := by rw [beq_eq_false_iff_ne]; exact e4
    have hne : Hid (¬ Q) := Lib.hid (fun h => e4 (by
      have h2 := key.out.1 h
      try dsimp only at h2
      exact h2.2.2.2.2.1))
    go_enter Tryd.func13, Tryd.ntmps13
    go_wp2_with fail
    go_ret
    exact ⟨CmpQ.no rfl hne.out, ((Below.refl _ w).alloc (Nat.le_refl _) _).alloc (by simp) _⟩
  subst e4
  by_cases e5 : t1 = t2
  rotate_left
  · have g5 : (t1 == t2) = false := by rw [beq_eq_false_iff_ne]; exact e5
    have gg5 : (t1 != t2) = true := by simp [e5]
    have hne : Hid (¬ Q) := Lib.hid (fun h => e5 (by
      have h2 := key.out.1 h
      try dsimp only at h2
      exact h2.2.2.2.2.2.1))
    go_enter Tryd.func13, Tryd.ntmps13
    go_wp2_with fail
    go_ret
    exact ⟨CmpQ.no rfl hne.out, ((Below.refl _ w).alloc (Nat.le_refl _) _).alloc (by simp) _⟩
  subst e5
  by_cases e6 : f1 = f2
  rotate_left
  · have g6 : (f1 == f2) = false := by rw [beq_eq_false_iff_ne]; exact e6
    have hne : Hid (¬ Q) := Lib.hid (fun h => e6 (by
      have h2 := key.out.1 h
      try dsimp only at h2
      exact h2.2.2.2.2.2.2.2.1))
    go_enter Tryd.func13, Tryd.ntmps13
    go_wp2_with fail
    go_ret
    exact ⟨CmpQ.no rfl hne.out, ((Below.refl _ w).alloc (Nat.le_refl _) _).alloc (by simp) _⟩
  subst e6
  by_cases e7 : z1 = z2
  rotate_left
  · have g7 : (z1 == z2) = false := by rw [beq_eq_false_iff_ne]; exact e7
    have hne : Hid (¬ Q) := Lib.hid (fun h => e7 (by
      have h2 := key.out.1 h
      try dsimp only at h2
      exact h2.2.2.2.2.2.2.2.2))
    go_enter Tryd.func13, Tryd.ntmps13
    go_wp2_with fail
    go_ret
    exact ⟨CmpQ.no rfl hne.out, ((Below.refl _ w).alloc (Nat.le_refl _) _).alloc (by simp) _⟩
  subst e7
  obtain ⟨s1, h1⟩ : ∃ s, bs i1 = s := ⟨_, rfl⟩
  obtain ⟨s2, h2⟩ : ∃ s, bs x1 = s := ⟨_, rfl⟩
  obtain ⟨s3, h3⟩ : ∃ s, bs o1 = s := ⟨_, rfl⟩
  obtain ⟨s4, h4⟩ : ∃ s, bs y1 = s := ⟨_, rfl⟩
  rw [h1, h2, h3, h4]
  clear h1 h2 h3 h4
  by_cases el : n = n2
  rotate_left
  · have g9 : decide (n = n2) = false := decide_eq_false el
    have g8 : ((n : Int) == (n2 : Int)) = false := by rw [beq_eq_false_iff_ne]; omega
    have hne : Hid (¬ Q) := Lib.hid (fun h => el (by
      have h2 := key.out.1 h
      try dsimp only at h2
      rw [← hn.out, ← hn2.out, h2.2.2.2.2.2.2.1]))
    go_enter Tryd.func13, Tryd.ntmps13
    go_wp2_with fail
    go_ret
    exact ⟨CmpQ.no rfl hne.out, ((Below.refl _ w).alloc (Nat.le_refl _) _).alloc (by simp) _⟩
  subst el
  obtain ⟨W1, hW1⟩ : ∃ W1, Hid ((w.alloc (.cells #[.int .i64 k1, .string s1, .string s2, .string s3, .string s4, .bool t1, .slice aa n ca, .int .i64 f1, .int .i64 z1] 34)).alloc (.cells #[.int .i64 k1, .string s1, .string s2, .string s3, .string s4, .bool t1, .slice ab n cb, .int .i64 f1, .int .i64 z1] 34) = W1) := ⟨_, Lib.hid rfl⟩
  have R1 : Hid (RowAt W1 w.heap.size 34 #[.int .i64 k1, .string s1, .string s2, .string s3, .string s4, .bool t1, .slice aa n ca, .int .i64 f1, .int .i64 z1]) := by rw [← hW1.out]; exact Lib.hid ((RowAt.new w 34 _).alloc _)
  have R2 : Hid (RowAt W1 (w.heap.size + 1) 34 #[.int .i64 k1, .string s1, .string s2, .string s3, .string s4, .bool t1, .slice ab n cb, .int .i64 f1, .int .i64 z1]) := by rw [← hW1.out]; exact Lib.hid (row_new2 w _ 34 _)
  have B1 : Hid (Below w.heap.size w W1) := by rw [← hW1.out]; exact Lib.hid (((Below.refl _ w).alloc (Nat.le_refl _) _).alloc (by simp) _)
  have hs1 := B1.out.size
  go_enter Tryd.func13, Tryd.ntmps13
  go_wp2_with fail
  rw [hW1.out]
  go_loopw [5] (fun c wr => ∃ k : Nat, c = .int .i64 k ∧ k ≤ n ∧ Hid (l1.take k = l2.take k) ∧ Hid (Below W1.heap.size W1 wr)) (fun c _ => n - (intOf c).toNat)
  case atStart => exact ⟨0, rfl, by omega, Lib.hid rfl, Lib.hid (Below.refl _ _)⟩
  case round =>
    obtain ⟨k, rfl, hk, hP, hB⟩ := hrel
    have BWr := Lib.hid (B1.out.trans (hB.out.mono hs1))
    have c1 : wr.cell? ⟨w.heap.size, 6, none⟩ = some (.slice aa n ca) := (R1.out.later hB.out).cell (j := 6) rfl
    have c2 : wr.cell? ⟨w.heap.size + 1, 6, none⟩ = some (.slice ab n cb) := (R2.out.later hB.out).cell (j := 6) rfl
    by_cases hlt : k < n
    · obtain ⟨u, hu⟩ : ∃ x, l1[k]? = some x := ⟨_, List.getElem?_eq_getElem (by rw [hn.out]; exact hlt)⟩
      obtain ⟨v, hv⟩ : ∃ x, l2[k]? = some x := ⟨_, List.getElem?_eq_getElem (by rw [hn2.out]; exact hlt)⟩
      obtain ⟨ba, fa, rfl, ha⟩ := Hxa.out k u hu
      obtain ⟨bb, fb, rfl, hb⟩ := Hxb.out k v hv
      have d1 := (BWr.out.cell (p := ⟨ba, fa + k, none⟩) (World.block_lt_of_cell? w _ ha)).trans ha
      have d2 := (BWr.out.cell (p := ⟨bb, fb + k, none⟩) (World.block_lt_of_cell? w _ hb)).trans hb
      have i1 : (0 : Int) ≤ (k : Int) := by omega
      have i2 : (k : Int) < (n : Int) := by omega
      by_cases he : u = v
      · subst he
        have Ht := Lib.hid (take_one hP.out hu hv)
        clear ha hb hu hv
        go_wp2_with fail
        go_quiet (fail)
        go_wp2_with fail
        go_roundw
        case rel => exact ⟨k + 1, by go_num, by omega, Ht, Lib.hid (below_draws hB.out _)⟩
        case measure => simp [intOf]; omega
      · have g1 : (u == v) = false := by rw [beq_eq_false_iff_ne]; exact he
        have g2 : (u != v) = true := by simp [he]
        have hne : Hid (¬ Q) := Lib.hid (fun h => he (by
          have h2 := key.out.1 h
          try dsimp only at h2
          rw [h2.2.2.2.2.2.2.1, hv] at hu
          exact (Option.some.inj hu).symm))
        clear ha hb hu hv
        go_wp2_with fail
        go_quiet (fail)
        go_wp2_with fail
        go_ret
        exact ⟨CmpQ.no rfl hne.out, below_draws BWr.out _⟩
    · have hkn : k = n := by omega
      subst hkn
      have hQ : Hid Q := Lib.hid (key.out.2 (by
        have h9 : l1 = l2 := take_eq (hn.out.trans hn2.out.symm) (by rw [hn2.out]; exact hP.out)
        simp [h9]))
      go_wp2_with fail
      go_ret
      exact ⟨CmpQ.yes rfl hQ.out, BWr.out⟩
end Go.Proofs.YtbnbmjdjkadgoaaDoor.D
