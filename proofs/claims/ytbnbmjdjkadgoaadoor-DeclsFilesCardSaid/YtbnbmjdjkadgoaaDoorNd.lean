/-
  For the laws of node: trees of nodes: how many, how deep, in order, the same, changed; no program. No condition.
-/
import Derived.RowKit
namespace Go.Proofs.YtbnbmjdjkadgoaaDoor

/-- What a node says of itself. -/
structure Hd where
  kind : Int
  text : List UInt8
  type : List UInt8
  n : Int
  fr : Int
  to_ : Int
  at_ : Int
  tat : Int
deriving DecidableEq
/-- A tree of nodes. -/
inductive Nd where
  | mk (h : Hd) (ks : List Nd)
def Nd.hd : Nd → Hd | .mk h _ => h
def Nd.kids : Nd → List Nd | .mk _ ks => ks
theorem Nd.eta (t : Nd) : t = .mk t.hd t.kids := by cases t; rfl
mutual
/-- How many nodes. -/
def Nd.cnt : Nd → Nat | .mk _ ks => cntL ks + 1
def cntL : List Nd → Nat
  | [] => 0
  | t :: ts => t.cnt + cntL ts
end
mutual
/-- How deep. -/
def Nd.ht : Nd → Nat | .mk _ ks => htL ks + 1
def htL : List Nd → Nat
  | [] => 0
  | t :: ts => max t.ht (htL ts)
end
mutual
/-- The nodes in order, each with its depth. -/
def Nd.pre (d : Nat) : Nd → List (Nat × Nd) | .mk h ks => (d, .mk h ks) :: preL (d + 1) ks
def preL (d : Nat) : List Nd → List (Nat × Nd)
  | [] => []
  | t :: ts => t.pre d ++ preL d ts
end
mutual
/-- Every node changed. -/
def Nd.map (f : Hd → Hd) : Nd → Nd | .mk h ks => .mk (f h) (mapL f ks)
def mapL (f : Hd → Hd) : List Nd → List Nd
  | [] => []
  | t :: ts => t.map f :: mapL f ts
end
theorem mapL_eq (f : Hd → Hd) : ∀ ks, mapL f ks = ks.map (Nd.map f)
  | [] => by rw [mapL, List.map_nil]
  | t :: ts => by rw [mapL, mapL_eq f ts, List.map_cons]
theorem mapL_len (f : Hd → Hd) (ks : List Nd) : (mapL f ks).length = ks.length := by rw [mapL_eq, List.length_map]
theorem cnt_kids (t : Nd) : t.cnt = cntL t.kids + 1 := by cases t; rw [Nd.cnt]; rfl
theorem ht_kids (t : Nd) : t.ht = htL t.kids + 1 := by cases t; rw [Nd.ht]; rfl
theorem pre_kids (d : Nat) (t : Nd) : t.pre d = (d, t) :: preL (d + 1) t.kids := by cases t; rw [Nd.pre]; rfl
theorem map_kids (f : Hd → Hd) (t : Nd) : t.map f = .mk (f t.hd) (mapL f t.kids) := by cases t; rw [Nd.map]; rfl
theorem cntL_app : ∀ a b : List Nd, cntL (a ++ b) = cntL a + cntL b
  | [], b => by rw [List.nil_append, cntL]; omega
  | t :: a, b => by rw [List.cons_append, cntL, cntL, cntL_app a b]; omega
theorem preL_app (d : Nat) : ∀ a b : List Nd, preL d (a ++ b) = preL d a ++ preL d b
  | [], b => by rw [List.nil_append, preL, List.nil_append]
  | t :: a, b => by rw [List.cons_append, preL, preL, preL_app d a b, List.append_assoc]
theorem htL_app : ∀ a b : List Nd, htL (a ++ b) = max (htL a) (htL b)
  | [], b => by rw [List.nil_append, htL]; omega
  | t :: a, b => by rw [List.cons_append, htL, htL, htL_app a b]; omega
theorem cnt_pos (t : Nd) : 1 ≤ t.cnt := by rw [cnt_kids]; omega
theorem cntL_len : ∀ ks : List Nd, ks.length ≤ cntL ks
  | [] => by simp
  | t :: ts => by have := cntL_len ts; have := cnt_pos t; rw [cntL, List.length_cons]; omega
theorem cntL_mem : ∀ {ks : List Nd} {t : Nd}, t ∈ ks → t.cnt ≤ cntL ks
  | k :: ks, t, h => by
    rw [cntL]
    rcases List.mem_cons.1 h with rfl | h
    · omega
    · have := cntL_mem h; omega
theorem htL_mem : ∀ {ks : List Nd} {t : Nd}, t ∈ ks → t.ht ≤ htL ks
  | k :: ks, t, h => by
    rw [htL]
    rcases List.mem_cons.1 h with rfl | h
    · omega
    · have := htL_mem h; omega
theorem cntL_take {ks : List Nd} {k : Nat} {t : Nd} (h : ks[k]? = some t) : cntL (ks.take (k + 1)) = cntL (ks.take k) + t.cnt := by
  rw [List.take_add_one, h, cntL_app]
  simp [cntL]
theorem cntL_take_le (ks : List Nd) (k : Nat) : cntL (ks.take k) ≤ cntL ks := by
  have := cntL_app (ks.take k) (ks.drop k)
  rw [List.take_append_drop] at this
  omega
theorem htL_take {ks : List Nd} {k : Nat} {t : Nd} (h : ks[k]? = some t) : htL (ks.take (k + 1)) = max (htL (ks.take k)) t.ht := by
  rw [List.take_add_one, h, htL_app]
  simp [htL]
theorem preL_take {d : Nat} {ks : List Nd} {k : Nat} {t : Nd} (h : ks[k]? = some t) : preL d (ks.take (k + 1)) = preL d (ks.take k) ++ t.pre d := by
  rw [List.take_add_one, h, preL_app]
  simp [preL]
mutual
theorem pre_len (d : Nat) : ∀ t : Nd, (t.pre d).length = t.cnt
  | .mk h ks => by rw [Nd.pre, Nd.cnt, List.length_cons, preL_len (d + 1) ks]
theorem preL_len (d : Nat) : ∀ ks : List Nd, (preL d ks).length = cntL ks
  | [] => by rw [preL, cntL]; rfl
  | t :: ts => by rw [preL, cntL, List.length_append, pre_len d t, preL_len d ts]
end
/-- The nodes in order. -/
def Nd.all (t : Nd) : List Nd := (t.pre 0).map (·.2)
mutual
theorem pre_snd (d e : Nat) : ∀ t : Nd, (t.pre d).map (·.2) = (t.pre e).map (·.2)
  | .mk h ks => by rw [Nd.pre, Nd.pre, List.map_cons, List.map_cons, preL_snd (d + 1) (e + 1) ks]
theorem preL_snd (d e : Nat) : ∀ ks : List Nd, (preL d ks).map (·.2) = (preL e ks).map (·.2)
  | [] => by simp [preL]
  | t :: ts => by rw [preL, preL, List.map_append, List.map_append, pre_snd d e t, preL_snd d e ts]
end
/-- The greatest depth, in order. -/
def maxD (l : List (Nat × Nd)) (m : Nat) : Nat := l.foldl (fun m x => max m x.1) m
mutual
theorem maxD_pre (d m : Nat) : ∀ t : Nd, maxD (t.pre (d + 1)) m = max m (d + t.ht)
  | .mk h ks => by
    rw [Nd.pre, Nd.ht]
    show maxD (preL (d + 1 + 1) ks) (max m (d + 1)) = _
    rw [maxD_preL (d + 1) (max m (d + 1)) ks]
    split
    · rename_i h; rw [h, htL]
    · omega
theorem maxD_preL (d m : Nat) : ∀ ks : List Nd, maxD (preL (d + 1) ks) m = if ks = [] then m else max m (d + htL ks)
  | [] => by rw [preL, if_pos rfl]; rfl
  | t :: ts => by
    rw [preL, htL, if_neg (by simp)]
    unfold maxD
    rw [List.foldl_append]
    show maxD (preL (d + 1) ts) (maxD (t.pre (d + 1)) m) = _
    rw [maxD_pre d m t, maxD_preL d _ ts]
    split
    · rename_i h; rw [h, htL]; omega
    · omega
end
mutual
theorem map_cnt (f : Hd → Hd) : ∀ t : Nd, (t.map f).cnt = t.cnt
  | .mk h ks => by rw [Nd.map, Nd.cnt, Nd.cnt, mapL_cnt f ks]
theorem mapL_cnt (f : Hd → Hd) : ∀ ks : List Nd, cntL (mapL f ks) = cntL ks
  | [] => by rw [mapL]
  | t :: ts => by rw [mapL, cntL, cntL, map_cnt f t, mapL_cnt f ts]
end
mutual
theorem map_ht (f : Hd → Hd) : ∀ t : Nd, (t.map f).ht = t.ht
  | .mk h ks => by rw [Nd.map, Nd.ht, Nd.ht, mapL_ht f ks]
theorem mapL_ht (f : Hd → Hd) : ∀ ks : List Nd, htL (mapL f ks) = htL ks
  | [] => by rw [mapL]
  | t :: ts => by rw [mapL, htL, htL, map_ht f t, mapL_ht f ts]
end
mutual
theorem map_id' : ∀ t : Nd, t.map id = t
  | .mk h ks => by rw [Nd.map, mapL_id ks]; rfl
theorem mapL_id : ∀ ks : List Nd, mapL id ks = ks
  | [] => by rw [mapL]
  | t :: ts => by rw [mapL, map_id' t, mapL_id ts]
end
mutual
theorem map_map (f g : Hd → Hd) : ∀ t : Nd, (t.map f).map g = t.map (fun h => g (f h))
  | .mk h ks => by rw [Nd.map, Nd.map, Nd.map, mapL_map f g ks]
theorem mapL_map (f g : Hd → Hd) : ∀ ks : List Nd, mapL g (mapL f ks) = mapL (fun h => g (f h)) ks
  | [] => by rw [mapL, mapL, mapL]
  | t :: ts => by rw [mapL, mapL, mapL, map_map f g t, mapL_map f g ts]
end
/-- Without positions. -/
def plainH (h : Hd) : Hd := { h with fr := 0, to_ := 0, at_ := -1, tat := -1 }
/-- Nodes the same up to f: heads and kids. -/
theorem map_eq {f : Hd → Hd} {a b : Nd} : a.map f = b.map f ↔ f a.hd = f b.hd ∧ mapL f a.kids = mapL f b.kids := by
  rw [map_kids, map_kids, Nd.mk.injEq]
theorem mapL_get {f : Hd → Hd} {a b : List Nd} (hl : a.length = b.length) : mapL f a = mapL f b ↔ ∀ (k : Nat) (x y : Nd), a[k]? = some x → b[k]? = some y → x.map f = y.map f := by
  rw [mapL_eq, mapL_eq]
  constructor
  · intro h k x y hx hy
    have := congrArg (fun l => l[k]?) h
    simp only [List.getElem?_map, hx, hy, Option.map_some, Option.some.injEq] at this
    exact this
  · intro h
    refine List.ext_getElem? fun k => ?_
    rw [List.getElem?_map, List.getElem?_map]
    rcases Nat.lt_or_ge k a.length with hk | hk
    · rw [List.getElem?_eq_getElem hk, List.getElem?_eq_getElem (hl ▸ hk)]
      simp only [Option.map_some, Option.some.injEq]
      exact h k _ _ (List.getElem?_eq_getElem hk) (List.getElem?_eq_getElem (hl ▸ hk))
    · rw [List.getElem?_eq_none hk, List.getElem?_eq_none (hl ▸ hk)]
theorem mapL_len_eq {f : Hd → Hd} {a b : List Nd} (h : mapL f a = mapL f b) : a.length = b.length := by
  have := congrArg List.length h
  rwa [mapL_len, mapL_len] at this
end Go.Proofs.YtbnbmjdjkadgoaaDoor
