/-
  For the laws on the parser: what the document's parser makes of a row of tokens; each rule goes on and comes to an end; the tokens of a text. No program. No condition.
-/
import Derived.Test.YtbnbmjdjkadgoaaDoorXLex
import Derived.Test.YtbnbmjdjkadgoaaDoorSup
namespace Go.Proofs.YtbnbmjdjkadgoaaDoor.X
set_option linter.unusedVariables false


/-- What a rule gives: a thing and the next place; or where it goes wrong, and how. -/
inductive PR (α : Type) where
  | ok (x : α) (next : Nat)
  | bad (place : Nat) (code : Int)
/-- One rule behind another. -/
def bindP {α β : Type} (r : Option (PR α)) (g : α → Nat → Option (PR β)) : Option (PR β) :=
  match r with
  | none => none
  | some (.bad p c) => some (.bad p c)
  | some (.ok x next) => g x next
def sL : By := [40]
def sR : By := [41]
def sCom : By := [44]
def sDot : By := [46]
def sSemi : By := [59]
def sEq : By := [61]
def sBeg : By := [123]
def sEnd : By := [125]
def sNot : By := [33]
def sNeg : By := [45]
def sTrue : By := [116, 114, 117, 101]
def sFalse : By := [102, 97, 108, 115, 101]
def sNull : By := [110, 117, 108, 108]
def sThis : By := [116, 104, 105, 115]
def sNew : By := [110, 101, 119]
def sInt : By := [105, 110, 116]
def sBoolean : By := [98, 111, 111, 108, 101, 97, 110]
def sVoid : By := [118, 111, 105, 100]
def sIf : By := [105, 102]
def sElse : By := [101, 108, 115, 101]
def sWhile : By := [119, 104, 105, 108, 101]
def sReturn : By := [114, 101, 116, 117, 114, 110]
def sPrint : By := [112, 114, 105, 110, 116]
def sStatic : By := [115, 116, 97, 116, 105, 99]
def sClass : By := [99, 108, 97, 115, 115]
def sExtends : By := [101, 120, 116, 101, 110, 100, 115]
/-- Has a token this text, and is it no name? -/
def isT (T : List Tk) (a : Nat) (s : By) : Bool :=
  match T[a]? with
  | some t => decide (t.text = s) && !decide (t.kind = 1) && !decide (t.kind = 5)
  | none => false
def nmT (T : List Tk) (a : Nat) : Bool :=
  match T[a]? with
  | some t => decide (t.kind = 1)
  | none => false
def tokT (T : List Tk) (a : Nat) : Tk := T[a]?.getD ⟨0, [], 0, []⟩
def endT (T : List Tk) (a : Nat) : Int := (tokT T (a - 1)).at_ + (tokT T (a - 1)).text.length
/-- A node of a kind that stands from a place up to another one. -/
def madeH (T : List Tk) (kind : Int) (a b : Nat) : Hd := ⟨kind, [], [], 0, (tokT T a).at_, endT T b, -1, -1⟩
/-- It is called what a token is. -/
def namedH (T : List Tk) (h : Hd) (k : Nat) : Hd := { h with text := (tokT T k).text, at_ := (tokT T k).at_ }
/-- How tightly an operator binds. -/
def bindsT (T : List Tk) (a : Nat) : Nat :=
  if isT T a [124, 124] then 1 else if isT T a [38, 38] then 2
  else if isT T a [61, 61] then 3 else if isT T a [33, 61] then 3
  else if isT T a [60] then 4 else if isT T a [60, 61] then 4 else if isT T a [62] then 4 else if isT T a [62, 61] then 4
  else if isT T a [43] then 5 else if isT T a [45] then 5
  else if isT T a [42] then 6 else if isT T a [47] then 6 else if isT T a [37] then 6 else 0
mutual
def primF : Nat → List Tk → Nat → Nat → Option (PR Nd)
  | 0, _, _, _ => none
  | f + 1, T, a, d =>
    if (tokT T a).kind = 2 then some (.ok (.mk { madeH T 13 a (a + 1) with n := (valOf (tokT T a).text : Nat) } []) (a + 1))
    else if isT T a sTrue then some (.ok (.mk { madeH T 14 a (a + 1) with n := 1 } []) (a + 1))
    else if isT T a sFalse then some (.ok (.mk (madeH T 14 a (a + 1)) []) (a + 1))
    else if isT T a sNull then some (.ok (.mk (madeH T 15 a (a + 1)) []) (a + 1))
    else if isT T a sThis then some (.ok (.mk (madeH T 16 a (a + 1)) []) (a + 1))
    else if isT T a sNew then
      if nmT T (a + 1) then
        if isT T (a + 2) sL then
          if isT T (a + 3) sR then some (.ok (.mk (namedH T (madeH T 21 a (a + 4)) (a + 1)) []) (a + 4))
          else some (.bad (a + 3) 120)
        else some (.bad (a + 2) 120)
      else some (.bad (a + 1) 120)
    else if isT T a sL then
      bindP (levelF f T (a + 1) d 1) fun n next => if isT T next sR then some (.ok n (next + 1)) else some (.bad next 120)
    else if nmT T a then
      if isT T (a + 1) sL then
        bindP (argsF f T (a + 2) d) fun l next => some (.ok (.mk { namedH T (madeH T 17 a (a + 1)) a with kind := 19, to_ := endT T next } l) next)
      else some (.ok (.mk (namedH T (madeH T 17 a (a + 1)) a) []) (a + 1))
    else some (.bad a 120)
def argsF : Nat → List Tk → Nat → Nat → Option (PR (List Nd))
  | 0, _, _, _ => none
  | f + 1, T, a, d => if isT T a sR then some (.ok [] (a + 1)) else argLF f T a d []
def argLF : Nat → List Tk → Nat → Nat → List Nd → Option (PR (List Nd))
  | 0, _, _, _, _ => none
  | f + 1, T, a, d, acc =>
    bindP (levelF f T a d 1) fun n next =>
      if isT T next sR then some (.ok (acc ++ [n]) (next + 1))
      else if isT T next sCom then argLF f T (next + 1) d (acc ++ [n]) else some (.bad next 120)
def unaryF : Nat → List Tk → Nat → Nat → Option (PR Nd)
  | 0, _, _, _ => none
  | f + 1, T, a, d =>
    if 60 < d then some (.bad a 2)
    else if isT T a sNot || isT T a sNeg then
      bindP (unaryF f T (a + 1) (d + 1)) fun n next => some (.ok (.mk (madeH T (if (tokT T a).text = sNeg then 23 else 22) a next) [n]) next)
    else
      bindP (primF f T a (d + 1)) fun n next => dotF f T a d next n
def dotF : Nat → List Tk → Nat → Nat → Nat → Nd → Option (PR Nd)
  | 0, _, _, _, _, _ => none
  | f + 1, T, a, d, next, n =>
    if isT T next sDot then
      if nmT T (next + 1) then
        if isT T (next + 2) sL then
          bindP (argsF f T (next + 3) (d + 1)) fun l b => dotF f T a d b (.mk (namedH T (madeH T 20 a b) (next + 1)) (n :: l))
        else dotF f T a d (next + 2) (.mk (namedH T (madeH T 18 a (next + 2)) (next + 1)) [n])
      else some (.bad (next + 1) 120)
    else some (.ok n next)
def levelF : Nat → List Tk → Nat → Nat → Nat → Option (PR Nd)
  | 0, _, _, _, _ => none
  | f + 1, T, a, d, l =>
    if 6 < l then unaryF f T a d
    else
      bindP (levelF f T a d (l + 1)) fun n next => levLF f T a d l next n
def levLF : Nat → List Tk → Nat → Nat → Nat → Nat → Nd → Option (PR Nd)
  | 0, _, _, _, _, _, _ => none
  | f + 1, T, a, d, l, next, n =>
    if bindsT T next = l then
      bindP (levelF f T (next + 1) d (l + 1)) fun r b => levLF f T a d l b (.mk { madeH T 24 a b with text := (tokT T next).text } [n, r])
    else some (.ok n next)
end
def kindT (T : List Tk) (a : Nat) : Bool := nmT T a || isT T a sInt || isT T a sBoolean || isT T a sVoid
def localT (T : List Tk) (a : Nat) : Bool := isT T a sInt || isT T a sBoolean || isT T a sVoid || (nmT T a && nmT T (a + 1))
def typedH (T : List Tk) (h : Hd) (a : Nat) : Hd := { h with type := (tokT T a).text, tat := (tokT T a).at_, text := (tokT T (a + 1)).text, at_ := (tokT T (a + 1)).at_ }
def localsF (f : Nat) (T : List Tk) (a d : Nat) : Option (PR Nd) :=
  if isT T a sVoid then some (.bad a 120)
  else if nmT T (a + 1) then
    if isT T (a + 2) sEq then
      bindP (levelF f T (a + 3) (d + 1) 1) fun x next => if isT T next sSemi then some (.ok (.mk (typedH T (madeH T 6 a (next + 1)) a) [x]) (next + 1)) else some (.bad next 120)
    else some (.bad (a + 2) 120)
  else some (.bad (a + 1) 120)
def bracF (f : Nat) (T : List Tk) (a d : Nat) : Option (PR Nd) :=
  if isT T a sL then
    bindP (levelF f T (a + 1) d 1) fun n next => if isT T next sR then some (.ok n (next + 1)) else some (.bad next 120)
  else some (.bad a 120)
def simpleF (f : Nat) (T : List Tk) (a d : Nat) : Option (PR Nd) :=
  if isT T a sPrint then
    bindP (bracF f T (a + 1) (d + 1)) fun n next => if isT T next sSemi then some (.ok (.mk (madeH T 12 a (next + 1)) [n]) (next + 1)) else some (.bad next 120)
  else if isT T (a + 1) sSemi then some (.ok (.mk (madeH T 11 a (a + 2)) []) (a + 2))
  else
    bindP (levelF f T (a + 1) (d + 1) 1) fun n next => if isT T next sSemi then some (.ok (.mk (madeH T 11 a (next + 1)) [n]) (next + 1)) else some (.bad next 120)
/-- A statement that is an expression, or sets something. -/
def exprF (f : Nat) (T : List Tk) (a d : Nat) : Option (PR Nd) :=
  bindP (levelF f T a (d + 1) 1) fun n next =>
    if isT T next sEq then
      bindP (levelF f T (next + 1) (d + 1) 1) fun r b => if isT T b sSemi then some (.ok (.mk (madeH T 7 a (b + 1)) [n, r]) (b + 1)) else some (.bad b 120)
    else if isT T next sSemi then some (.ok (.mk (madeH T 8 a (next + 1)) [n]) (next + 1)) else some (.bad next 120)
mutual
def stF : Nat → List Tk → Nat → Nat → Option (PR Nd)
  | 0, _, _, _ => none
  | f + 1, T, a, d =>
    if 60 < d then some (.bad a 2)
    else if isT T a sBeg then blkF f T a d
    else if isT T a sIf || isT T a sWhile then grdF f T a d
    else if isT T a sReturn || isT T a sPrint then simpleF f T a d
    else exprF f T a d
def grdF : Nat → List Tk → Nat → Nat → Option (PR Nd)
  | 0, _, _, _ => none
  | f + 1, T, a, d =>
    bindP (bracF f T (a + 1) (d + 1)) fun c next =>
      bindP (stF f T next (d + 1)) fun s b =>
        if isT T a sWhile then some (.ok (.mk (madeH T 10 a b) [c, s]) b)
        else if isT T b sElse then
          bindP (stF f T (b + 1) (d + 1)) fun e m => some (.ok (.mk (madeH T 9 a m) [c, s, e]) m)
        else some (.ok (.mk (madeH T 9 a b) [c, s]) b)
def blkF : Nat → List Tk → Nat → Nat → Option (PR Nd)
  | 0, _, _, _ => none
  | f + 1, T, a, d => if isT T a sBeg then blkLF f T a (a + 1) d [] else some (.bad a 120)
def blkLF : Nat → List Tk → Nat → Nat → Nat → List Nd → Option (PR Nd)
  | 0, _, _, _, _, _ => none
  | f + 1, T, a, next, d, acc =>
    if isT T next sEnd then some (.ok (.mk (madeH T 5 a (next + 1)) acc) (next + 1))
    else
      bindP ((if localT T next then (localsF f T next (d + 1)).map (fun r => if 60 < d + 1 then .bad next 2 else r) else stF f T next (d + 1))) fun n b => blkLF f T a b d (acc ++ [n])
end
def parLF : Nat → List Tk → Nat → List Nd → Option (PR (List Nd))
  | 0, _, _, _ => none
  | f + 1, T, a, acc =>
    if kindT T a && !isT T a sVoid then
      if nmT T (a + 1) then
        if isT T (a + 2) sR then some (.ok (acc ++ [.mk (typedH T (madeH T 4 a (a + 2)) a) []]) (a + 3))
        else if isT T (a + 2) sCom then parLF f T (a + 3) (acc ++ [.mk (typedH T (madeH T 4 a (a + 2)) a) []])
        else some (.bad (a + 2) 120)
      else some (.bad (a + 1) 120)
    else some (.bad a 120)
def parF (f : Nat) (T : List Tk) (a : Nat) : Option (PR (List Nd)) := if isT T a sR then some (.ok [] (a + 1)) else parLF f T a []
/-- A member: from is where it begins, a where its type stands, st whether it is static. -/
def memAtF (f : Nat) (T : List Tk) (fr a : Nat) (st : Bool) : Option (PR Nd) :=
  if kindT T a then
    if nmT T (a + 1) then
      if isT T (a + 2) sSemi then
        if isT T a sVoid then some (.bad (a + 2) 120)
        else some (.ok (.mk { typedH T (madeH T 2 fr (a + 3)) a with n := if st then 1 else 0 } []) (a + 3))
      else if isT T (a + 2) sL then
        bindP (parF f T (a + 3)) fun l b =>
          bindP (blkF f T b 1) fun x m => some (.ok (.mk { typedH T (madeH T 3 fr m) a with n := if st then 1 else 0 } (l ++ [x])) m)
      else some (.bad (a + 2) 120)
    else some (.bad (a + 1) 120)
  else some (.bad a 120)
def memF (f : Nat) (T : List Tk) (a : Nat) : Option (PR Nd) := memAtF f T a (if isT T a sStatic then a + 1 else a) (isT T a sStatic)
def clsLF : Nat → List Tk → Nat → List Nd → Option (PR (List Nd))
  | 0, _, _, _ => none
  | f + 1, T, a, acc =>
    if isT T a sEnd then some (.ok acc (a + 1))
    else
      bindP (memF f T a) fun m b => clsLF f T b (acc ++ [m])
def clsBodyF (f : Nat) (T : List Tk) (a b : Nat) (sup : Option Nat) : Option (PR Nd) :=
  if isT T b sBeg then
    bindP (clsLF f T (b + 1) []) fun l m => some (.ok (.mk (match sup with | none => namedH T (madeH T 1 a m) (a + 1) | some k => { namedH T (madeH T 1 a m) (a + 1) with type := (tokT T k).text, tat := (tokT T k).at_ }) l) m)
  else some (.bad b 120)
def clsF (f : Nat) (T : List Tk) (a : Nat) : Option (PR Nd) :=
  if isT T a sClass then
    if nmT T (a + 1) then
      if isT T (a + 2) sExtends then
        if nmT T (a + 3) then clsBodyF f T a (a + 4) (some (a + 3)) else some (.bad (a + 3) 120)
      else clsBodyF f T a (a + 2) none
    else some (.bad (a + 1) 120)
  else some (.bad a 120)
def filLF : Nat → List Tk → Nat → List Nd → Option (PR (List Nd))
  | 0, _, _, _ => none
  | f + 1, T, a, acc =>
    if (tokT T a).kind = 5 then some (.ok acc a)
    else
      bindP (clsF f T a) fun n b => filLF f T b (acc ++ [n])
/-- Where it goes wrong, in bytes. -/
def badAt (T : List Tk) (p : Nat) : Int := (tokT T (min p (T.length - 1))).at_
/-- A text's classes, or what is wrong, and where. -/
def fileQ (T : List Tk) : Option (PR (List Nd)) → List Nd × Int × Int
  | none => ([], 0, 0)
  | some (.bad p c) => ([], c, badAt T p)
  | some (.ok l _) => match l.find? (fun n => decide (200 < n.ht)) with
    | none => (l, 0, 0)
    | some n => ([], 2, n.hd.fr)
def fuelT (T : List Tk) : Nat := 20 * T.length + 40
def fileR (l : By) : List Nd × Int × Int :=
  if (lexR 0 l).2.2 ≠ 0 then ([], (lexR 0 l).2.2, (lexR 0 l).2.1)
  else fileQ (lexR 0 l).1 (filLF (fuelT (lexR 0 l).1) (lexR 0 l).1 0 [])
/-- The last token, and no other, is the end. -/
structure GoodE (T : List Tk) : Prop where
  pos : 0 < T.length
  last : ∀ k t, T[k]? = some t → (t.kind = 5 ↔ k + 1 = T.length)
theorem isT_lt {T : List Tk} (h : GoodE T) {a : Nat} {s : By} (hi : isT T a s = true) : a + 1 < T.length := by
  unfold isT at hi
  split at hi
  · rename_i t ht
    simp only [Bool.and_eq_true, Bool.not_eq_true', decide_eq_true_eq, decide_eq_false_iff_not] at hi
    have h1 := mt (h.last a t ht).2 hi.2
    have h2 := (List.getElem?_eq_some_iff.1 ht).1
    omega
  · cases hi
theorem nmT_lt {T : List Tk} (h : GoodE T) {a : Nat} (hi : nmT T a = true) : a + 1 < T.length := by
  unfold nmT at hi
  split at hi
  · rename_i t ht
    have hk : t.kind = 1 := by simpa using hi
    have h1 := mt (h.last a t ht).2 (by omega)
    have h2 := (List.getElem?_eq_some_iff.1 ht).1
    omega
  · cases hi
theorem num_lt {T : List Tk} (h : GoodE T) {a : Nat} (hi : (tokT T a).kind = 2) : a + 1 < T.length := by
  unfold tokT at hi
  cases ht : T[a]? with
  | none => rw [ht] at hi; exact absurd hi (by decide)
  | some t =>
    rw [ht] at hi
    have hk : t.kind = 2 := hi
    have h1 := mt (h.last a t ht).2 (by omega)
    have h2 := (List.getElem?_eq_some_iff.1 ht).1
    omega
theorem binds_lt {T : List Tk} (h : GoodE T) {a l : Nat} (hl : 1 ≤ l) (hi : bindsT T a = l) : a + 1 < T.length := by
  refine Decidable.byContradiction fun hn => ?_
  have f : ∀ s, isT T a s = false := fun s => by
    cases hs : isT T a s with
    | false => rfl
    | true => exact absurd (isT_lt h hs) hn
  unfold bindsT at hi
  simp only [f] at hi
  simp at hi
  omega
/-- A rule's answer: if it was given enough it is one, and where it is fine it has gone on, within the row, and has not more nodes than tokens. -/
def Gd {α : Type} (sz : α → Nat) (T : List Tk) (a base : Nat) (need : Prop) (r : Option (PR α)) : Prop :=
  (need → r ≠ none) ∧ ∀ x next, r = some (.ok x next) → a < next ∧ next < T.length ∧ sz x + a ≤ base + next
theorem Gd.bad {α : Type} {sz : α → Nat} {T : List Tk} {a base : Nat} {need : Prop} (p : Nat) (c : Int) : Gd sz T a base need (some (.bad p c)) := ⟨nofun, nofun⟩
theorem Gd.ok {α : Type} {sz : α → Nat} {T : List Tk} {a base : Nat} {need : Prop} {x : α} {next : Nat} (h : a < next ∧ next < T.length ∧ sz x + a ≤ base + next) : Gd sz T a base need (some (.ok x next)) := ⟨nofun, (fun _ _ e => by cases e; exact h)⟩
theorem Gd.none {α : Type} {sz : α → Nat} {T : List Tk} {a base : Nat} {need : Prop} (h : ¬ need) : Gd sz T a base need none := ⟨fun k => absurd k h, nofun⟩
theorem Gd.bind {α β : Type} {sz : α → Nat} {sz' : β → Nat} {T : List Tk} {a base a' base' : Nat} {need need' : Prop} {r : Option (PR α)} {g : α → Nat → Option (PR β)} (h1 : Gd sz T a' base' need' r) (hn : need → need') (h2 : ∀ x next, a' < next → next < T.length → sz x + a' ≤ base' + next → Gd sz' T a base need (g x next)) : Gd sz' T a base need (bindP r g) := by
  unfold bindP
  cases r with
  | none => exact Gd.none fun h => h1.1 (hn h) rfl
  | some r =>
    cases r with
    | bad p c => exact Gd.bad p c
    | ok x next =>
      obtain ⟨k1, k2, k3⟩ := h1.2 x next rfl
      exact h2 x next k1 k2 k3
theorem Gd.mono {α : Type} {sz : α → Nat} {T : List Tk} {a base a' base' : Nat} {need need' : Prop} {r : Option (PR α)} (h : Gd sz T a' base' need' r) (hn : need → need') (h1 : a ≤ a') (h2 : base' + a ≤ base + a') : Gd sz T a base need r :=
  ⟨fun k => h.1 (hn k), fun x next e => by obtain ⟨k1, k2, k3⟩ := h.2 x next e; exact ⟨by omega, k2, by omega⟩⟩
theorem cnt_mk (h : Hd) (ks : List Nd) : (Nd.mk h ks).cnt = cntL ks + 1 := by rw [Nd.cnt]
theorem cnt_nil : cntL [] = 0 := by rw [cntL]
theorem cnt_one (n : Nd) : cntL [n] = n.cnt := by rw [cntL, cntL]; omega
theorem cnt_cons (n : Nd) (l : List Nd) : cntL (n :: l) = n.cnt + cntL l := by rw [cntL]
theorem cnt_two (n m : Nd) : cntL [n, m] = n.cnt + m.cnt := by rw [cnt_cons, cnt_one]
theorem cnt_three (n m k : Nd) : cntL [n, m, k] = n.cnt + m.cnt + k.cnt := by rw [cnt_cons, cnt_two]; omega
theorem cnt_snoc (l : List Nd) (n : Nd) : cntL (l ++ [n]) = cntL l + n.cnt := by rw [cntL_app, cnt_one]
/-- What holds of the rules of expressions, with fuel f. -/
structure ExOk (T : List Tk) (f : Nat) : Prop where
  prim : ∀ a d, a < T.length → Gd Nd.cnt T a 0 (20 * (T.length - a) + 1 < f) (primF f T a d)
  args : ∀ a d, a < T.length → Gd cntL T a 0 (20 * (T.length - a) + 11 < f) (argsF f T a d)
  argL : ∀ a d acc, a < T.length → Gd cntL T a (cntL acc) (20 * (T.length - a) + 10 < f) (argLF f T a d acc)
  unary : ∀ a d, a < T.length → Gd Nd.cnt T a 0 (20 * (T.length - a) + 2 < f) (unaryF f T a d)
  dot : ∀ a d next n, a < next → next < T.length → n.cnt + a ≤ next → Gd Nd.cnt T a 0 (20 * (T.length - next) + 1 < f) (dotF f T a d next n)
  level : ∀ a d l, 1 ≤ l → l ≤ 7 → a < T.length → Gd Nd.cnt T a 0 (20 * (T.length - a) + (10 - l) < f) (levelF f T a d l)
  levL : ∀ a d l next n, 1 ≤ l → l ≤ 6 → a < next → next < T.length → n.cnt + a ≤ next → Gd Nd.cnt T a 0 (20 * (T.length - next) + 1 < f) (levLF f T a d l next n)
theorem ex_ok {T : List Tk} (hT : GoodE T) : ∀ f, ExOk T f
  | 0 => by
    constructor
    · intro a d _; unfold primF; exact Gd.none (by omega)
    · intro a d _; unfold argsF; exact Gd.none (by omega)
    · intro a d acc _; unfold argLF; exact Gd.none (by omega)
    · intro a d _; unfold unaryF; exact Gd.none (by omega)
    · intro a d next n _ _ _; unfold dotF; exact Gd.none (by omega)
    · intro a d l _ _ _; unfold levelF; exact Gd.none (by omega)
    · intro a d l next n _ _ _ _ _; unfold levLF; exact Gd.none (by omega)
  | f + 1 => by
    have ih := ex_ok hT f
    constructor
    · intro a d ha
      unfold primF
      split
      · rename_i h; exact Gd.ok ⟨by omega, num_lt hT h, by rw [cnt_mk, cnt_nil]; omega⟩
      split
      · rename_i h; exact Gd.ok ⟨by omega, isT_lt hT h, by rw [cnt_mk, cnt_nil]; omega⟩
      split
      · rename_i h; exact Gd.ok ⟨by omega, isT_lt hT h, by rw [cnt_mk, cnt_nil]; omega⟩
      split
      · rename_i h; exact Gd.ok ⟨by omega, isT_lt hT h, by rw [cnt_mk, cnt_nil]; omega⟩
      split
      · rename_i h; exact Gd.ok ⟨by omega, isT_lt hT h, by rw [cnt_mk, cnt_nil]; omega⟩
      split
      · split
        · split
          · split
            · rename_i h; exact Gd.ok ⟨by omega, isT_lt hT h, by rw [cnt_mk, cnt_nil]; omega⟩
            · exact Gd.bad _ _
          · exact Gd.bad _ _
        · exact Gd.bad _ _
      split
      · rename_i h
        have h1 := isT_lt hT h
        refine Gd.bind (ih.level (a + 1) d 1 (by omega) (by omega) h1) (by omega) fun n next k1 k2 k3 => ?_
        split
        · rename_i h2; exact Gd.ok ⟨by omega, isT_lt hT h2, by omega⟩
        · exact Gd.bad _ _
      split
      · rename_i h
        have h1 := nmT_lt hT h
        split
        · rename_i h2
          have h3 := isT_lt hT h2
          refine Gd.bind (ih.args (a + 2) d h3) (by omega) fun n next k1 k2 k3 => ?_
          exact Gd.ok ⟨by omega, k2, by rw [cnt_mk]; omega⟩
        · exact Gd.ok ⟨by omega, h1, by rw [cnt_mk, cnt_nil]; omega⟩
      · exact Gd.bad _ _
    · intro a d ha
      unfold argsF
      split
      · rename_i h; exact Gd.ok ⟨by omega, isT_lt hT h, by rw [cnt_nil]; omega⟩
      · exact (ih.argL a d [] ha).mono (by omega) (Nat.le_refl _) (by rw [cnt_nil]; omega)
    · intro a d acc ha
      unfold argLF
      refine Gd.bind (ih.level a d 1 (by omega) (by omega) ha) (by omega) fun n next k1 k2 k3 => ?_
      split
      · rename_i h; exact Gd.ok ⟨by omega, isT_lt hT h, by rw [cnt_snoc]; omega⟩
      split
      · rename_i h
        exact (ih.argL (next + 1) d (acc ++ [n]) (isT_lt hT h)).mono (by omega) (by omega) (by rw [cnt_snoc]; omega)
      · exact Gd.bad _ _
    · intro a d ha
      unfold unaryF
      split
      · exact Gd.bad _ _
      split
      · rename_i h
        have h1 : a + 1 < T.length := by
          rcases Bool.or_eq_true _ _ ▸ h with h | h
          · exact isT_lt hT h
          · exact isT_lt hT h
        refine Gd.bind (ih.unary (a + 1) (d + 1) h1) (by omega) fun n next k1 k2 k3 => ?_
        exact Gd.ok ⟨by omega, k2, by rw [cnt_mk, cnt_one]; omega⟩
      · refine Gd.bind (ih.prim a (d + 1) ha) (by omega) fun n next k1 k2 k3 => ?_
        exact (ih.dot a d next n k1 k2 (by omega)).mono (by omega) (Nat.le_refl _) (Nat.le_refl _)
    · intro a d next n h1 h2 h3
      unfold dotF
      split
      · rename_i hd
        have hd1 := isT_lt hT hd
        split
        · rename_i hn
          have hn1 := nmT_lt hT hn
          split
          · rename_i hl
            refine Gd.bind (ih.args (next + 3) (d + 1) (isT_lt hT hl)) (by omega) fun l b k1 k2 k3 => ?_
            exact (ih.dot a d b _ (by omega) k2 (by rw [cnt_mk, cnt_cons]; omega)).mono (by omega) (Nat.le_refl _) (Nat.le_refl _)
          · exact (ih.dot a d (next + 2) _ (by omega) hn1 (by rw [cnt_mk, cnt_one]; omega)).mono (by omega) (Nat.le_refl _) (Nat.le_refl _)
        · exact Gd.bad _ _
      · exact Gd.ok ⟨h1, h2, by omega⟩
    · intro a d l hl1 hl7 ha
      unfold levelF
      split
      · exact (ih.unary a d ha).mono (by omega) (Nat.le_refl _) (Nat.le_refl _)
      · refine Gd.bind (ih.level a d (l + 1) (by omega) (by omega) ha) (by omega) fun n next k1 k2 k3 => ?_
        exact (ih.levL a d l next n hl1 (by omega) k1 k2 (by omega)).mono (by omega) (Nat.le_refl _) (Nat.le_refl _)
    · intro a d l next n hl1 hl6 h1 h2 h3
      unfold levLF
      split
      · rename_i hb
        have hb1 := binds_lt hT hl1 hb
        refine Gd.bind (ih.level (next + 1) d (l + 1) (by omega) (by omega) hb1) (by omega) fun r b k1 k2 k3 => ?_
        exact (ih.levL a d l b _ hl1 hl6 (by omega) k2 (by rw [cnt_mk, cnt_two]; omega)).mono (by omega) (Nat.le_refl _) (Nat.le_refl _)
      · exact Gd.ok ⟨h1, h2, by omega⟩
theorem locals_ok {T : List Tk} (hT : GoodE T) (f a d : Nat) (ha : a < T.length) : Gd Nd.cnt T a 0 (20 * (T.length - a) < f) (localsF f T a d) := by
  have ih := ex_ok hT f
  unfold localsF
  split
  · exact Gd.bad _ _
  split
  · split
    · rename_i h
      refine Gd.bind (ih.level (a + 3) (d + 1) 1 (by omega) (by omega) (isT_lt hT h)) (by omega) fun n next k1 k2 k3 => ?_
      split
      · rename_i h2; exact Gd.ok ⟨by omega, isT_lt hT h2, by rw [cnt_mk, cnt_one]; omega⟩
      · exact Gd.bad _ _
    · exact Gd.bad _ _
  · exact Gd.bad _ _
theorem brac_ok {T : List Tk} (hT : GoodE T) (f a d : Nat) (ha : a < T.length) : Gd Nd.cnt T a 0 (20 * (T.length - a) < f) (bracF f T a d) := by
  have ih := ex_ok hT f
  unfold bracF
  split
  · rename_i h
    refine Gd.bind (ih.level (a + 1) d 1 (by omega) (by omega) (isT_lt hT h)) (by have := isT_lt hT h; omega) fun n next k1 k2 k3 => ?_
    split
    · rename_i h2; exact Gd.ok ⟨by omega, isT_lt hT h2, by omega⟩
    · exact Gd.bad _ _
  · exact Gd.bad _ _
theorem simple_ok {T : List Tk} (hT : GoodE T) (f a d : Nat) (ha : a + 1 < T.length) : Gd Nd.cnt T a 0 (20 * (T.length - a) < f) (simpleF f T a d) := by
  have ih := ex_ok hT f
  unfold simpleF
  split
  · refine Gd.bind (brac_ok hT f (a + 1) (d + 1) ha) (by omega) fun n next k1 k2 k3 => ?_
    split
    · rename_i h2; exact Gd.ok ⟨by omega, isT_lt hT h2, by rw [cnt_mk, cnt_one]; omega⟩
    · exact Gd.bad _ _
  split
  · rename_i h; exact Gd.ok ⟨by omega, isT_lt hT h, by rw [cnt_mk, cnt_nil]; omega⟩
  · refine Gd.bind (ih.level (a + 1) (d + 1) 1 (by omega) (by omega) ha) (by omega) fun n next k1 k2 k3 => ?_
    split
    · rename_i h2; exact Gd.ok ⟨by omega, isT_lt hT h2, by rw [cnt_mk, cnt_one]; omega⟩
    · exact Gd.bad _ _
theorem expr_ok {T : List Tk} (hT : GoodE T) (f a d : Nat) (ha : a < T.length) : Gd Nd.cnt T a 0 (20 * (T.length - a) + 9 < f) (exprF f T a d) := by
  have ih := ex_ok hT f
  unfold exprF
  refine Gd.bind (ih.level a (d + 1) 1 (by omega) (by omega) ha) (by omega) fun n next k1 k2 k3 => ?_
  split
  · rename_i h
    refine Gd.bind (ih.level (next + 1) (d + 1) 1 (by omega) (by omega) (isT_lt hT h)) (by omega) fun r b g1 g2 g3 => ?_
    split
    · rename_i h2; exact Gd.ok ⟨by omega, isT_lt hT h2, by rw [cnt_mk, cnt_two]; omega⟩
    · exact Gd.bad _ _
  split
  · rename_i h2; exact Gd.ok ⟨by omega, isT_lt hT h2, by rw [cnt_mk, cnt_one]; omega⟩
  · exact Gd.bad _ _
structure StOk (T : List Tk) (f : Nat) : Prop where
  st : ∀ a d, a < T.length → Gd Nd.cnt T a 0 (20 * (T.length - a) + 13 < f) (stF f T a d)
  grd : ∀ a d, a + 1 < T.length → Gd Nd.cnt T a 0 (20 * (T.length - a) + 12 < f) (grdF f T a d)
  blk : ∀ a d, a < T.length → Gd Nd.cnt T a 0 (20 * (T.length - a) + 12 < f) (blkF f T a d)
  blkL : ∀ a next d acc, a < next → next < T.length → cntL acc + a + 1 ≤ next → Gd Nd.cnt T a 0 (20 * (T.length - next) + 14 < f) (blkLF f T a next d acc)
theorem Gd.map_bad {T : List Tk} {a base : Nat} {need : Prop} {r : Option (PR Nd)} {c : Prop} [Decidable c] {p : Nat} {e : Int} (h : Gd Nd.cnt T a base need r) : Gd Nd.cnt T a base need (r.map (fun r => if c then .bad p e else r)) := by
  cases r with
  | none => exact Gd.none fun k => h.1 k rfl
  | some r =>
    by_cases hc : c
    · rw [Option.map_some, if_pos hc]; exact Gd.bad _ _
    · rw [Option.map_some, if_neg hc]; exact h
theorem st_ok {T : List Tk} (hT : GoodE T) : ∀ f, StOk T f
  | 0 => by
    constructor
    · intro a d _; unfold stF; exact Gd.none (by omega)
    · intro a d _; unfold grdF; exact Gd.none (by omega)
    · intro a d _; unfold blkF; exact Gd.none (by omega)
    · intro a next d acc _ _ _; unfold blkLF; exact Gd.none (by omega)
  | f + 1 => by
    have ih := st_ok hT f
    have ex := ex_ok hT f
    constructor
    · intro a d ha
      unfold stF
      split
      · exact Gd.bad _ _
      split
      · exact (ih.blk a d ha).mono (by omega) (Nat.le_refl _) (Nat.le_refl _)
      split
      · rename_i h
        have h1 : a + 1 < T.length := by
          rcases Bool.or_eq_true _ _ ▸ h with h | h
          · exact isT_lt hT h
          · exact isT_lt hT h
        exact (ih.grd a d h1).mono (by omega) (Nat.le_refl _) (Nat.le_refl _)
      split
      · rename_i h
        have h1 : a + 1 < T.length := by
          rcases Bool.or_eq_true _ _ ▸ h with h | h
          · exact isT_lt hT h
          · exact isT_lt hT h
        exact (simple_ok hT f a d h1).mono (by omega) (Nat.le_refl _) (Nat.le_refl _)
      · exact (expr_ok hT f a d ha).mono (by omega) (Nat.le_refl _) (Nat.le_refl _)
    · intro a d ha
      unfold grdF
      refine Gd.bind (brac_ok hT f (a + 1) (d + 1) ha) (by omega) fun c next k1 k2 k3 => ?_
      refine Gd.bind (ih.st next (d + 1) k2) (by omega) fun s b g1 g2 g3 => ?_
      split
      · exact Gd.ok ⟨by omega, g2, by rw [cnt_mk, cnt_two]; omega⟩
      split
      · rename_i h
        refine Gd.bind (ih.st (b + 1) (d + 1) (isT_lt hT h)) (by omega) fun e m m1 m2 m3 => ?_
        exact Gd.ok ⟨by omega, m2, by rw [cnt_mk, cnt_three]; omega⟩
      · exact Gd.ok ⟨by omega, g2, by rw [cnt_mk, cnt_two]; omega⟩
    · intro a d ha
      unfold blkF
      split
      · rename_i h
        exact (ih.blkL a (a + 1) d [] (by omega) (isT_lt hT h) (by rw [cnt_nil]; omega)).mono (by have := isT_lt hT h; omega) (Nat.le_refl _) (Nat.le_refl _)
      · exact Gd.bad _ _
    · intro a next d acc h1 h2 h3
      unfold blkLF
      split
      · rename_i h; exact Gd.ok ⟨by omega, isT_lt hT h, by rw [cnt_mk]; omega⟩
      · have hr : Gd Nd.cnt T next 0 (20 * (T.length - next) + 13 < f) (if localT T next then (localsF f T next (d + 1)).map (fun r => if 60 < d + 1 then .bad next 2 else r) else stF f T next (d + 1)) := by
          split
          · exact Gd.map_bad ((locals_ok hT f next (d + 1) h2).mono (by omega) (Nat.le_refl _) (Nat.le_refl _))
          · exact ih.st next (d + 1) h2
        refine Gd.bind hr (by omega) fun n b k1 k2 k3 => ?_
        exact (ih.blkL a b d (acc ++ [n]) (by omega) k2 (by rw [cnt_snoc]; omega)).mono (by omega) (Nat.le_refl _) (Nat.le_refl _)
theorem parL_ok {T : List Tk} (hT : GoodE T) : ∀ f a acc, a < T.length → Gd cntL T a (cntL acc) (T.length - a < f) (parLF f T a acc)
  | 0, a, acc, _ => by unfold parLF; exact Gd.none (by omega)
  | f + 1, a, acc, ha => by
    unfold parLF
    have one : ∀ h : Hd, cntL (acc ++ [.mk h []]) = cntL acc + 1 := fun h => by rw [cnt_snoc, cnt_mk, cnt_nil]
    split
    · split
      · split
        · rename_i h; exact Gd.ok ⟨by omega, isT_lt hT h, by rw [one]; omega⟩
        split
        · rename_i h
          exact (parL_ok hT f (a + 3) _ (isT_lt hT h)).mono (by omega) (by omega) (by rw [one]; omega)
        · exact Gd.bad _ _
      · exact Gd.bad _ _
    · exact Gd.bad _ _
theorem par_ok {T : List Tk} (hT : GoodE T) (f a : Nat) (ha : a < T.length) : Gd cntL T a 0 (T.length - a < f) (parF f T a) := by
  unfold parF
  split
  · rename_i h; exact Gd.ok ⟨by omega, isT_lt hT h, by rw [cnt_nil]; omega⟩
  · exact (parL_ok hT f a [] ha).mono id (Nat.le_refl _) (by rw [cnt_nil]; omega)
theorem memAt_ok {T : List Tk} (hT : GoodE T) (f fr a : Nat) (st : Bool) (h0 : fr ≤ a) : Gd Nd.cnt T fr 0 (20 * (T.length - fr) < f) (memAtF f T fr a st) := by
  unfold memAtF
  split
  · split
    · split
      · split
        · exact Gd.bad _ _
        · rename_i h _; exact Gd.ok ⟨by omega, isT_lt hT h, by rw [cnt_mk, cnt_nil]; omega⟩
      split
      · rename_i h
        refine Gd.bind (par_ok hT f (a + 3) (isT_lt hT h)) (by omega) fun l b k1 k2 k3 => ?_
        refine Gd.bind ((st_ok hT f).blk b 1 k2) (by omega) fun x m g1 g2 g3 => ?_
        exact Gd.ok ⟨by omega, g2, by rw [cnt_mk, cnt_snoc]; omega⟩
      · exact Gd.bad _ _
    · exact Gd.bad _ _
  · exact Gd.bad _ _
theorem mem_ok {T : List Tk} (hT : GoodE T) (f a : Nat) : Gd Nd.cnt T a 0 (20 * (T.length - a) < f) (memF f T a) := by
  unfold memF
  exact memAt_ok hT f a _ _ (by split <;> omega)
theorem clsL_ok {T : List Tk} (hT : GoodE T) : ∀ f a acc, a < T.length → Gd cntL T a (cntL acc) (20 * (T.length - a) + 1 < f) (clsLF f T a acc)
  | 0, a, acc, _ => by unfold clsLF; exact Gd.none (by omega)
  | f + 1, a, acc, ha => by
    unfold clsLF
    split
    · rename_i h; exact Gd.ok ⟨by omega, isT_lt hT h, by omega⟩
    · refine Gd.bind (mem_ok hT f a) (by omega) fun m b k1 k2 k3 => ?_
      exact (clsL_ok hT f b (acc ++ [m]) k2).mono (by omega) (by omega) (by rw [cnt_snoc]; omega)
theorem clsBody_ok {T : List Tk} (hT : GoodE T) (f a b : Nat) (sup : Option Nat) (h : a ≤ b) : Gd Nd.cnt T a 0 (20 * (T.length - a) < f) (clsBodyF f T a b sup) := by
  unfold clsBodyF
  split
  · rename_i h2
    refine Gd.bind (clsL_ok hT f (b + 1) [] (isT_lt hT h2)) (by have := isT_lt hT h2; omega) fun l m k1 k2 k3 => ?_
    rw [cnt_nil] at k3
    exact Gd.ok ⟨by omega, k2, by rw [cnt_mk]; omega⟩
  · exact Gd.bad _ _
theorem cls_ok {T : List Tk} (hT : GoodE T) (f a : Nat) : Gd Nd.cnt T a 0 (20 * (T.length - a) < f) (clsF f T a) := by
  unfold clsF
  split
  · split
    · split
      · split
        · exact clsBody_ok hT f a (a + 4) _ (by omega)
        · exact Gd.bad _ _
      · exact clsBody_ok hT f a (a + 2) _ (by omega)
    · exact Gd.bad _ _
  · exact Gd.bad _ _
/-- The row of classes: it ends where the row ends. -/
theorem filL_ok {T : List Tk} (hT : GoodE T) : ∀ f a acc, a < T.length → (20 * (T.length - a) + 1 < f → filLF f T a acc ≠ none) ∧ ∀ l m, filLF f T a acc = some (.ok l m) → a ≤ m ∧ m < T.length ∧ cntL l + a ≤ cntL acc + m
  | 0, a, acc, _ => by unfold filLF; exact ⟨by omega, nofun⟩
  | f + 1, a, acc, ha => by
    unfold filLF
    split
    · exact ⟨nofun, fun l m h => (by cases h; exact ⟨Nat.le_refl _, ha, Nat.le_refl _⟩)⟩
    · have h1 := cls_ok hT f a
      unfold bindP
      cases hc : clsF f T a with
      | none => exact ⟨fun h => absurd hc (h1.1 (by omega)), nofun⟩
      | some r =>
        cases r with
        | bad p c => exact ⟨nofun, nofun⟩
        | ok n b =>
          obtain ⟨k1, k2, k3⟩ := h1.2 n b hc
          obtain ⟨g1, g2⟩ := filL_ok hT f b (acc ++ [n]) k2
          refine ⟨fun h => g1 (by omega), fun l m h => ?_⟩
          obtain ⟨m1, m2, m3⟩ := g2 l m h
          rw [cnt_snoc] at m3
          exact ⟨by omega, m2, by omega⟩


/-- A token of a text: where it lies; a number is one, and is small. -/
structure TkOk (n m : Nat) (t : Tk) : Prop where
  lo : (n : Int) ≤ t.at_
  hi : t.at_ + t.text.length ≤ (m : Int)
  num : t.kind = 2 → (∀ c ∈ t.text, dig c = true) ∧ valOf t.text ≤ 2147483647
theorem TkOk.mono {n m n' m' : Nat} {t : Tk} (h : TkOk n m t) (h1 : n' ≤ n) (h2 : m ≤ m') : TkOk n' m' t := ⟨by have := h.lo; omega, by have := h.hi; omega, h.num⟩
theorem take_while (p : UInt8 → Bool) : ∀ l : List UInt8, l.take (l.takeWhile p).length = l.takeWhile p
  | [] => rfl
  | c :: l => by
    rw [List.takeWhile_cons]
    split
    · rw [List.length_cons, List.take_succ_cons, take_while p l]
    · rfl
theorem first_digits {l : List UInt8} (h : (first l).1 = 2) : (first l).2.1 = numLen l ∧ badNum (l.take (numLen l)) = false := by
  unfold first at h ⊢
  by_cases h1 : 0 < nameLen l
  · rw [if_pos h1] at h
    by_cases h2 : 20 < nameLen l
    · rw [if_pos h2] at h; cases h
    · rw [if_neg h2] at h
      split at h <;> cases h
  · rw [if_neg h1] at h ⊢
    by_cases h2 : 0 < numLen l
    · rw [if_pos h2] at h ⊢
      by_cases h3 : badNum (l.take (numLen l)) = true
      · rw [if_pos h3] at h; cases h
      · rw [if_neg h3]
        exact ⟨rfl, by simpa using h3⟩
    · rw [if_neg h2] at h
      split at h <;> cases h
structure LexOk (n : Nat) (l : List UInt8) (T : List Tk) : Prop where
  pos : 0 < T.length
  len : T.length ≤ l.length + 1
  last : ∀ k t, T[k]? = some t → (t.kind = 5 ↔ k + 1 = T.length)
  tk : ∀ t ∈ T, TkOk n (n + l.length) t
theorem lex_good : ∀ (m n : Nat) (l : List UInt8), l.length ≤ m → (lexR n l).2.2 = 0 → LexOk n l (lexR n l).1 := by
  intro m
  induction m with
  | zero =>
    intro n l hl h
    obtain rfl : l = [] := List.eq_nil_of_length_eq_zero (by omega)
    rw [lexR] at h ⊢
    have e : sep [] = (0, true) := by rw [sep]
    rw [e]
    simp
    exact ⟨by simp, by simp, fun k t hk => by
      cases k with
      | zero => simp at hk; subst hk; simp
      | succ k => simp at hk, fun t ht => by simp at ht; subst ht; exact ⟨by simp, by simp, nofun⟩⟩
  | succ m ih =>
    intro n l hl h
    rw [lexR] at h ⊢
    have hsl := sep_le l
    by_cases h1 : (sep l).2 = false
    · rw [if_pos h1] at h; cases h
    rw [if_neg h1] at h ⊢
    by_cases h2 : l.drop (sep l).1 = []
    · rw [if_pos h2]
      have hz : l.length ≤ (sep l).1 := List.drop_eq_nil_iff.1 h2
      exact ⟨by simp, by simp, fun k t hk => by
        cases k with
        | zero => simp at hk; subst hk; simp
        | succ k => simp at hk, fun t ht => by
          simp at ht; subst ht
          exact ⟨by simp; omega, by simp; omega, nofun⟩⟩
    rw [if_neg h2] at h ⊢
    have hfc := first_cases (l.drop (sep l).1)
    by_cases h3 : (first (l.drop (sep l).1)).2.1 = 0
    · rw [if_pos h3] at h
      rcases hfc with hf | hf
      · omega
      · simp only at h; omega
    rw [if_neg h3] at h ⊢
    by_cases h4 : (lexR (n + (sep l).1 + (first (l.drop (sep l).1)).2.1) ((l.drop (sep l).1).drop (first (l.drop (sep l).1)).2.1)).2.2 ≠ 0
    · rw [if_pos h4] at h; exact absurd h h4
    rw [if_neg h4]
    have h4 := Classical.not_not.1 h4
    obtain ⟨f1, f2, f3, f4, f5⟩ := hfc.resolve_right (fun hf => h3 hf.1)
    rw [List.length_drop] at f3
    have hlen : ((l.drop (sep l).1).drop (first (l.drop (sep l).1)).2.1).length = l.length - (sep l).1 - (first (l.drop (sep l).1)).2.1 := by rw [List.length_drop, List.length_drop]
    have g := ih (n + (sep l).1 + (first (l.drop (sep l).1)).2.1) ((l.drop (sep l).1).drop (first (l.drop (sep l).1)).2.1) (by omega) h4
    have hn := fun e => @first_digits (l.drop (sep l).1) e
    generalize hr : lexR (n + (sep l).1 + (first (l.drop (sep l).1)).2.1) ((l.drop (sep l).1).drop (first (l.drop (sep l).1)).2.1) = r at g
    obtain ⟨T, q1, q2⟩ := r
    have gl := g.len
    rw [hlen] at gl
    refine ⟨by simp, by simp at gl ⊢; omega, fun k t hk => ?_, fun t ht => ?_⟩
    · cases k with
      | zero =>
        simp at hk
        subst hk
        have := g.pos
        simp at this ⊢
        constructor
        · intro e; omega
        · intro e; rw [e] at this; simp at this
      | succ k =>
        have := g.last k t (by simpa using hk)
        simp at this ⊢
        omega
    · simp at ht
      rcases ht with rfl | ht
      · refine ⟨by simp; omega, by simp [List.length_take]; omega, fun e => ?_⟩
        obtain ⟨e1, e2⟩ := hn e
        simp only
        rw [e1]
        have e3 : (l.drop (sep l).1).take (numLen (l.drop (sep l).1)) = (l.drop (sep l).1).takeWhile dig := take_while dig _
        rw [e3] at e2 ⊢
        refine ⟨fun c hc => List.all_eq_true.1 List.all_takeWhile c hc, ?_⟩
        unfold badNum at e2
        simp only [Bool.or_eq_false_iff, decide_eq_false_iff_not] at e2
        omega
      · exact (g.tk t ht).mono (by omega) (by rw [hlen]; omega)
theorem LexOk.good {n : Nat} {l : List UInt8} {T : List Tk} (h : LexOk n l T) : GoodE T := ⟨h.pos, h.last⟩
end Go.Proofs.YtbnbmjdjkadgoaaDoor.X
