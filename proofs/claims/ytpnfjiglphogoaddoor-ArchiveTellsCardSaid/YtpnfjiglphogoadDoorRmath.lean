/-
  For the laws of archive: what is read is one only; a text's lines against its first lines; no program. Condition: at most 1,000,000 bytes.
-/
import Derived.Test.YtpnfjiglphogoadDoorWhol
namespace Go.Proofs.YtpnfjiglphogoadDoor
open Go.RowKit Go.Shelf
set_option linter.unusedSimpArgs false
set_option linter.unusedVariables false

/-- As many files, read from a text: one way only. -/
theorem show_pre : ∀ {L L' : List Fl} {r r' : By}, (showL L ++ r).length ≤ 1000000 → okL L → okL L' → L.length = L'.length → showL L ++ r = showL L' ++ r' → L = L' ∧ r = r'
  | [], [], r, r', _, _, _, _, e => ⟨rfl, e⟩
  | [], _ :: _, _, _, _, _, _, hl, _ => by simp at hl
  | _ :: _, [], _, _, _, _, _, hl, _ => by simp at hl
  | f :: L, f' :: L', r, r', hs, h, h', hl, e => by
    have e1 : showL (f :: L) ++ r = oneL f ++ (showL L ++ r) := by rw [showL_cons, List.append_assoc]
    have e2 : showL (f :: L) ++ r = oneL f' ++ (showL L' ++ r') := by rw [e, showL_cons, List.append_assoc]
    have n1 := next_one (h f List.mem_cons_self) hs e1
    have n2 := next_one (h' f' List.mem_cons_self) hs e2
    rw [n1] at n2
    simp only [Option.some.injEq, Prod.mk.injEq] at n2
    obtain ⟨rfl, n2⟩ := n2
    have := show_pre (L := L) (L' := L') (r := r) (r' := r') (by
      rw [List.length_append, showL_clen] at hs
      rw [List.length_append]; omega) (fun g hg => h g (List.mem_cons_of_mem _ hg)) (fun g hg => h' g (List.mem_cons_of_mem _ hg)) (by simpa using hl) n2
    exact ⟨by rw [this.1], this.2⟩
/-- Where no file follows fewer files, there are no more. -/
theorem no_more : ∀ {L L' : List Fl} {r r' : By}, (showL L ++ r).length ≤ 1000000 → okL L → okL L' → L.length < L'.length → nextL r = none → showL L ++ r ≠ showL L' ++ r'
  | [], [], _, _, _, _, _, hl, _ => by simp at hl
  | _ :: _, [], _, _, _, _, _, hl, _ => by simp at hl
  | [], f' :: L', r, r', hs, _, h', _, hn => fun e => by
    have e2 : r = oneL f' ++ (showL L' ++ r') := by rw [← List.append_assoc, ← showL_cons, ← e]; rfl
    have : nextL r = _ := next_one (s := r) (h' f' List.mem_cons_self) hs e2
    rw [hn] at this; cases this
  | f :: L, f' :: L', r, r', hs, h, h', hl, hn => fun e => by
    have e1 : showL (f :: L) ++ r = oneL f ++ (showL L ++ r) := by rw [showL_cons, List.append_assoc]
    have e2 : showL (f :: L) ++ r = oneL f' ++ (showL L' ++ r') := by rw [e, showL_cons, List.append_assoc]
    have n1 := next_one (h f List.mem_cons_self) hs e1
    have n2 := next_one (h' f' List.mem_cons_self) hs e2
    rw [n1] at n2
    simp only [Option.some.injEq, Prod.mk.injEq] at n2
    obtain ⟨rfl, n2⟩ := n2
    refine no_more (L := L) (L' := L') (r := r) (r' := r') ?_ (fun g hg => h g (List.mem_cons_of_mem _ hg)) (fun g hg => h' g (List.mem_cons_of_mem _ hg)) (by simpa using hl) hn n2
    rw [List.length_append, showL_clen] at hs
    rw [List.length_append]
    omega
/-- What Read answers. -/
def ReadIs (s : By) (many : Int) (e : Ending) (w' : World) : Prop :=
  (∃ L r v, 0 ≤ many ∧ (L.length : Int) = many ∧ okL L ∧ s = showL L ++ r ∧ e = .returned (.tuple #[v, .string (bs r), .int .i64 0]) ∧ Fls w' v L) ∨ ((many < 0 ∨ ∀ L r, okL L → (L.length : Int) = many → s ≠ showL L ++ r) ∧ e = .returned (.tuple #[.slice none 0 0, .string ⟨#[]⟩, .int .i64 350]))

/-- The rows of a text's lines. -/
def Linz : List By → Prop
  | [] => True
  | l :: L => ((∃ a, l = a ++ [10] ∧ (10 : UInt8) ∉ a) ∧ Linz L) ∨ ((10 : UInt8) ∉ l ∧ l ≠ [] ∧ L = [])
theorem linz_app : ∀ {A : List By}, (∀ l ∈ A, ∃ a, l = a ++ [10] ∧ (10 : UInt8) ∉ a) → ∀ {B : List By}, Linz B → Linz (A ++ B)
  | [], _, _, hB => hB
  | l :: A, h, B, hB => .inl ⟨h l List.mem_cons_self, linz_app (A := A) (fun x hx => h x (List.mem_cons_of_mem _ hx)) hB⟩
def lnB (s : ByteArray) : List By := (lns s).map tl
theorem tl_ext (s : ByteArray) (a b : Nat) : tl (s.extract a b) = ((tl s).drop a).take (b - a) := by rw [ext_bs, tl_bs]
theorem drop_take_succ {s : ByteArray} {a k : Nat} (ha : a ≤ k) (hk : k < s.size) : ((tl s).take (k + 1)).drop a = ((tl s).take k).drop a ++ [s[k]] := by
  rw [List.take_add_one, tl_get s hk, List.drop_append_of_le_length (by simp; omega)]
  rfl
theorem ext_drop (s : ByteArray) (a b : Nat) : tl (s.extract a b) = ((tl s).take b).drop a := by
  rw [tl_ext, List.drop_take]
theorem nl_iff {s : ByteArray} {k : Nat} (h : k < s.size) : nlB s k = decide (s[k] = 10) := by
  unfold nlB
  rw [Array.getElem?_eq_getElem (by show k < s.data.size; exact h)]
  rfl
theorem st_lines (s : ByteArray) : ∀ k, k ≤ s.size → (∀ x ∈ (st s k).1, ∃ a, tl x = a ++ [10] ∧ (10 : UInt8) ∉ a) ∧ (10 : UInt8) ∉ ((tl s).take k).drop (st s k).2
  | 0, _ => by simp [st]
  | k + 1, hk => by
    obtain ⟨h1, h2⟩ := st_lines s k (by omega)
    have hle := st_le s k
    have hd := drop_take_succ (s := s) hle (by omega : k < s.size)
    cases h : nlB s k with
    | true =>
      have hb : s[k] = 10 := by rw [nl_iff (by omega)] at h; exact of_decide_eq_true h
      rw [st_yes h]
      refine ⟨fun x hx => ?_, ?_⟩
      · rcases List.mem_append.1 hx with hx | hx
        · exact h1 x hx
        · obtain rfl := List.mem_singleton.1 hx
          exact ⟨_, by rw [ext_drop, hd, hb], h2⟩
      · have : ((tl s).take (k + 1)).drop (k + 1) = [] := List.drop_eq_nil_of_le (by simp; omega)
        show (10 : UInt8) ∉ ((tl s).take (k + 1)).drop (k + 1)
        rw [this]; simp
    | false =>
      have hb : ¬ s[k] = 10 := by rw [nl_iff (by omega)] at h; exact of_decide_eq_false h
      rw [st_no h, hd]
      refine ⟨h1, fun hm => ?_⟩
      rcases List.mem_append.1 hm with hm | hm
      · exact h2 hm
      · exact hb (List.mem_singleton.1 hm).symm
theorem linz_lns (s : ByteArray) : Linz (lnB s) := by
  obtain ⟨h1, h2⟩ := st_lines s s.size (Nat.le_refl _)
  have h1' : ∀ l ∈ (st s s.size).1.map tl, ∃ a, l = a ++ [10] ∧ (10 : UInt8) ∉ a := by
    intro l hl
    obtain ⟨x, hx, rfl⟩ := List.mem_map.1 hl
    exact h1 x hx
  unfold lnB lns
  split
  · rename_i hlt
    rw [List.map_append]
    refine linz_app h1' (.inr ⟨?_, ?_, rfl⟩)
    · rw [ext_drop]; exact h2
    · intro e
      have := congrArg List.length e
      rw [tl_ext] at this
      simp at this; omega
  · have := linz_app h1' (B := []) trivial
    simpa using this
theorem st_flat (s : ByteArray) : ∀ k, k ≤ s.size → ((st s k).1.map tl).flatten = (tl s).take (st s k).2
  | 0, _ => by simp [st]
  | k + 1, hk => by
    have ih := st_flat s k (by omega)
    have hle := st_le s k
    cases h : nlB s k with
    | true =>
      rw [st_yes h]
      simp only [List.map_append, List.flatten_append, ih, List.map_cons, List.map_nil, List.flatten_cons, List.flatten_nil, List.append_nil, tl_ext]
      rw [← List.take_add]; congr 1; omega
    | false => rw [st_no h]; exact ih
theorem lnB_flat (s : ByteArray) : (lnB s).flatten = tl s := by
  have h1 := st_flat s s.size (Nat.le_refl _)
  have hl := tl_length s
  unfold lnB lns
  split
  · simp only [List.map_append, List.flatten_append, h1, List.map_cons, List.map_nil, List.flatten_cons, List.flatten_nil, List.append_nil, tl_ext]
    rw [← List.take_add]
    exact List.take_of_length_le (by omega)
  · rw [h1]; exact List.take_of_length_le (by omega)
/-- Lines, each with its newline, in front of a text: its first lines. -/
theorem linz_take : ∀ {L : List By} {u r : By}, Linz L → L.flatten = u ++ r → (u = [] ∨ u.getLast? = some 10) → (L.take (u.count 10)).flatten = u
  | [], u, r, _, e, _ => by
    have : u = [] := by simp at e; exact e.1
    rw [this]; rfl
  | l :: L, u, r, h, e, hu => by
    rcases sepAt_cases 10 u with ⟨h1, -⟩ | ⟨a, b, h1, h2, -⟩
    · have : u = [] := hu.resolve_right fun h => h1 (List.mem_of_getLast? h)
      rw [this]; rfl
    · rcases h with ⟨⟨c, rfl, hc⟩, hL⟩ | ⟨hn, -, rfl⟩
      · rw [h1] at e
        have e1 : c ++ 10 :: L.flatten = a ++ 10 :: (b ++ r) := by simpa using e
        have s1 := sepAt_some L.flatten hc
        rw [e1, sepAt_some (b ++ r) h2] at s1
        simp only [Option.some.injEq, Prod.mk.injEq] at s1
        obtain ⟨rfl, s2⟩ := s1
        have hb : b = [] ∨ b.getLast? = some 10 := by
          cases b with
          | nil => exact .inl rfl
          | cons x b =>
            refine .inr ?_
            rcases hu with hu | hu
            · rw [hu] at h1; simp at h1
            · rw [h1, List.getLast?_append] at hu
              simpa using hu
        have ih := linz_take hL s2.symm hb
        have hcn : u.count 10 = b.count 10 + 1 := by
          rw [h1, List.count_append, List.count_cons_self, List.count_eq_zero.2 h2]; omega
        rw [hcn, List.take_succ_cons, List.flatten_cons, ih, h1]; simp
      · exfalso
        apply hn
        have : l = u ++ r := by simpa using e
        rw [this, h1]; simp
theorem linz_count : ∀ {L : List By}, Linz L → L.flatten.count 10 ≤ L.length
  | [], _ => by simp
  | l :: L, h => by
    rcases h with ⟨⟨c, rfl, hc⟩, hL⟩ | ⟨hn, -, rfl⟩
    · have := linz_count hL
      rw [List.flatten_cons, List.count_append, List.count_append, List.count_eq_zero.2 hc, List.length_cons]
      simp; omega
    · simp [List.count_eq_zero.2 hn]
/-- What stands between the first two spaces. -/
def pathW (l : By) : By := match sepAt 32 l with
  | none => []
  | some (_, t) => match sepAt 32 t with
    | none => []
    | some (y, _) => y
theorem pathW_head {f : Fl} (h : pathOk f.path = true) : pathW (headL f) = f.path := by
  rw [headL_words]
  unfold pathW
  rw [sepAt_some _ (by decide : (32 : UInt8) ∉ word4)]
  simp only
  rw [sepAt_some _ (ok_not h).2]
theorem head_count {f : Fl} (h : pathOk f.path = true) : (headL f).count 10 = 1 := by
  have e := head_line h []
  rw [List.append_nil] at e
  rcases sepAt_cases 10 (headL f) with ⟨h1, h2⟩ | ⟨a, b, h1, h2, h3⟩
  · unfold lineL at e
    rw [h2] at e
    have := congrArg (fun p : By × By => p.1.length) e
    simp [headL] at this
  · unfold lineL at e
    rw [h3] at e
    have hb : b = [] := congrArg Prod.snd e
    rw [h1, hb, List.count_append, List.count_eq_zero.2 h2]; simp
/-- The lines of a text that begins with a file. -/
theorem lines_of {s : By} {f : Fl} {r : By} {l : By} {L : List By} (h : pathOk f.path = true) (e : s = oneL f ++ r) (hl : lnB (bs s) = l :: L) :
    l = headL f ∧ (L.take (cnt f.text)).flatten = whole f.text ∧ cnt f.text ≤ L.length := by
  have hz := linz_lns (bs s)
  have hf := lnB_flat (bs s)
  rw [hl] at hz hf
  rw [tl_bs, e, oneL, List.append_assoc] at hf
  have h1 := linz_take hz hf (.inr (by unfold headL; exact last_snoc _ _))
  rw [head_count h] at h1
  have hlh : l = headL f := by simpa using h1
  rw [List.flatten_cons, hlh] at hf
  have hf2 := List.append_cancel_left hf
  have hzL : Linz L := by
    rcases hz with ⟨-, hz⟩ | ⟨-, -, rfl⟩
    · exact hz
    · trivial
  have h2 := linz_take hzL hf2 (whole_end f.text)
  rw [← cnt_count] at h2
  refine ⟨hlh, h2, ?_⟩
  have h3 := linz_count hzL
  rw [hf2, List.count_append, ← cnt_count] at h3
  omega
end Go.Proofs.YtpnfjiglphogoadDoor
