/-
  For the laws of span: two stretches in order become one, by the program. Condition: all lies within the row.
-/
import Derived.Test.YtpekbakidhfliaaSmb
import Derived.Deep.Cut
namespace Go.Proofs.Ytpekbakidhfliaa
open Go.RowKit Go.Shelf Go.Sort
set_option linter.unusedSimpArgs false

/-- What is asked of the search: where it begins and ends. -/
def StI (s r : Value) (a m b M : Nat) : Prop := ∃ i j : Nat, s = .int .i64 i ∧ r = .int .i64 j ∧ a ≤ i ∧ i ≤ j ∧ j ≤ m ∧ j ≤ M ∧ M + m ≤ b + i ∧ (i = a ∨ M + m = b + i) ∧ (j = m ∨ j = M)
theorem stI {s r : Value} {a m b M : Nat} (i j : Nat) (h1 : s = .int .i64 i) (h2 : r = .int .i64 j) (h3 : a ≤ i) (h4 : i ≤ j) (h5 : j ≤ m) (h6 : j ≤ M) (h7 : M + m ≤ b + i) (h8 : i = a ∨ M + m = b + i) (h9 : j = m ∨ j = M) : StI s r a m b M := ⟨i, j, h1, h2, h3, h4, h5, h6, h7, h8, h9⟩
/-- What the merge of the stretches from a to m and from m to b comes to. -/
def Merges (L : List Ed) (blk cap len : Nat) (w0 : World) (a m b : Nat) : Prop := ∀ (d : Array Nat) (w : World), d.size = len → SWK (encL L) 3 w0 blk 0 d w → SortedIn (sl L) a m d → SortedIn (sl L) m b d → Crs L d a m b →
  Calls Try.prog 39 #[.slice (some ⟨blk, 0, none⟩) len cap, .int .i64 a, .int .i64 m, .int .i64 b, .func (.func 29) #[] #[]] w (MrgR L w0 blk d a b)
def Got1 (L : List Ed) (w0 : World) (blk len : Nat) (d : Array Nat) (a s M e b : Nat) (W : World) : Prop := ∃ d1 : Array Nat, d1.size = len ∧ SWK (encL L) 3 w0 blk 0 d1 W ∧ Cut L d1 a s M e b ∧ PermIn a b d d1
def Got2 (L : List Ed) (w0 : World) (blk a M : Nat) (d1 : Array Nat) (W : World) : Prop := ∃ d2 : Array Nat, SWK (encL L) 3 w0 blk 0 d2 W ∧ PermIn a M d1 d2 ∧ SortedIn (sl L) a M d2
set_option maxRecDepth 100000 in
set_option maxHeartbeats 16000000 in
theorem symC (L : List Ed) (blk cap len a m b : Nat) (d0 : Array Nat) (w0 : World) (R : RowK (encL L) 3 w0 blk 0 d0) (hs : len = d0.size) (ham : a + 1 < m) (hmb : m + 1 < b) (hb : b ≤ len) (hsz : len < 1000000) (hc : len ≤ cap) (hcm : cap ≤ maxLen)
    (ih : ∀ a' m' b', b' - a' < b - a → a' < m' → m' < b' → b' ≤ len → Merges L blk cap len w0 a' m' b') : Merges L blk cap len w0 a m b := by
  intro d w hd S s1 s2 hcr
  have HS := Lib.hid S
  have Hs := Lib.hid hs
  have Hd := Lib.hid hd
  have Hcm := Lib.hid hcm
  have S1 := Lib.hid s1
  have S2 := Lib.hid s2
  have Hcr := Lib.hid hcr
  have Ih := Lib.hid ih
  have t0 : ((m : Int) - a == 1) = false := beq_eq_false_iff_ne.2 (by omega)
  have t1 : ((b : Int) - m == 1) = false := beq_eq_false_iff_ne.2 (by omega)
  obtain ⟨M, hM⟩ : ∃ M, M = (a + b) / 2 := ⟨_, rfl⟩
  have eM : ((a : Int) + b) / 2 = (M : Int) := by omega
  have hM1 : a < M := by omega
  have hM2 : M < b := by omega
  have hM3 : a + b ≤ 2 * M + 1 := by omega
  have hM4 : 2 * M ≤ a + b := by omega
  have EM := Lib.hid eM
  clear S hs hcm hd s1 s2 hcr ih hM eM
  go_enter Try.func39, Try.ntmps39
  go_upto_if 140 with fail
  rw [EM.out]
  go_cut [20, 21] from 138 (fun s r wc => StI s r a m b M ∧ wc = w)
  case first =>
    by_cases hm : (M : Int) < (m : Int)
    · have hm1 : decide ((M : Int) < (m : Int)) = true := decide_eq_true hm
      have eS : (M : Int) + m - b = ((M + m - b : Nat) : Int) := by omega
      have ES := Lib.hid eS
      clear eS
      go_wp2_with fail
      go_meet
      exact ⟨stI (M + m - b) M (by rw [← ES.out]) rfl (by omega) (by omega) (by omega) (by omega) (by omega) (.inr (by omega)) (.inr rfl), rfl⟩
    · have hm1 : decide ((M : Int) < (m : Int)) = false := decide_eq_false hm
      go_wp2_with fail
      go_meet
      exact ⟨stI a m rfl rfl (by omega) (by omega) (by omega) (by omega) (by omega) (.inl rfl) (.inl rfl), rfl⟩
  case rest =>
    obtain ⟨⟨s0, r0, rfl, rfl, z1, z2, z3, z4, z5, z6, z7⟩, rfl⟩ := hcut
    go_wp2_with fail
    go_loopw [20, 21] (fun ci cj wr => SmI ci cj s0 r0 (fun x => kl L d[M + m - 1 - x]! d[x]! = false) (fun x => kl L d[M + m - 1 - x]! d[x]! = true) ∧ Hid (SWK (encL L) 3 w0 blk 0 d wr)) (fun ci cj _ => (intOf cj).toNat - (intOf ci).toNat)
    case atStart => exact ⟨smI s0 r0 rfl rfl (by omega) (by omega) (by omega) (.inl rfl) (.inl rfl), HS⟩
    case round =>
      obtain ⟨hI, hS⟩ := hrel
      obtain ⟨i, j, rfl, rfl, hmi, hij, hjb, hi1, hj1⟩ := smO hI
      clear hI
      by_cases hlt : i < j
      · have hlt' : (i : Int) < (j : Int) := by omega
        obtain ⟨h, hh⟩ : ∃ h, h = (i + j) / 2 := ⟨_, rfl⟩
        have eh : ((i : Int) + j) / 2 = (h : Int) := by omega
        have h1 : i ≤ h ∧ h < j := by omega
        obtain ⟨g, hg⟩ : ∃ g, g = M + m - 1 - h := ⟨_, rfl⟩
        have eg : (M : Int) + m - 1 - h = (g : Int) := by omega
        obtain ⟨x, y, c, hxy, x0, x1, x2, y0, y1, y2, hcg, hSg⟩ := ask L hS.out R (by rw [Hd.out, Hs.out]) (i := g) (j := h) (by rw [Hd.out]; omega) (by rw [Hd.out]; omega)
        have Hxy := Lib.hid hxy
        have HSg := Lib.hid hSg
        have mixed : Try.prog.follows .mixedOrders = true := by kernel_rfl
        have Eh := Lib.hid eh
        have Hg := Lib.hid hg
        have q0 : (0 : Int) ≤ (h : Int) := by omega
        have q1 : (h : Int) < (len : Int) := by omega
        have q2 : (h : Int) ≤ (M : Int) + m - 1 := by omega
        have q3 : (M : Int) + m - 1 - h < (len : Int) := by omega
        have q4 : ((M : Int) + m - 1 - h).toNat = g := by omega
        have q5 : IntKind.i64.wrap ((M : Int) + m - 1 - h) = (M : Int) + m - 1 - h := by rw [Go.IntWalk.i64_left, Go.IntWalk.wrap64_in _ (by omega)]
        clear hxy hSg hh eh hg eg
        go_wp2_with fail
        rw [Eh.out]
        by_cases hcc : c < 0
        · have hd : decide (c < 0) = true := decide_eq_true hcc
          have hkl : Hid (kl L d[M + m - 1 - h]! d[h]! = true) := Lib.hid (by rw [← Hg.out, Hxy.out]; exact hd)
          refine wp_region_quiet_grown (by assumption) (by kernel_rfl) ?_
          repeat (quiet_step (fail))
          refine wpQuiet_step (fun K hK => ?_)
          go_simp
          refine ⟨_, fun p => Calls.grown_of (hcg p.n p.os), hK _ ?_⟩
          clear hK K
          repeat (quiet_step (fail))
          refine wpQuiet_nil ?_
          intro _ hw'
          obtain ⟨⟨nq, osq⟩, hw''⟩ := hw'
          subst hw''
          have HS2 := Lib.hid (HSg.out nq osq)
          clear x0 x1 x2 y0 y1 y2 hcg
          go_wp2_with fail
          refine ⟨⟨smI i h rfl rfl hmi (by omega) (by omega) hi1.out (.inr hkl.out), HS2⟩, by simp [intOf]; omega⟩
        · have hd : decide (c < 0) = false := decide_eq_false hcc
          have hkl : Hid (kl L d[M + m - 1 - h]! d[h]! = false) := Lib.hid (by rw [← Hg.out, Hxy.out]; exact hd)
          refine wp_region_quiet_grown (by assumption) (by kernel_rfl) ?_
          repeat (quiet_step (fail))
          refine wpQuiet_step (fun K hK => ?_)
          go_simp
          refine ⟨_, fun p => Calls.grown_of (hcg p.n p.os), hK _ ?_⟩
          clear hK K
          repeat (quiet_step (fail))
          refine wpQuiet_nil ?_
          intro _ hw'
          obtain ⟨⟨nq, osq⟩, hw''⟩ := hw'
          subst hw''
          have HS2 := Lib.hid (HSg.out nq osq)
          clear x0 x1 x2 y0 y1 y2 hcg
          go_wp2_with fail
          refine ⟨⟨smI (h + 1) j (by go_num) rfl (by omega) (by omega) hjb (.inr hkl.out) hj1.out, HS2⟩, by simp [intOf]; omega⟩
      · obtain rfl : i = j := by omega
        clear hlt hij
        obtain ⟨e, he⟩ : ∃ e, e = M + m - i := ⟨_, rfl⟩
        have ee : (M : Int) + m - i = (e : Int) := by omega
        have k1 : i = m ∨ e = m ∨ sl L d[e - 1]! d[i]! = true := by
          rcases hj1.out with h | h
          · rcases z7 with z | z
            · exact .inl (by omega)
            · exact .inr (.inl (by omega))
          · exact .inr (.inr (by rw [he, show M + m - i - 1 = M + m - 1 - i by omega]; exact kl_of_sl h))
        have k2 : i = a ∨ e = b ∨ sl L d[e]! d[i - 1]! = false := by
          rcases hi1.out with h | h
          · rcases z6 with z | z
            · exact .inl (by omega)
            · exact .inr (.inl (by omega))
          · by_cases hia : i = a
            · exact .inl hia
            · by_cases heb : e = b
              · exact .inr (.inl heb)
              · exact .inr (.inr (by rw [← Hcr.out (i - 1) e (by omega) (by omega) (by omega) (by omega), he, show M + m - i = M + m - 1 - (i - 1) by omega]; exact h))
        have hai : a ≤ i := by omega
        have him : i ≤ m := by omega
        have hiM : i ≤ M := by omega
        have hme : m ≤ e := by omega
        have heb : e ≤ b := by omega
        have hMe : M ≤ e := by omega
        have hMi : M = i + (e - m) := by omega
        have Ee := Lib.hid ee
        have K1 := Lib.hid k1
        have K2 := Lib.hid k2
        have HMi := Lib.hid hMi
        clear k1 k2 ee he hi1 hj1 hmi hjb z1 z2 z3 z4 z5 z6 z7 hMi
        go_upto_region 39 with fail
        rw [Ee.out]
        go_cut [185] from 178 (fun c wc => c = .bool (decide (i < m ∧ m < e)) ∧ wc = wr)
        case first =>
          by_cases g1 : i < m
          · have g1' : decide (i < m) = true := decide_eq_true g1
            go_wp2_with fail
            go_meet
            exact ⟨by simp [g1], rfl⟩
          · have g1' : decide (i < m) = false := decide_eq_false g1
            go_wp2_with fail
            go_meet
            exact ⟨by simp [g1], rfl⟩
        case rest =>
        obtain ⟨rfl, rfl⟩ := hcut
        go_upto_if 185 with fail
        go_cut [] from 178 (fun wx => Got1 L w0 blk len d a i M e b wx)
        case first =>
          by_cases g1 : i < m ∧ m < e
          · have g1' : decide (i < m ∧ m < e) = true := decide_eq_true g1
            have hrot := rotate_any L blk cap i m e d0 d w0 wc (.func (.func 29) #[] #[]) R (by rw [Hd.out, Hs.out]) hS.out g1.1 g1.2 (by rw [Hd.out]; omega) (by rw [Hd.out]; exact hsz) (by rw [Hd.out]; exact hc) Hcm.out
            rw [Hd.out] at hrot
            go_wp2_with fail
            refine hrot.mono ?_
            rintro e0 w1 ⟨⟨_, rfl⟩, d1, hd1, hS1, hP1, hR1⟩
            clear hrot
            go_wp2_with fail
            go_meet
            exact ⟨d1, hd1.trans Hd.out, hS1, cut_of hai him hme heb HMi.out S1.out S2.out Hcr.out K1.out K2.out hR1, permIn_mono _ _ i e a b hai heb (by rw [Hd.out]; exact hb) hP1⟩
          · have g1' : decide (i < m ∧ m < e) = false := decide_eq_false g1
            go_wp2_with fail
            go_meet
            refine ⟨d, Hd.out, hS.out, cut_of hai him hme heb HMi.out S1.out S2.out Hcr.out K1.out K2.out (fun x => ?_), permIn_refl d a b⟩
            by_cases him2 : i = m
            · rw [him2, rot_none2]
            · rw [show e = m by omega, rot_none]
        case rest =>
        obtain ⟨d1, hd1, hS1, hC, hP1⟩ := hcut
        have Hd1 := Lib.hid hd1
        have HS1 := Lib.hid hS1
        have HC := Lib.hid hC
        have HP1 := Lib.hid hP1
        clear hd1 hS1 hC hP1 hS
        go_upto_region 41 with fail
        go_cut [199] from 192 (fun c wx => c = .bool (decide (a < i ∧ i < M)) ∧ Hid (SWK (encL L) 3 w0 blk 0 d1 wx))
        case first =>
          by_cases g1 : a < i
          · have g1' : decide (a < i) = true := decide_eq_true g1
            go_wp2_with fail
            go_meet
            exact ⟨by simp [g1], HS1⟩
          · have g1' : decide (a < i) = false := decide_eq_false g1
            go_wp2_with fail
            go_meet
            exact ⟨by simp [g1], HS1⟩
        case rest =>
        clear HS1
        obtain ⟨rfl, HS1⟩ := hcut
        go_upto_if 199 with fail
        go_cut [] from 192 (fun wx => Got2 L w0 blk a M d1 wx)
        case first =>
          by_cases g1 : a < i ∧ i < M
          · have g1' : decide (a < i ∧ i < M) = true := decide_eq_true g1
            go_wp2_with fail
            refine (Ih.out a i M (by omega) g1.1 g1.2 (by omega) d1 _ Hd1.out HS1.out HC.out.a1 HC.out.a2 HC.out.c1).mono ?_
            rintro e0 w1 ⟨⟨_, rfl⟩, d2, hS2, hP2, hO2⟩
            go_wp2_with fail
            go_meet
            exact ⟨d2, hS2, hP2, hO2⟩
          · have g1' : decide (a < i ∧ i < M) = false := decide_eq_false g1
            go_wp2_with fail
            go_meet
            refine ⟨d1, HS1.out, permIn_refl d1 a M, ?_⟩
            by_cases hia : i = a
            · have h := HC.out.a2; rw [hia] at h; exact h
            · have h := HC.out.a1; rw [show i = M by omega] at h; exact h
        case rest =>
        obtain ⟨d2, hS2, hP2, hO2⟩ := hcut
        have HS2 := Lib.hid hS2
        have HP2 := Lib.hid hP2
        have HO2 := Lib.hid hO2
        have hd2 : d2.size = len := hP2.1.trans Hd1.out
        have Hd2 := Lib.hid hd2
        clear hS2 hP2 hO2 hd2
        go_upto_region 43 with fail
        go_cut [213] from 206 (fun c wx => c = .bool (decide (M < e ∧ e < b)) ∧ Hid (SWK (encL L) 3 w0 blk 0 d2 wx))
        case first =>
          by_cases g1 : M < e
          · have g1' : decide (M < e) = true := decide_eq_true g1
            go_wp2_with fail
            go_meet
            exact ⟨by simp [g1], HS2⟩
          · have g1' : decide (M < e) = false := decide_eq_false g1
            go_wp2_with fail
            go_meet
            exact ⟨by simp [g1], HS2⟩
        case rest =>
        clear HS2
        obtain ⟨rfl, HS2⟩ := hcut
        have hsame : ∀ x, M ≤ x → d2[x]! = d1[x]! := fun x h => HP2.out.2.1 x (.inr h)
        by_cases g1 : M < e ∧ e < b
        · have g1' : decide (M < e ∧ e < b) = true := decide_eq_true g1
          have o3 : SortedIn (sl L) M e d2 := fun p q h1 h2 h3 => by rw [hsame p h1, hsame q (by omega)]; exact HC.out.a3 p q h1 h2 h3
          have o4 : SortedIn (sl L) e b d2 := fun p q h1 h2 h3 => by rw [hsame p (by omega), hsame q (by omega)]; exact HC.out.a4 p q h1 h2 h3
          have o5 : Crs L d2 M e b := fun p q h1 h2 h3 h4 => by rw [hsame p h1, hsame q (by omega)]; exact HC.out.c2 p q h1 h2 h3 h4
          have O3 := Lib.hid o3
          have O4 := Lib.hid o4
          have O5 := Lib.hid o5
          clear o3 o4 o5 hsame
          go_wp2_with fail
          refine (Ih.out M e b (by omega) g1.1 g1.2 hb d2 _ Hd2.out HS2.out O3.out O4.out O5.out).mono ?_
          rintro e0 w1 ⟨⟨_, rfl⟩, d3, hS3, hP3, hO3⟩
          go_wp2_with fail
          go_end0
          have hj := cut_join HC.out (by omega) (by omega) (by rw [Hd1.out]; exact hb) HP2.out HO2.out hP3 hO3
          exact ⟨⟨_, rfl⟩, d3, hS3, permIn_trans _ _ _ a b HP1.out hj.1, hj.2⟩
        · have g1' : decide (M < e ∧ e < b) = false := decide_eq_false g1
          have o3 : SortedIn (sl L) M b d2 := by
            by_cases hMe2 : M = e
            · intro p q h1 h2 h3
              rw [hsame p h1, hsame q (by omega)]; exact HC.out.a4 p q (by omega) h2 h3
            · intro p q h1 h2 h3
              rw [hsame p h1, hsame q (by omega)]; exact HC.out.a3 p q h1 h2 (by omega)
          have O3 := Lib.hid o3
          clear o3 hsame
          go_wp2_with fail
          go_end0
          have hj := cut_join HC.out (by omega) (by omega) (by rw [Hd1.out]; exact hb) HP2.out HO2.out (permIn_refl d2 M b) O3.out
          exact ⟨⟨_, rfl⟩, d2, HS2.out, permIn_trans _ _ _ a b HP1.out hj.1, hj.2⟩
end Go.Proofs.Ytpekbakidhfliaa
