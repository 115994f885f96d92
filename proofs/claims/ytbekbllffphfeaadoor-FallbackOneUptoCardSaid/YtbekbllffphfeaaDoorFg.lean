/-
  For the laws of fallback: the three texts of a text with marks, by the program and by the document. Condition: at most 30,000,000 bytes; marks of at most 100,000; marker's table is as it is laid.
-/
import Derived.Test.YtbekbllffphfeaaDoorFe
import Derived.Test.YtbekbllffphfeaaDoorFf
import Derived.Test.YtbekbllffphfeaaDoorKPstate
import Derived.Test.YtbekbllffphfeaaDoorKParse
namespace Go.Proofs.YtbekbllffphfeaaDoor
open Go.RowKit Go.Shelf
set_option linter.unusedSimpArgs false
set_option linter.unusedVariables false

/-- The three texts of parts. -/
def side3 (L : List Pt) : ByteArray × ByteArray × ByteArray := (bs (sideP L 0), bs (sideP L 1), bs (sideP L 2))
def sidesQ : Option (List K.Pt) → (ByteArray × ByteArray × ByteArray) × Int
  | none => ((⟨#[]⟩, ⟨#[]⟩, ⟨#[]⟩), 90)
  | some L => (side3 (L.map pk), 0)
def sidesP (s : ByteArray) (n : Int) : (ByteArray × ByteArray × ByteArray) × Int := sidesQ (K.parseT (K.lnB s) n)
def vec3 (x : ByteArray × ByteArray × ByteArray) : Value := .agg #[.string x.1, .string x.2.1, .string x.2.2]
def sdR (x : ByteArray × ByteArray × ByteArray) : Nat → Array Value
  | 0 => #[.string ⟨#[]⟩, .string ⟨#[]⟩, .string ⟨#[]⟩]
  | 1 => #[.string x.1, .string ⟨#[]⟩, .string ⟨#[]⟩]
  | 2 => #[.string x.1, .string x.2.1, .string ⟨#[]⟩]
  | _ => #[.string x.1, .string x.2.1, .string x.2.2]
theorem arr22 : Tryd.prog.underlying 35 = some (.array 3 9) := by kernel_rfl
theorem side_sum (n : Int) : ∀ L : List K.Pt, (sideP (L.map pk) n).length ≤ K.sumW L
  | [] => Nat.zero_le _
  | p :: L => by
    have ih := side_sum n L
    have e : K.sumW (p :: L) = K.wP p + K.sumW L := by unfold K.sumW; rw [List.map_cons, List.sum_cons]
    rw [e, List.map_cons]
    unfold sideP at ih ⊢
    rw [List.flatMap_cons, List.length_append]
    have h : ((pk p).side n).length ≤ K.wP p := by
      unfold Pt.side K.wP pk
      dsimp only
      split
      · omega
      · split
        · omega
        · split
          · omega
          · exact Nat.zero_le _
    omega
theorem sumW_take (L : List K.Pt) (k : Nat) : K.sumW (L.take k) ≤ K.sumW L := by
  have h : K.sumW L = K.sumW (L.take k) + K.sumW (L.drop k) := by rw [← K.sumW_app, List.take_append_drop]
  omega
theorem sumW_mem {L : List K.Pt} {p : K.Pt} (h : p ∈ L) : K.wP p ≤ K.sumW L := by
  obtain ⟨a, b, rfl⟩ := List.append_of_mem h
  rw [show p :: b = [p] ++ b from rfl, K.sumW_app, K.sumW_app, K.sumW_one]
  omega
/-- What is read may be put together, side by side. -/
theorem read_ok {s : ByteArray} {n : Int} {L : List K.Pt} (hs : s.size ≤ 30000000) (h : K.parseT (K.lnB s) n = some L) : (L.map pk).length ≤ 100000000 ∧ (∀ p ∈ L.map pk, okB p) ∧ ∀ (m : Int) (k : Nat), (sideP ((L.map pk).take k) m).length ≤ 100000000000 := by
  obtain ⟨h1, h2⟩ := K.parse_size h
  refine ⟨by rw [List.length_map]; omega, fun p hp => ?_, fun m k => ?_⟩
  · obtain ⟨q, hq, rfl⟩ := List.mem_map.1 hp
    have := sumW_mem hq
    unfold K.wP at this
    exact ⟨by show q.o.length ≤ _; omega, by show q.a.length ≤ _; omega, by show q.b.length ≤ _; omega⟩
  · rw [← List.map_take]
    have h3 := side_sum m (L.take k)
    have h4 := sumW_take L k
    omega
set_option maxRecDepth 100000 in
set_option maxHeartbeats 16000000 in
theorem Sides_any (s : ByteArray) (n : Int) (hs : s.size ≤ 30000000) (w : World) (hW : K.MkW w) : Calls Tryd.prog 10 #[.string s, .int .i64 n] w fun e w' => e = .returned (.tuple #[vec3 (sidesP s n).1, .int .i64 (sidesP s n).2]) ∧ Below w.heap.size w w' := by
  have hz := hW.size
  have CP := Lib.hid (fun W (hB : Below w.heap.size w W) => K.Parse_any s (by omega) n W (hW.below hB hz))
  have RO := Lib.hid (fun L (h : K.parseT (K.lnB s) n = some L) => read_ok hs h)
  obtain ⟨R, hR⟩ : ∃ R, Hid (sidesP s n = R) := ⟨_, Lib.hid rfl⟩
  have hR2 : Hid (R = sidesQ (K.parseT (K.lnB s) n)) := Lib.hid hR.out.symm
  rw [hR.out]
  clear hR hW hs
  obtain ⟨P, hP⟩ : ∃ P, K.parseT (K.lnB s) n = P := ⟨_, rfl⟩
  rw [hP] at CP RO hR2
  clear hP
  go_enter Tryd.func10, Tryd.ntmps10
  go_wp2_with fail
  refine calls_gen (fun W => RowAt W w.heap.size 35 #[.string ⟨#[]⟩, .string ⟨#[]⟩, .string ⟨#[]⟩] ∧ Below w.heap.size w W) ⟨RowAt.new w 35 _, (Below.refl _ w).alloc (Nat.le_refl _) _⟩ ?_
  rintro W1 ⟨r1, b1⟩
  refine (CP.out W1 b1).mono ?_
  rintro e w2 ⟨hpi, b2⟩
  have R2 := Lib.hid (r1.later b2)
  have B2 := Lib.hid (b1.trans (b2.mono b1.size))
  have hw1 := r1.lt
  have hw2 : w.heap.size < w2.heap.size := by have := b2.size; omega
  clear r1 b1 b2 CP hw1
  have z0 := R2.out.frozen 0
  have z1 := R2.out.frozen 1
  have z2 := R2.out.frozen 2
  have c0 : w2.cell? ⟨w.heap.size, 0, none⟩ = some (.string ⟨#[]⟩) := R2.out.cell rfl
  have c1 : w2.cell? ⟨w.heap.size, 1, none⟩ = some (.string ⟨#[]⟩) := R2.out.cell rfl
  have c2 : w2.cell? ⟨w.heap.size, 2, none⟩ = some (.string ⟨#[]⟩) := R2.out.cell rfl
  cases P with
  | none =>
    obtain rfl := hpi
    have hRR : Hid (R = ((⟨#[]⟩, ⟨#[]⟩, ⟨#[]⟩), 90)) := Lib.hid hR2.out
    have R3 : Hid (RowAt (((w2.setCell ⟨w.heap.size, 0, none⟩ (.string ⟨#[]⟩)).setCell ⟨w.heap.size, 1, none⟩ (.string ⟨#[]⟩)).setCell ⟨w.heap.size, 2, none⟩ (.string ⟨#[]⟩)) w.heap.size 35 #[.string ⟨#[]⟩, .string ⟨#[]⟩, .string ⟨#[]⟩]) := Lib.hid (((R2.out.set 0 _).set 1 _).set 2 _)
    have B3 : Hid (Below w.heap.size w (((w2.setCell ⟨w.heap.size, 0, none⟩ (.string ⟨#[]⟩)).setCell ⟨w.heap.size, 1, none⟩ (.string ⟨#[]⟩)).setCell ⟨w.heap.size, 2, none⟩ (.string ⟨#[]⟩))) := Lib.hid (((B2.out.setCell (p := ⟨w.heap.size, 0, none⟩) (Nat.le_refl _) _).setCell (p := ⟨w.heap.size, 1, none⟩) (Nat.le_refl _) _).setCell (p := ⟨w.heap.size, 2, none⟩) (Nat.le_refl _) _)
    clear RO hR2
    go_wp2_with fail
    refine bodyPost_ret (K.results_cell_row_tmp (P := Tryd.prog) rfl _ _ w.heap.size 35 #[.string ⟨#[]⟩, .string ⟨#[]⟩, .string ⟨#[]⟩] (0, 0) _ rfl R3.out arr22 rfl rfl) rfl ?_
    exact ⟨by rw [hRR.out]; rfl, B3.out⟩
  | some L =>
    obtain ⟨v, rfl, hv⟩ := hpi
    obtain ⟨k1, k2, k3⟩ := RO.out L rfl
    have HV := Lib.hid (prts_of_k hv)
    obtain ⟨M, hM⟩ : ∃ M, L.map pk = M := ⟨_, rfl⟩
    have hRR : Hid (R = (side3 M, 0)) := Lib.hid (by rw [← hM]; exact hR2.out)
    rw [hM] at k1 k2 k3 HV
    have CS := Lib.hid (fun (m : Int) W (hB : Below w2.heap.size w2 W) => SideG_any v M m k1 k2 (k3 m) W (HV.out.below hB))
    obtain ⟨a, cap, hva, -⟩ := HV.out
    obtain ⟨len, hlen⟩ : ∃ len, Hid (M.length = len) := ⟨_, Lib.hid rfl⟩
    rw [hlen.out] at hva
    subst hva
    clear hR2 RO k1 k2 k3 HV hM hv
    obtain ⟨x, hx⟩ : ∃ x, side3 M = x := ⟨_, rfl⟩
    have hx0 : Hid (bs (sideP M 0) = x.1) := Lib.hid (by rw [← hx]; rfl)
    have hx1 : Hid (bs (sideP M 1) = x.2.1) := Lib.hid (by rw [← hx]; rfl)
    have hx2 : Hid (bs (sideP M 2) = x.2.2) := Lib.hid (by rw [← hx]; rfl)
    rw [hx] at hRR
    clear hx
    go_wp2_with fail
    obtain ⟨W3, hW3⟩ : ∃ W3, Hid (w2.alloc (.cells #[.string ⟨#[]⟩, .string ⟨#[]⟩, .string ⟨#[]⟩] 35) = W3) := ⟨_, Lib.hid rfl⟩
    have T1 : Hid (RowAt W3 w2.heap.size 35 (sdR x 0)) := Lib.hid (by rw [← hW3.out]; exact RowAt.new w2 35 _)
    have B3 : Hid (Below w2.heap.size w2 W3) := Lib.hid (by rw [← hW3.out]; exact (Below.refl _ _).alloc (Nat.le_refl _) _)
    rw [hW3.out]
    clear z0 z1 z2 c0 c1 c2
    go_loopw [20] (fun i wr => ∃ j : Nat, j ≤ 3 ∧ i = .int .i64 j ∧ Hid (RowAt wr w2.heap.size 35 (sdR x j)) ∧ Hid (Below w2.heap.size w2 wr)) (fun i _ => 3 - (intOf i).toNat)
    case atStart => exact ⟨0, Nat.zero_le _, rfl, T1, B3⟩
    case round =>
      obtain ⟨j, hj, rfl, t1, bw⟩ := hrel
      clear T1 B3 hW3
      obtain rfl | rfl | rfl | rfl : j = 0 ∨ j = 1 ∨ j = 2 ∨ j = 3 := by omega
      · have D := Lib.hid (CS.out 0 wr bw.out)
        rw [hx0.out] at D
        go_wp2_with fail
        refine D.out.mono ?_
        rintro e w3 ⟨rfl, b3⟩
        have t2 := Lib.hid (t1.out.later b3)
        have b4 := Lib.hid (bw.out.trans (b3.mono bw.out.size))
        have u0 : w3.cell? ⟨w2.heap.size, 0, none⟩ = some (.string ⟨#[]⟩) := t2.out.cell rfl
        have v0 := t2.out.frozen 0
        clear b3 D
        go_wp2_with fail
        exact ⟨⟨1, by omega, rfl, Lib.hid (t2.out.set 0 _), Lib.hid (b4.out.setCell (p := ⟨w2.heap.size, 0, none⟩) (Nat.le_refl _) _)⟩, by simp [intOf]⟩
      · have D := Lib.hid (CS.out 1 wr bw.out)
        rw [hx1.out] at D
        go_wp2_with fail
        refine D.out.mono ?_
        rintro e w3 ⟨rfl, b3⟩
        have t2 := Lib.hid (t1.out.later b3)
        have b4 := Lib.hid (bw.out.trans (b3.mono bw.out.size))
        have u0 : w3.cell? ⟨w2.heap.size, 1, none⟩ = some (.string ⟨#[]⟩) := t2.out.cell rfl
        have v0 := t2.out.frozen 1
        clear b3 D
        go_wp2_with fail
        exact ⟨⟨2, by omega, rfl, Lib.hid (t2.out.set 1 _), Lib.hid (b4.out.setCell (p := ⟨w2.heap.size, 1, none⟩) (Nat.le_refl _) _)⟩, by simp [intOf]⟩
      · have D := Lib.hid (CS.out 2 wr bw.out)
        rw [hx2.out] at D
        go_wp2_with fail
        refine D.out.mono ?_
        rintro e w3 ⟨rfl, b3⟩
        have t2 := Lib.hid (t1.out.later b3)
        have b4 := Lib.hid (bw.out.trans (b3.mono bw.out.size))
        have u0 : w3.cell? ⟨w2.heap.size, 2, none⟩ = some (.string ⟨#[]⟩) := t2.out.cell rfl
        have v0 := t2.out.frozen 2
        clear b3 D
        go_wp2_with fail
        exact ⟨⟨3, by omega, rfl, Lib.hid (t2.out.set 2 _), Lib.hid (b4.out.setCell (p := ⟨w2.heap.size, 2, none⟩) (Nat.le_refl _) _)⟩, by simp [intOf]⟩
      · have e0 : wr.cell? ⟨w2.heap.size, 0, none⟩ = some (.string x.1) := t1.out.cell rfl
        have e1 : wr.cell? ⟨w2.heap.size, 1, none⟩ = some (.string x.2.1) := t1.out.cell rfl
        have e2 : wr.cell? ⟨w2.heap.size, 2, none⟩ = some (.string x.2.2) := t1.out.cell rfl
        have R3 := Lib.hid (R2.out.later bw.out)
        have z0 := R3.out.frozen 0
        have z1 := R3.out.frozen 1
        have z2 := R3.out.frozen 2
        have c0 : wr.cell? ⟨w.heap.size, 0, none⟩ = some (.string ⟨#[]⟩) := R3.out.cell rfl
        have c1 : wr.cell? ⟨w.heap.size, 1, none⟩ = some (.string ⟨#[]⟩) := R3.out.cell rfl
        have c2 : wr.cell? ⟨w.heap.size, 2, none⟩ = some (.string ⟨#[]⟩) := R3.out.cell rfl
        have B4 := Lib.hid (B2.out.trans (bw.out.mono B2.out.size))
        have R4 : Hid (RowAt (((wr.setCell ⟨w.heap.size, 0, none⟩ (.string x.1)).setCell ⟨w.heap.size, 1, none⟩ (.string x.2.1)).setCell ⟨w.heap.size, 2, none⟩ (.string x.2.2)) w.heap.size 35 #[.string x.1, .string x.2.1, .string x.2.2]) := Lib.hid (((R3.out.set 0 _).set 1 _).set 2 _)
        have B5 : Hid (Below w.heap.size w (((wr.setCell ⟨w.heap.size, 0, none⟩ (.string x.1)).setCell ⟨w.heap.size, 1, none⟩ (.string x.2.1)).setCell ⟨w.heap.size, 2, none⟩ (.string x.2.2))) := Lib.hid (((B4.out.setCell (p := ⟨w.heap.size, 0, none⟩) (Nat.le_refl _) _).setCell (p := ⟨w.heap.size, 1, none⟩) (Nat.le_refl _) _).setCell (p := ⟨w.heap.size, 2, none⟩) (Nat.le_refl _) _)
        go_wp2_with fail
        refine bodyPost_ret (K.results_cell_row_tmp (P := Tryd.prog) rfl _ _ w.heap.size 35 #[.string x.1, .string x.2.1, .string x.2.2] (0, 0) _ rfl R4.out arr22 rfl rfl) rfl ?_
        exact ⟨by rw [hRR.out]; rfl, B5.out⟩
end Go.Proofs.YtbekbllffphfeaaDoor
