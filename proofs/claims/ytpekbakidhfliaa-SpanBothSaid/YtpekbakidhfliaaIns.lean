/-
  For the laws of span: edits put in order one by one, by the program: the library's contract at this program. No condition.
-/
import Derived.Test.YtpekbakidhfliaaCmp
namespace Go.Proofs.Ytpekbakidhfliaa
open Go.RowKit Go.Shelf Go.Sort

def renI : Go.Shelf.Ren := ⟨fun | 20 => 38 | n => n, fun | 0 => 0 | 3 => 3 | 4 => 4 | 22 => 22 | 24 => 39 | 25 => 58 | n => n, fun | n => n⟩
theorem laysI : SlLaysF0.n20 Try.prog renI := {
  mixed := by kernel_rfl
  f20 := ⟨"slices.insertionSortCmpFunc[concordat/api.Edit]", by decide, Try.func38.trans (congrArg some (by kernel_rfl))⟩
  t0 := Try.underlying0
  a0 := Try.isAgg0
  z0 := Try.sizeOf0
  v0 := Try.zeroValue0
  t3 := Try.underlying3
  a3 := Try.isAgg3
  z3 := Try.sizeOf3
  v3 := Try.zeroValue3
  t4 := Try.underlying4
  a4 := Try.isAgg4
  z4 := Try.sizeOf4
  v4 := Try.zeroValue4
  t22 := Try.underlying22
  a22 := Try.isAgg22
  z22 := Try.sizeOf22
  v22 := Try.zeroValue22
  t25 := Try.underlying58
  a25 := Try.isAgg58
  z25 := Try.sizeOf58
  v25 := Try.zeroValue58 }
theorem isort_any (L : List Ed) (blk cap a b : Nat) (d : Array Nat) (w : World) (hH : HoldsK (encL L) 3 w blk 0 d) (hblk : blk < w.heap.size) (hab : a ≤ b) (hb : b ≤ d.size) (hsz : d.size < 4611686018427387904) :
    Calls Try.prog 38 #[.slice (some ⟨blk, 0, none⟩) d.size cap, .int .i64 a, .int .i64 b, .func (.func 29) #[] #[]] w fun e w' =>
      e = .returned (.tuple #[]) ∧ ∃ n os, w' = sortWorldK (encL L) 3 w blk 0 n (Sort.insertionSort (ltOf (cfL L)) d a b) os :=
  AnyQ.insertionSortCmpFunc laysI 3 Try.isAgg39 Try.sizeOf39 (encL L) (encL_len L) (encL_one L) (cfL L) 29 #[] blk 0 cap a b d w (enters_of Try.func29 (by kernel_rfl) rfl) (cmpL L blk d.size w) hH hblk hab hb hsz
end Go.Proofs.Ytpekbakidhfliaa
