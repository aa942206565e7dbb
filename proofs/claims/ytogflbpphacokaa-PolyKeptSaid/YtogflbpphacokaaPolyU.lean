/- Contract: the sort of monomials, by the library's own contract. -/
import Derived.Shelf.SlSortCmp.WholeK
import Derived.Test.YtogflbpphacokaaShelf
import Derived.Test.YtogflbpphacokaaPolyT
namespace Go.Proofs.Ytogflbpphacokaa
open Go.RowKit Go.Sort

/-- A monomial whose numbers fit. -/
structure WMo where
  val : Mo
  ok : val.wf
def zeroMo : Mo := ⟨0, 0, 0, 0, 0, 0, 0⟩
theorem zeroMo_wf : zeroMo.wf := Mo.wf_mk (by show -9223372036854775808 ≤ (0 : Int) ∧ (0 : Int) ≤ 9223372036854775807; omega) (by decide) (by decide) (by decide) (by decide) (by decide) (by decide)
instance : Inhabited WMo := ⟨⟨zeroMo, zeroMo_wf⟩⟩
def encW (x : WMo) : List Value := x.val.cells
def cfW (x y : WMo) : Int := cmpI y.val.code x.val.code
theorem ltW (x y : WMo) : ltOf cfW x y = decide (y.val.code < x.val.code) := by
  unfold ltOf cfW cmpI
  by_cases h1 : y.val.code < x.val.code
  · simp [h1]
  · by_cases h2 : x.val.code < y.val.code <;> simp [h1, h2]
theorem swoW : SWO (ltOf cfW) where
  irrefl x := by rw [ltW]; simp
  trans x y z h1 h2 := by rw [ltW] at *; simp at *; omega
  ntrans x y z h1 h2 := by rw [ltW] at *; simp at *; omega
theorem cmpLays (blk off size : Nat) (w : World) : CmpLays Try.prog 35 #[] encW 7 cfW blk off size w :=
  fun _ _ _ _ x y => falling_any x.val y.val x.ok y.ok _
theorem isAgg44 (w : World) : (isAgg 44).run Try.prog w = .ok true w := by kernel_rfl
theorem sizeOf44' (w : World) : (sizeOf 44).run Try.prog w = .ok 7 w := by kernel_rfl
theorem sort_any (blk cap : Nat) (d : Array WMo) (w : World) (hH : HoldsK encW 7 w blk 0 d) (hblk : blk < w.heap.size) (hsz : d.size < 4611686018427387904) :
    Calls Try.prog 48 #[.slice (some ⟨blk, 0, none⟩) d.size cap, .func (.func 35) #[] #[]] w fun e w' =>
      e = .returned (.tuple #[]) ∧ ∃ d' n os, PermIn 0 d.size d d' ∧ SortedIn (ltOf cfW) 0 d.size d' ∧ w' = sortWorldK encW 7 w blk 0 n d' os := by
  have eg : ∀ args w, (callFunc 35 args).run Try.prog w = .ok (.enter 35 args) w := enters_of Try.func35 (by kernel_rfl) rfl
  exact AnyQ.slices_SortFunc Try.sortMono 7 isAgg44 sizeOf44' encW (fun _ => rfl) (fun x => oneCells x.val) cfW swoW 35 #[] blk 0 cap d w eg (cmpLays blk 0 d.size w) hH hblk hsz
end Go.Proofs.Ytogflbpphacokaa
