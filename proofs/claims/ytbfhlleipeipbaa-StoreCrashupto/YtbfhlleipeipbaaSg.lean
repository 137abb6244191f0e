/-
  What is proved: the contract of slices.insertionSortCmpFunc at store.Change (the library's own, laid at this program). Conditions: those in each statement.
-/
import Derived.Test.YtbfhlleipeipbaaSlp
import Derived.Test.YtbfhlleipeipbaaSw
import Derived.Test.YtbfhlleipeipbaaSb
namespace Go.Proofs
open Go.Shelf
namespace Ytbfhlleipeipbaa
open Go.RowKit Go.Lib Go.Sort
theorem insertion_any (cf : Cg → Cg → Int) (hO : SWO (ltOf cf)) (g : Nat) (cb : Array Value) (blk off cap : Nat) (d0 : Array Cg) (w0 : World)
    (eg : ∀ args w, (callFunc g args).run Try.prog w = .ok (.enter g args) w) (hcmp : CmpLays Try.prog g cb encC 3 cf blk off d0.size w0) (R : RowK encC 3 w0 blk off d0)
    (a b : Nat) (d : Array Cg) (w : World) (hs : d0.size = d.size) (S : SWK encC 3 w0 blk off d w) (hab : a ≤ b) (hb : b ≤ d.size) (hsz : d.size < 4611686018427387904) :
    Calls Try.prog 105 #[.slice (some ⟨blk, off, none⟩) d.size cap, .int .i64 a, .int .i64 b, .func (.func g) #[] cb] w fun e w' => e = .returned (.tuple #[]) ∧ ∃ d', SWK encC 3 w0 blk off d' w' ∧ StbIn (ltOf cf) a (b - a) d d' ∧ SortedIn (ltOf cf) a b d' := by
  have hs' : (Sort.insertionSort (ltOf cf) d a b).size = d.size := (insertionSort_holds hO d a b hab hb).1.1
  have hC : CmpLays Try.prog g cb encC 3 cf blk off d.size w := fun m os dk hdk x y => by
    obtain ⟨n0, os0, rfl⟩ := S
    rw [sortWorldK_on encC 3 w0 blk off n0 m d dk os0 os R.hblk hdk]
    exact hcmp _ _ dk (by omega) x y
  have h := AnyQ.insertionSortCmpFunc Try.insLay 3 Try.isAgg52 Try.sizeOf52 encC R.hk R.h1 cf g cb blk off cap a b d w eg hC (S.holds R.hblk R.hH hs.symm) (S.lt R.hblk) hab hb hsz
  change Calls Try.prog 105 _ _ _ at h
  refine h.mono ?_
  rintro e w' ⟨rfl, n, os, rfl⟩
  exact ⟨rfl, _, S.on R.hblk n _ os hs', insertionSort_stb d a b hb, insertionSort_srt hO d a b hab hb⟩
end Ytbfhlleipeipbaa
end Go.Proofs
