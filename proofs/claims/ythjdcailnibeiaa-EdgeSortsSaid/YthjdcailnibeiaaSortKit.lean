/-
  What the library's stable sort is asked with here: float64 by their bits, the order of layer 2 (edge); its insertion part, laid at this program.
-/
import Derived.Test.YthjdcailnibeiaaEdgeBase
import Derived.Shelf.SlSortCmp.Insertion1
import Derived.Sort.LotA
import Derived.Deep.Cut
import Derived.Deep.CutRange
namespace Go.Proofs.Ythjdcailnibeiaa
open Go.Shelf Go.RowKit Go.Lib Go.Sort

/-- A float64 by its bits. -/
def encF (x : UInt64) : Value := .float .f64 x.toNat
def cfF (x y : UInt64) : Int := cmpOf x.toNat y.toNat
/-- One stands ahead of the other. -/
def ltF (x y : UInt64) : Bool := ahead x.toNat y.toNat

theorem ltOf_cfF : ltOf cfF = ltF := by
  funext x y
  unfold ltOf cfF cmpOf cmpN ltF ahead
  by_cases h : place x.toNat < place y.toNat
  · simp [h]
  · by_cases h2 : place y.toNat < place x.toNat <;> simp [h, h2]
theorem swoF : SWO ltF where
  irrefl x := by unfold ltF ahead; simp
  trans x y z h1 h2 := by unfold ltF ahead at *; simp at *; omega
  ntrans x y z h1 h2 := by unfold ltF ahead at *; simp at *; omega
theorem oneF : OneCell encF := fun _ => rfl

theorem lt64 (x : UInt64) : x.toNat < 18446744073709551616 := x.toNat_lt

theorem cmpF (blk off size : Nat) (w : World) : CmpLays1 Try.prog 30 #[] encF cfF blk off size w := by
  intro m os dk _ x y
  refine (compare_walk x.toNat y.toNat _ (lt64 x) (lt64 y)).mono ?_
  rintro e w' ⟨rfl, rfl⟩
  exact ⟨rfl, 0, #[], by rw [grow_empty]; rfl⟩
theorem enterCmp : ∀ args w, (callFunc 30 args).run Try.prog w = .ok (.enter 30 args) w := enters_of Try.func30 (by kernel_rfl) rfl

def insRen : Ren := ⟨fun | 20 => 35 | n => n, fun | 22 => 25 | 24 => 22 | 25 => 41 | n => n, fun n => n⟩
theorem insLays : SlLaysF.n20 Try.prog insRen := {
  mixed := by kernel_rfl
  f20 := ⟨Try.f35.name, by kernel_rfl, by kernel_rfl⟩
  t0 := by kernel_rfl
  a0 := fun _ => by kernel_rfl
  z0 := fun _ => by kernel_rfl
  v0 := fun _ => by kernel_rfl
  t3 := by kernel_rfl
  a3 := fun _ => by kernel_rfl
  z3 := fun _ => by kernel_rfl
  v3 := fun _ => by kernel_rfl
  t4 := by kernel_rfl
  a4 := fun _ => by kernel_rfl
  z4 := fun _ => by kernel_rfl
  v4 := fun _ => by kernel_rfl
  t22 := by kernel_rfl
  a22 := fun _ => by kernel_rfl
  z22 := fun _ => by kernel_rfl
  v22 := fun _ => by kernel_rfl
  a24 := fun _ => by kernel_rfl
  z24 := fun _ => by kernel_rfl
  t25 := by kernel_rfl
  a25 := fun _ => by kernel_rfl
  z25 := fun _ => by kernel_rfl
  v25 := fun _ => by kernel_rfl }

/-- What a part of the sort comes to: another array in the same row, all else as it was; what is told of it. -/
def SortsTo (w0 : World) (blk off : Nat) (T : Array UInt64 → Prop) (e : Ending) (w' : World) : Prop :=
  e = .returned (.tuple #[]) ∧ ∃ d', T d' ∧ SW encF w0 blk off d' w'

theorem ins_walk (blk off cap a b : Nat) (d0 d : Array UInt64) (w0 w : World) (R : Row1 encF w0 blk off d0) (hs : d0.size = d.size) (S : SW encF w0 blk off d w)
    (hab : a ≤ b) (hb : b ≤ d.size) (hsz : d.size < 4611686018427387904) :
    Calls Try.prog 35 #[.slice (some ⟨blk, off, none⟩) d.size cap, .int .i64 a, .int .i64 b, .func (.func 30) #[] #[]] w
      (SortsTo w0 blk off fun d' => PermIn a b d d' ∧ SortedIn ltF a b d') := by
  refine (Any.insertionSortCmpFunc_s insLays encF cfF 30 #[] blk off cap a b d0 d w0 w enterCmp (cmpF _ _ _ _) R hs S hab hb hsz).mono ?_
  rintro e w' ⟨rfl, hS⟩
  rw [ltOf_cfF] at hS
  have := insertionSort_holds (lt := ltF) swoF d a b hab hb
  exact ⟨rfl, _, this, hS⟩
end Go.Proofs.Ythjdcailnibeiaa
