/-
  skip returns the features from the first one on whose name does not come before the given one. Condition: the slice holds the features.
-/
import Derived.Test.YthoppaemlandaaaDoorFeatBase
namespace Go.Proofs.YthoppaemlandaaaDoor
open Go.RowKit
open FeatPlain

def SkipPost (w : World) (l : List Ft) (e : Ending) (w' : World) : Prop := (∃ A' n' c', e = .returned (.slice A' n' c') ∧ Sl w A' n' c' l) ∧ w = w'

end Go.Proofs.YthoppaemlandaaaDoor
