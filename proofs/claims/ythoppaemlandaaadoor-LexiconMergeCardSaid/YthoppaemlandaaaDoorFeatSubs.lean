/-
  Subsumes returns whether every feature of the first list is met in the second one, as it goes through both. Condition: the slices hold the features.
-/
import Derived.Test.YthoppaemlandaaaDoorFeatSkip
namespace Go.Proofs.YthoppaemlandaaaDoor
open Go.RowKit
open FeatPlain

def BoolPost (w : World) (r : Bool) (e : Ending) (w' : World) : Prop := e = .returned (.bool r) ∧ Aft w w'

end Go.Proofs.YthoppaemlandaaaDoor
