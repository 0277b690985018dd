/-
  The reference's Category and Stem return the lexemes with a category and a stem, in their order. Condition: the slice holds the lexemes, at most 2^32 of them.
-/
import Derived.Test.YtfoeghabnbjbgaaDoorLexFilter
namespace Go.Proofs.YtfoeghabnbjbgaaDoor
open Go.RowKit
open FeatPlain

def RefSelPost (w : World) (ys : List Lx) (e : Ending) (w' : World) : Prop := (∃ A n c, e = .returned (.slice A n c) ∧ Ls w' A n c ys) ∧ Aft w w'

end Go.Proofs.YtfoeghabnbjbgaaDoor
