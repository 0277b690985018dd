/-
  The chapter's examples hold: awake returns true. Condition: internal/bytealg.MaxLen holds an integer.
-/
import Derived.Test.YtpkhoklahcgcoaaDoorLexParse
import Derived.Test.YtpkhoklahcgcoaaDoorLexIndex
import Derived.Test.YtpkhoklahcgcoaaDoorLexHomW
namespace Go.Proofs.YtpkhoklahcgcoaaDoor
open Go.RowKit
open FeatPlain

theorem indexAny_iff (chars : List UInt8) : ∀ l : List UInt8, (0 ≤ Lib.indexAny l chars) ↔ ∃ b ∈ l, b ∈ chars
  | [] => by simp [Lib.indexAny]
  | b :: l => by
    have ih := indexAny_iff chars l
    have hge := Lib.indexAny_ge chars l
    rw [Lib.indexAny]
    by_cases h : chars.contains b = true
    · rw [if_pos h]
      have hb : b ∈ chars := by simpa using h
      exact ⟨fun _ => ⟨b, by simp, hb⟩, fun _ => Int.le_refl _⟩
    · rw [if_neg h]
      have hb : b ∉ chars := by simpa using h
      by_cases h2 : (Lib.indexAny l chars == -1) = true
      · rw [if_pos h2]
        have e : Lib.indexAny l chars = -1 := by simpa using h2
        rw [e] at ih
        constructor
        · intro k; omega
        · rintro ⟨c, hc, hm⟩
          rcases List.mem_cons.1 hc with rfl | hc
          · exact absurd hm hb
          · exact absurd (ih.2 ⟨c, hc, hm⟩) (by omega)
      · rw [if_neg h2]
        have e : Lib.indexAny l chars ≠ -1 := by simpa using h2
        constructor
        · intro _
          obtain ⟨c, hc, hm⟩ := ih.1 (by omega)
          exact ⟨c, List.mem_cons_of_mem _ hc, hm⟩
        · intro _; omega
theorem containsAny_blanky (s : ByteArray) : Lib.containsAny s.data.toList [32, 10] = blanky s := by
  unfold Lib.containsAny blanky
  rw [Bool.eq_iff_iff, decide_eq_true_eq, indexAny_iff, List.any_eq_true]
  constructor
  · rintro ⟨b, hb, hm⟩
    exact ⟨b, hb, by simpa using hm⟩
  · rintro ⟨b, hb, hm⟩
    exact ⟨b, hb, by simpa using hm⟩
theorem cany_ascii (s : ByteArray) (hs : s.size < 4294967281) (h : s.data.toList.all (fun b => decide (b.toNat < 128)) = true) : Cany s := by
  intro w
  have hc := Tryd.strings_ContainsAny_laid s ⟨#[32, 10]⟩ w hs (by simp [ByteArray.size]) (fun j b hj => by have := List.all_eq_true.1 h b (List.mem_of_getElem? hj); simpa using this) (fun j b hj => by
    match j, hj with
    | 0, hj => simp at hj; subst hj; decide
    | 1, hj => simp at hj; subst hj; decide)
  refine hc.mono fun e w' ⟨h1, h2⟩ => ⟨?_, h2⟩
  rw [h1]
  congr 2
  exact containsAny_blanky s

def sx1 : ByteArray := ⟨#[120, 49]⟩
def sx2 : ByteArray := ⟨#[120, 50]⟩
def sx3 : ByteArray := ⟨#[120, 51]⟩
def sn : ByteArray := ⟨#[110]⟩
def sv : ByteArray := ⟨#[118]⟩
def sbat : ByteArray := ⟨#[98, 97, 116]⟩
def stab : ByteArray := ⟨#[116, 97, 98]⟩
def snoun : ByteArray := ⟨#[110, 111, 117, 110]⟩
def sgender : ByteArray := ⟨#[103, 101, 110, 100, 101, 114]⟩
def sf : ByteArray := ⟨#[102]⟩
def sline : ByteArray := ⟨#[120, 51, 32, 118, 32, 98, 97, 116, 32, 45]⟩
def ex1 (p : Nat) : Lx := ⟨sx1, sn, sbat, snoun, some ⟨p, 0, none⟩, 1, 1, [(sgender, sf)]⟩
def ex2 : Lx := ⟨sx2, sn, stab, snoun, none, 0, 0, []⟩
def ex3 : Lx := ⟨sx3, sv, sbat, ⟨#[]⟩, none, 0, 0, []⟩
def exL (p : Nat) : List Lx := [ex1 p, ex2, ex3]
theorem ex_index (p : Nat) : idxL (fun x => decide (x.id = sx2)) (exL p) = 1 := rfl
theorem ex_cat (p : Nat) : (((exL p).filter fun x => decide (x.cat = sn)).map Lx.say).length = 2 := rfl
theorem ex_hom (p : Nat) : homG (exL p) (exL p) [] = [[sx1, sx3]] := rfl
theorem ex_split : Lib.splitB ⟨#[32]⟩ 0 4 sline = [sx3, sv, sbat, ⟨#[45]⟩] := by kernel_rfl
theorem ex_line3 : lineS (lex4 sx3 sv sbat ⟨#[45]⟩) = sline := by kernel_rfl
theorem ex_line1 (p : Nat) : lineS (ex1 p) = ⟨#[120, 49, 32, 110, 32, 98, 97, 116, 32, 110, 111, 117, 110, 32, 103, 101, 110, 100, 101, 114, 61, 102]⟩ := by kernel_rfl
end Go.Proofs.YtpkhoklahcgcoaaDoor
