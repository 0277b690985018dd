/-
  The example of the chapter holds: awake returns true. Condition: none.
-/
import Derived.Test.YtallloempmmgpaaFeatUnify
import Derived.Test.YtallloempmmgpaaFeatText
namespace Go.Proofs.Ytallloempmmgpaa
open Go.RowKit
open FeatPlain

def sCase : ByteArray := ⟨#[99, 97, 115, 101]⟩
def sDative : ByteArray := ⟨#[100, 97, 116, 105, 118, 101]⟩
def sNumber : ByteArray := ⟨#[110, 117, 109, 98, 101, 114]⟩
def sDual : ByteArray := ⟨#[100, 117, 97, 108]⟩
def sGender : ByteArray := ⟨#[103, 101, 110, 100, 101, 114]⟩
def sF : ByteArray := ⟨#[102]⟩
def sGenitive : ByteArray := ⟨#[103, 101, 110, 105, 116, 105, 118, 101]⟩
def exA : List Ft := [(sCase, sDative), (sNumber, sDual)]
def exB : List Ft := [(sGender, sF), (sNumber, sDual)]
def exC : List Ft := [(sCase, sGenitive)]
def exU : List Ft := [(sCase, sDative), (sGender, sF), (sNumber, sDual)]

theorem lt_cg : lt sCase sGender = true := by simp [lt, sCase, sGender, Op.bytesLess]
theorem lt_cn : lt sCase sNumber = true := by simp [lt, sCase, sNumber, Op.bytesLess]
theorem lt_gn : lt sGender sNumber = true := by simp [lt, sGender, sNumber, Op.bytesLess]
theorem lt_ng : lt sNumber sGender = false := lt_asymm lt_gn
theorem lt_gc : lt sGender sCase = false := lt_asymm lt_cg
theorem ne_dg : sDative ≠ sGenitive := by
  intro h
  have := congrArg ByteArray.toList h
  simp [sDative, sGenitive] at this

theorem unify_ab : unify exA exB = some exU := by
  unfold exA exB exU
  rw [unify_cons, if_pos lt_cg, unify_cons, if_neg (by simp [lt_ng]), if_pos lt_gn, unify_cons, if_neg (by simp [lt_irrefl]), if_neg (by simp [lt_irrefl]), if_pos rfl, unify_nil_left]
  rfl
theorem unify_ac : unify exA exC = none := by
  unfold exA exC
  rw [unify_cons, if_neg (by simp [lt_irrefl]), if_neg (by simp [lt_irrefl]), if_neg ne_dg]
theorem subs_bu : subs exB exU = true := by simp [subs, exB, exU, skip, lt_cg, lt_irrefl, lt_gn]
theorem subs_ub : subs exU exB = false := by
  have h : (sGender, sF) ≠ (sCase, sDative) := by
    intro h
    have := congrArg ByteArray.toList (congrArg Prod.fst h)
    simp [sGender, sCase] at this
  simp [subs, exB, exU, skip, lt_gc, h]

theorem valid_a : validB exA = true := by
  have h1 : isName sCase = true := by decide
  have h2 : isName sDative = true := by decide
  have h3 : isName sNumber = true := by decide
  have h4 : isName sDual = true := by decide
  simp [validB, exA, named, ascB, h1, h2, h3, h4, lt_cn]

/-- A slice literal of features. -/
theorem Sl.lit (w : World) (fs : List Ft) (n : Nat) (hn : fs.length = n) (hm : n * 32 ≤ 281474976710656) (cs : Array Value) (hcs : cs = (flat fs).toArray) : Sl (w.alloc (.cells cs 30)) (some ⟨w.heap.size, 0, none⟩) n n fs := by
  subst hcs
  refine ⟨hn, Nat.le_refl _, hm, by omega, fun e => (by cases e), fun i f hi => ?_⟩
  have hx := flat_get fs i f hi
  have hh : (w.alloc (.cells (flat fs).toArray 30)).heap[w.heap.size]? = some (.cells (flat fs).toArray 30 (0, 0)) := heap_alloc_new w _
  refine ⟨_, _, rfl, ?_, ?_⟩
  · rw [Lib.cell_of_heap hh, Nat.zero_add]; simpa using hx.1
  · rw [Lib.cell_of_heap hh, Nat.zero_add]; simpa using hx.2

def exText : List UInt8 := [99, 97, 115, 101, 61, 100, 97, 116, 105, 118, 101, 32, 103, 101, 110, 100, 101, 114, 61, 102, 32, 110, 117, 109, 98, 101, 114, 61, 100, 117, 97, 108]
theorem text_u : text exU = exText := by decide

theorem sized_ex : Sized exA := by
  intro f hf
  unfold exA at hf
  simp only [List.mem_cons, List.mem_nil_iff, or_false] at hf
  rcases hf with rfl | rfl <;> exact ⟨by decide, by decide⟩

set_option maxRecDepth 100000 in
set_option maxHeartbeats 3200000 in
theorem awake_any (w : World) : Calls Try.prog 4 #[] w (BoolPost w true) := by
  have SA := fun (W : World) (h : Aft (w.alloc (.cells (flat exA).toArray 30)) W) => (Sl.lit w exA 2 rfl (by omega) _ rfl).aft h
  go_enter Try.func4, Try.ntmps4
  have HSA := Lib.hid SA
  clear SA
  go_wp2_with fail
  have SB := Sl.lit (w.alloc (.cells (flat exA).toArray 30)) exB 2 rfl (by omega) _ rfl
  rw [World.size_alloc] at SB
  refine (unify_any _ 2 2 exA _ 2 2 exB _ (HSA.out _ ((Aft.refl _).alloc _)) SB (by omega)).mono ?_
  rintro e w2 ⟨aft2, hr⟩
  rw [unify_ab] at hr
  obtain ⟨U, un, uc, rfl, su⟩ := hr
  have A2 : Aft (w.alloc (.cells (flat exA).toArray 30)) w2 := ((Aft.refl _).alloc _).trans aft2
  have SB2 := SB.aft aft2
  clear SB
  go_wp2_with fail
  have SC := Sl.lit w2 exC 1 rfl (by omega) _ rfl
  refine (unify_any _ 2 2 exA _ 1 1 exC _ (HSA.out _ (A2.alloc _)) SC (by omega)).mono ?_
  rintro e w3 ⟨aft3, hr⟩
  rw [unify_ac] at hr
  obtain rfl := hr
  have A3 : Aft w2 w3 := ((Aft.refl _).alloc _).trans aft3
  clear SC aft3
  go_wp2_with fail
  have hv := valid_any _ 2 2 exA w3 (HSA.out _ (A2.trans A3)) sized_ex
  rw [valid_a] at hv
  refine hv.mono ?_
  rintro e w4 ⟨rfl, A4⟩
  clear hv
  go_wp2_with fail
  have ht := text_any U un uc exU w4 (su.aft (A3.trans A4)) (by rw [text_u]; decide)
  rw [text_u] at ht
  refine ht.mono ?_
  rintro e w5 ⟨rfl, A5⟩
  clear ht
  have A25 := (A3.trans A4).trans A5
  unfold exText
  go_wp2_with fail
  have h1 := subs_any _ 2 2 exB U un uc exU w5 (SB2.aft A25) (su.aft A25)
  rw [subs_bu] at h1
  refine h1.mono ?_
  rintro e w6 ⟨rfl, A6⟩
  clear h1
  go_wp2_with fail
  have h1 := subs_any U un uc exU _ 2 2 exB w6 (su.aft (A25.trans A6)) (SB2.aft (A25.trans A6))
  rw [subs_ub] at h1
  refine h1.mono ?_
  rintro e w7 ⟨rfl, A7⟩
  clear h1
  go_wp2
  go_ret
  exact ⟨rfl, (((Aft.refl w).alloc _).trans A2).trans ((A25.trans A6).trans A7)⟩
end Go.Proofs.Ytallloempmmgpaa
