/-
  filter returns the lexemes that pass a test, in their order, each with features of its own; slices.IndexFunc the place of the first one that passes, or -1. Conditions: the slice holds the lexemes, at most 2^32 of them, none of which has more features than an argument can hold; the test tells the same in every later world.
-/
import Derived.Test.YtpkhoklahcgcoaaDoorLexClone
import Derived.Test.YtpkhoklahcgcoaaDoorFtAll
namespace Go.Proofs.YtpkhoklahcgcoaaDoor
open Go.RowKit
open FeatPlain

/-- Function g, with what it captured, tells in every later world whether a lexeme has p. -/
def TestL (w : World) (g : Nat) (pc : Value) (p : Lx → Bool) : Prop := ∀ w1, Aft w w1 → ∀ x : Lx, Lw w1 x → Calls Tryd.prog g #[.agg #[.string x.id, .string x.cat, .string x.stem, .string x.par, .slice x.fa x.fn x.fc], pc] w1 (BoolPost w1 (p x))

/-- A slice of lexemes that say L, each with features of its own. -/
def LsPost (w : World) (L : List Lxp) (e : Ending) (w' : World) : Prop := (∃ A n c ys, e = .returned (.slice A n c) ∧ Ls w' A n c ys ∧ (∀ y ∈ ys, Lc w' y) ∧ ys.map Lx.say = L) ∧ Aft w w'

theorem lc_push {w w1 : World} {base n : Nat} {v : Value} {l : List Value} {o : Obj} {out : List Lx} {y : Lx} (hown : w.ownsRow base 24 5 v n l) (hout : ∀ x ∈ out, Lc w x) (hy : Lc w y)
    (hg : (w.alloc o).grownBy w1 v.ownBlock) : ∀ x ∈ out ++ [y], Lc w1 x := by
  have k : Chg [24] 0 w w1 := (Chg.of_aft ((Aft.refl w).alloc o) (Nat.zero_le _)).trans (Chg.of_grown hg (Nat.zero_le _) (fun r e => ⟨Nat.zero_le _, fun cur t ht => by rw [(row_type (hown.alloc o) r e).2 cur t ht]; simp⟩))
  intro x hx
  rcases List.mem_append.1 hx with h | h
  · exact (hout x h).chg k (by decide)
  · rw [List.mem_singleton.1 h]
    exact hy.chg k (by decide)

set_option maxRecDepth 100000 in
set_option maxHeartbeats 1600000 in
theorem filterL_any (A : Option Addr) (n c : Nat) (xs : List Lx) (g : Nat) (pc : Value) (p : Lx → Bool) (w : World) (ha : Ls w A n c xs) (hfn : ∀ x ∈ xs, x.fn * 32 ≤ 140737488355328) (ht : TestL w g pc p) (hcf : ∀ args w, (callFunc g args).run Tryd.prog w = .ok (.enter g args) w) (hsz : n ≤ 4294967296) :
    Calls Tryd.prog 35 #[.slice A n c, .func (.func g) #[] #[pc]] w (LsPost w ((xs.filter p).map Lx.say)) := by
  have hn := ha.max
  have hnc := ha.le
  have hcm := ha.cmax
  have hlen := Lib.hid ha.len
  have HT := Lib.hid ht
  have HFN := Lib.hid hfn
  clear ht hfn
  obtain ⟨i0, hi, hz0, hz1, hz2⟩ := info_parts Tryd.infoL
  go_enter Tryd.func35, Tryd.ntmps35
  go_wp2
  go_loopw [5, 10] (fun v i wr => ∃ k out, k ≤ n ∧ i = .int .i64 (k : Nat) ∧ wr.ownsRow w.heap.size 24 5 v out.length (flatL out) ∧ out.length ≤ k ∧ (∀ y ∈ out, Lc wr y) ∧ (xs.filter p).map Lx.say = out.map Lx.say ++ ((xs.drop k).filter p).map Lx.say ∧ Aft w wr) (fun _ i _ => n - (intOf i).toNat)
  case atStart => exact ⟨0, [], Nat.zero_le _, rfl, World.ownsRow_nil _ _ _ _, by simp, (fun y h => by cases h), by simp, Aft.refl _⟩
  case round =>
    obtain ⟨k, out, hk, rfl, own, le, hlc, eq, haf⟩ := hrel
    have HE := Lib.hid eq
    have HOWN := Lib.hid own
    have HLC := Lib.hid hlc
    clear eq own hlc
    by_cases hlt : k < n
    · obtain ⟨b, off, x, rfl, hx, h5, hlw⟩ := ha.at_ hlt
      obtain ⟨c0, c1, c2, c3, c4⟩ := h5.aft haf
      have HX := Lib.hid hx
      have hfx := HFN.out x (List.mem_of_getElem? hx)
      have HLW := Lib.hid hlw
      clear hx h5 hlw
      have hq0 := fun w1 (a : Aft w w1) => HT.out w1 a x (HLW.out.aft a)
      have HQ := Lib.hid hq0
      clear hq0
      cases hh : p x
      · rw [hh] at HQ
        have HN := Lib.hid (show (xs.filter p).map Lx.say = out.map Lx.say ++ ((xs.drop (k + 1)).filter p).map Lx.say by rw [HE.out, drop_of_get HX.out, List.filter_cons, hh]; simp)
        clear hh
        go_wp2_with fail
        refine (HQ.out _ (haf.alloc _)).mono ?_
        rintro e w1 ⟨rfl, A1⟩
        have haf1 := Lib.hid ((haf.alloc _).trans A1)
        have O1 := Lib.hid (own_aft HOWN.out (((Aft.refl wr).alloc _).trans A1))
        have L1 := Lib.hid (fun y hy => (HLC.out y hy).aft (((Aft.refl wr).alloc _).trans A1))
        clear A1
        go_wp2
        go_roundw
        case rel => exact ⟨k + 1, out, by omega, by go_num, O1.out, by omega, L1.out, HN.out, haf1.out⟩
        case measure => simp [intOf]; omega
      · rw [hh] at HQ
        have HN := Lib.hid (show (xs.filter p).map Lx.say = (out.map Lx.say ++ [x.say]) ++ ((xs.drop (k + 1)).filter p).map Lx.say by rw [HE.out, drop_of_get HX.out, List.filter_cons, hh]; simp)
        clear hh
        go_wp2_with fail
        refine (HQ.out _ (haf.alloc _)).mono ?_
        rintro e w1 ⟨rfl, A1⟩
        have hA1 := ((Aft.refl wr).alloc _).trans A1
        obtain ⟨d0, d1, d2, d3, d4⟩ := (five_new wr x 24).aft A1
        have hcl := cloneL_any x w1 (HLW.out.aft (haf.trans hA1)) hfx
        have HCL := Lib.hid hcl
        have H1 := Lib.hid hA1
        clear hcl hA1 A1
        go_wp2_with fail
        refine HCL.out.mono ?_
        rintro e w2 ⟨y, rfl, hsay, hy, A2⟩
        clear HCL d0 d1 d2 d3 d4
        have A02 := H1.out.trans A2
        have O1 := Lib.hid (own_aft HOWN.out A02)
        have L1 := Lib.hid (fun y hy => (HLC.out y hy).aft A02)
        have HY := Lib.hid hy
        have HSAY := Lib.hid hsay
        have hs1 := (haf.trans A02).size
        have haf2 := Lib.hid (haf.trans A02)
        clear A2 A02 hy hsay
        go_wp2_with (at_builtin; refine wpList_append_own _ rfl _ _ 27 rfl w.heap.size 24 i0 _ 5 88 Tryd.underlying27 hi hz0 hz1 hz2 rfl (by decide) _ _ _ rfl (O1.out.alloc _) ⟨w2.heap.size, 0, none⟩ 1 1 (flatL [y]) rfl rfl (one_cellsL _ y _ rfl) (flatL_one _) (by unfold maxLen; omega) (by omega) (by simp; omega) ?_; intro v' w3 own3 grow3 _)
        go_roundw
        case rel =>
          refine ⟨k + 1, out ++ [y], by omega, by go_num, ?_, by simp; omega, lc_push O1.out L1.out HY.out grow3, ?_, (haf2.out.alloc _).grown grow3 (row_ltL O1.out)⟩
          · rw [flatL_append, List.length_append]; exact own3
          · rw [HN.out, List.map_append, ← HSAY.out]; rfl
        case measure => simp [intOf]; omega
    · obtain rfl : k = n := by omega
      obtain ⟨A3, c3, rfl, s3⟩ := Ls.of_row HOWN.out rfl (by omega) (fun y hy => (HLC.out y hy).lw)
      have HR := Lib.hid (show out.map Lx.say = (xs.filter p).map Lx.say by rw [HE.out, List.drop_of_length_le (by rw [hlen.out]; exact Nat.le_refl _)]; simp)
      go_wp2
      go_ret
      exact ⟨⟨_, _, _, out, rfl, s3, HLC.out, HR.out⟩, haf⟩
end Go.Proofs.YtpkhoklahcgcoaaDoor
