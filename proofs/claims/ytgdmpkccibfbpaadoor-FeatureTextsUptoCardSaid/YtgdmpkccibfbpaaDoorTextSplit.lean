/-
  strings.Cut at "=" and the iterator of strings.SplitSeq at " ". Conditions: the boxes hold what the closure captured; the string is of less than 2^40 bytes.
-/
import Derived.Test.YtgdmpkccibfbpaaDoorTextPlain
import Derived.Test.YtgdmpkccibfbpaaDoorRangeSt
import Derived.Test.YtgdmpkccibfbpaaDoorShelf
import Derived.Test.YtgdmpkccibfbpaaDoorShelfI
import Derived.Lib.IndexLaws
import Derived.Shelf.Abstract
import Derived.OwnWalkIn
import Derived.TacticsInMore
import Derived.LoopNIn
import Derived.LoopIn
namespace Go.Proofs.YtgdmpkccibfbpaaDoor
open Go.RowKit Go.Shelf
open FeatPlain

attribute [local go_sem] Oper.semAt_some

theorem ex_upto (s : ByteArray) (k : Nat) : s.extract 0 k = ba (s.data.toList.take k) := by
  rcases s with ⟨⟨l⟩⟩
  simp [ba, ByteArray.ext_iff, ByteArray.data_extract]
theorem ex_from (s : ByteArray) (k : Nat) : s.extract k s.size = ba (s.data.toList.drop k) := by
  rcases s with ⟨⟨l⟩⟩
  simp [ba, ByteArray.ext_iff, ByteArray.data_extract]
  rw [List.take_of_length_le]
  rw [List.length_drop]
  exact Nat.le_refl _

/-- Where the first c is. -/
theorem find_byte (t : Bt) (c : UInt8) : (Lib.indexByte t c = -1 ∧ c ∉ t) ∨ ∃ i : Nat, Lib.indexByte t c = i ∧ i < t.length ∧ t = t.take i ++ c :: t.drop (i + 1) ∧ c ∉ t.take i := by
  by_cases h : Lib.indexByte t c = -1
  · refine .inl ⟨h, fun hm => ?_⟩
    obtain ⟨k, hk, e⟩ := List.getElem_of_mem hm
    exact Lib.indexByte_none h k (by rw [List.getElem?_eq_getElem hk, e])
  · have h1 := Lib.indexByte_ge t c
    obtain ⟨i, hi⟩ : ∃ i : Nat, Lib.indexByte t c = i := ⟨(Lib.indexByte t c).toNat, by omega⟩
    obtain ⟨h2, h3⟩ := Lib.indexByte_some hi
    obtain ⟨hlt, e⟩ := List.getElem?_eq_some_iff.1 h2
    refine .inr ⟨i, hi, hlt, ?_, fun hm => ?_⟩
    · rw [← e, ← List.drop_eq_getElem_cons hlt, List.take_append_drop]
    · obtain ⟨k, hk, e'⟩ := List.getElem_of_mem hm
      rw [List.length_take] at hk
      rw [List.getElem_take] at e'
      exact h3 k (by omega) (by rw [List.getElem?_eq_getElem (by omega), e'])

def cutV (s : ByteArray) : Value := match cutB 61 s.data.toList with
  | none => .tuple #[.string s, .string ⟨#[]⟩, .bool false]
  | some ab => .tuple #[.string (ba ab.1), .string (ba ab.2), .bool true]

set_option maxRecDepth 100000 in
set_option maxHeartbeats 800000 in
theorem cutL_any (s : ByteArray) (w : World) (hs : s.size ≤ 1099511627776) : Calls Tryd.prog 27 #[.string s, .string ⟨#[61]⟩] w (fun e w' => e = .returned (cutV s) ∧ ∃ n, w' = w.drewN n) := by
  have hc := Tryd.stringslite_Index_one s 61 w
  have HC := Lib.hid hc
  clear hc
  rcases find_byte s.data.toList 61 with ⟨hi, hn⟩ | ⟨i, hi, hlt, he, hn⟩
  · have hv : cutV s = .tuple #[.string s, .string ⟨#[]⟩, .bool false] := by rw [cutV, cutB_none hn]
    have HV := Lib.hid hv
    rw [hi] at HC
    clear hv hi hn
    go_enter Tryd.func27, Tryd.ntmps27
    go_wp2_with fail
    refine HC.out.mono ?_
    rintro e w1 ⟨rfl, rfl⟩
    go_wp2
    go_ret3
    exact ⟨by rw [HV.out]; rfl, 0, rfl⟩
  · have hv : cutV s = .tuple #[.string (s.extract 0 i), .string (s.extract (i + 1) s.size), .bool true] := by
      have : cutB 61 s.data.toList = some (s.data.toList.take i, s.data.toList.drop (i + 1)) := by
        conv => lhs; rw [he]
        exact cutB_some _ hn
      rw [cutV, this, ex_upto, ex_from]
    have hl : i < s.size := by rw [Array.length_toList] at hlt; exact hlt
    have HV := Lib.hid hv
    rw [hi] at HC
    clear hv hi hn he hlt
    have c1 : (0 : Int) ≤ (i : Int) := by omega
    have c2 : (i : Int) ≤ (s.size : Int) := by omega
    have c3 : (0 : Int) ≤ (i : Int) + 1 := by omega
    have c4 : (i : Int) + 1 ≤ (s.size : Int) := by omega
    have c5 : IntKind.i64.wrap ((i : Int) + 1) = (i : Int) + 1 := wrap_small _ (by omega) (by omega)
    go_enter Tryd.func27, Tryd.ntmps27
    go_wp2_with fail
    refine HC.out.mono ?_
    rintro e w1 ⟨rfl, rfl⟩
    go_wp2
    go_quiet (fail)
    go_wp2
    go_ret3
    exact ⟨by rw [HV.out]; rfl, nq, rfl⟩

theorem cut_any (s : ByteArray) (w : World) (hs : s.size ≤ 1099511627776) : Calls Tryd.prog 20 #[.string s, .string ⟨#[61]⟩] w (fun e w' => e = .returned (cutV s) ∧ ∃ n, w' = w.drewN n) := by
  have hc := cutL_any s w hs
  have hf : ∃ a b c, cutV s = .tuple #[.string a, .string b, .bool c] := by
    unfold cutV
    split <;> exact ⟨_, _, _, rfl⟩
  obtain ⟨a, b, c, hv⟩ := hf
  rw [hv] at hc ⊢
  have HC := Lib.hid hc
  clear hc hv
  go_enter Tryd.func20, Tryd.ntmps20
  go_wp2_with fail
  refine HC.out.mono ?_
  rintro e w1 ⟨rfl, n, rfl⟩
  go_wp2
  go_ret3
  exact ⟨rfl, n, rfl⟩

/-- The iterator's own step: the string that is still to be divided. -/
def StpS (Bs : Nat) (A B : World) : Prop := ∃ x : ByteArray, Boxed A Bs 9 (.string x) ∧ ∃ y : ByteArray, B = A.setCell ⟨Bs, 0, none⟩ (.string y)
/-- What a round must keep for it: its three boxes. -/
def KpS (Bp Bs Bv : Nat) (A B : World) : Prop := B.heap[Bp]? = A.heap[Bp]? ∧ B.heap[Bs]? = A.heap[Bs]? ∧ B.heap[Bv]? = A.heap[Bv]?

/-- The strings that are handed to a round: none is too long. -/
abbrev Str40 := { x : ByteArray // x.size ≤ 1099511627776 }
def tl (x : Str40) : Bt := x.1.data.toList

def strLen (W : World) (b : Nat) : Nat := match W.cell? ⟨b, 0, none⟩ with
  | some (.string x) => x.size
  | _ => 0
theorem strLen_eq {W : World} {b : Nat} {x : ByteArray} (h : W.cell? ⟨b, 0, none⟩ = some (.string x)) : strLen W b = x.size := by simp [strLen, h]

set_option maxRecDepth 100000 in
set_option maxHeartbeats 3200000 in
theorem split_in (n : Nat) (hn : 1 ≤ n) (l Bp Bs Bv : Nat) (s0 : ByteArray) (J Jx : List Str40 → World → Prop) (W : World)
    (hY : ∀ pre x A, J pre A → pre.length < (parts s0.data.toList).length → YieldAt Fence.wide (n - 1) Tryd.prog l #[.string x.1] A fun e B => (e = .returned (.bool true) ∧ J (pre ++ [x]) B ∧ KpS Bp Bs Bv A B) ∨ (e = .returned (.bool false) ∧ Jx (pre ++ [x]) B))
    (hJ : ∀ s A B, J s A → StpS Bs A B → J s B) (bp : Boxed W Bp 9 (.string ⟨#[32]⟩)) (bs : Boxed W Bs 9 (.string s0)) (bv : Boxed W Bv 3 (.int .i64 0)) (hps : Bp ≠ Bs) (hvs : Bv ≠ Bs) (h0 : J [] W) (hsz : s0.size ≤ 1099511627776) :
    CallsIn Fence.wide n Tryd.prog 30 #[.func (.yield l) #[] #[], .pointer (some ⟨Bp, 0, none⟩), .pointer (some ⟨Bs, 0, none⟩), .pointer (some ⟨Bv, 0, none⟩)] W fun e B => (∃ v, e = .returned v) ∧
      ((∃ xs : List Str40, xs.map tl = parts s0.data.toList ∧ J xs B) ∨ (∃ pre : List Str40, pre.map tl <+: parts s0.data.toList ∧ Jx pre B)) := by
  have HY := Lib.hid hY
  have HJ := Lib.hid hJ
  have kp0 := bp.cell
  have H0 := Lib.hid h0
  clear hY hJ h0
  refine callsIn_of_wp Tryd.func30 rfl trivial ?_ rfl
  simp only [Tryd.ntmps30, List.size_toArray, List.length_cons, List.length_nil, Nat.reduceAdd, Nat.reduceSub, Array.replicate_succ, Array.replicate_zero, List.push_toArray, List.append_toArray, List.nil_append, List.cons_append]
  gi_wp2
  gi_loopw [7] (fun _ wr => ∃ (ps : List Str40) (T : ByteArray), parts s0.data.toList = ps.map tl ++ parts T.data.toList ∧ J ps wr ∧ Boxed wr Bp 9 (.string ⟨#[32]⟩) ∧ Boxed wr Bs 9 (.string T) ∧ Boxed wr Bv 3 (.int .i64 0) ∧ T.size ≤ 1099511627776) (fun _ wr => strLen wr Bs)
  case atStart => exact ⟨[], s0, rfl, H0.out, bp, bs, bv, hsz⟩
  case round =>
    clear H0 kp0 bp bs bv hsz
    obtain ⟨ps, T, hps', hJs, bp, bs, bv, hsz⟩ := hrel
    have HPS := Lib.hid hps'
    clear hps'
    have kp := bp.cell
    have ks := bs.cell
    have kv := bv.cell
    have hlt : ps.length < (parts s0.data.toList).length := by
      rw [HPS.out, List.length_append, List.length_map]
      have := parts_ne T.data.toList
      have : 0 < (parts T.data.toList).length := List.length_pos_iff.2 this
      omega
    have HLT := Lib.hid hlt
    have hcall := fun w => Tryd.strings_Index_one T 32 w
    rcases find_byte T.data.toList 32 with ⟨hi, hno⟩ | ⟨i, hi, hil, he, hno⟩
    · have HP1 := Lib.hid (parts_none hno)
      rw [hi] at hcall
      have HC := Lib.hid hcall
      clear hcall hi hno hlt
      obtain ⟨fn, tmps, assign, body, hy, hR⟩ := HY.out _ ⟨T, hsz⟩ wr hJs HLT.out
      dsimp only at hy
      gi_wp2_with (refine ⟨trivial, ?_⟩; gi_at_call 32; refine (callsIn_wide.2 (HC.out _)).mono ?_; rintro e' w1 ⟨rfl, rfl⟩)
      refine hR.mono ?_
      rintro e' W3 (⟨rfl, hJ3, hk3⟩ | ⟨rfl, hJx3⟩)
      · gi_wp2
        go_end0
        exact ⟨⟨_, rfl⟩, .inl ⟨_, by rw [HPS.out, HP1.out, List.map_append]; rfl, hJ3⟩⟩
      · gi_wp2
        go_end0
        exact ⟨⟨_, rfl⟩, .inr ⟨_, by rw [HPS.out, HP1.out, List.map_append]; exact List.prefix_refl _, hJx3⟩⟩
    · have hP : parts T.data.toList = T.data.toList.take i :: parts (T.data.toList.drop (i + 1)) := by
        conv => lhs; rw [he]
        exact parts_cons _ hno
      have hl : i < T.size := by rw [Array.length_toList] at hil; exact hil
      rw [hi] at hcall
      have HC := Lib.hid hcall
      obtain ⟨Pp, hPp⟩ : ∃ Pp, Pp = T.extract 0 i := ⟨_, rfl⟩
      obtain ⟨T', hT'⟩ : ∃ T', T' = T.extract (i + 1) T.size := ⟨_, rfl⟩
      have hPl : Pp = ba (T.data.toList.take i) := by rw [hPp, ex_upto]
      have hTl : T'.data.toList = T.data.toList.drop (i + 1) := by rw [hT', ex_from, ba_list]
      have hTs : T'.size < T.size := by rw [hT', ByteArray.size_extract]; omega
      have hPs : Pp.size ≤ 1099511627776 := by rw [hPp, ByteArray.size_extract]; omega
      have hnext : parts s0.data.toList = (ps ++ [(⟨Pp, hPs⟩ : Str40)]).map tl ++ parts T'.data.toList := by
        rw [HPS.out, hP, hTl, List.map_append, List.map_singleton, show tl ⟨Pp, hPs⟩ = T.data.toList.take i from by rw [tl]; simp only [hPl, ba_list]]
        simp
      have HN := Lib.hid hnext
      have e1 : T.extract 0 i = Pp := hPp.symm
      have e2 : T.extract (i + 1) T.size = T' := hT'.symm
      clear hcall hi hno hlt he hP hPl hTl hnext hPp hT' hil
      have c1 : (0 : Int) ≤ (i : Int) := by omega
      have c2 : (i : Int) ≤ (T.size : Int) := by omega
      have c3 : (0 : Int) ≤ (i : Int) + 1 := by omega
      have c4 : (i : Int) + 1 ≤ (T.size : Int) := by omega
      have c5 : IntKind.i64.wrap ((i : Int) + 1) = (i : Int) + 1 := wrap_small _ (by omega) (by omega)
      have c6 : IntKind.i64.wrap (i : Int) = (i : Int) := wrap_small _ (by omega) (by omega)
      obtain ⟨fn, tmps, assign, body, hy, hR⟩ := HY.out _ ⟨Pp, hPs⟩ wr hJs HLT.out
      dsimp only at hy
      gi_wp2_with (refine ⟨trivial, ?_⟩; gi_at_call 32; refine (callsIn_wide.2 (HC.out _)).mono ?_; rintro e' w1 ⟨rfl, rfl⟩)
      refine hR.mono ?_
      rintro e' W3 (⟨rfl, hJ3, hk3⟩ | ⟨rfl, hJx3⟩)
      · have bp3 : Boxed W3 Bp 9 (.string ⟨#[32]⟩) := hk3.1.trans bp
        have bs3 : Boxed W3 Bs 9 (.string T) := hk3.2.1.trans bs
        have bv3 : Boxed W3 Bv 3 (.int .i64 0) := hk3.2.2.trans bv
        have kp3 := bp3.cell
        have ks3 := bs3.cell
        have fs3 := bs3.frozen
        gi_wp2
        go_roundw
        case rel => exact ⟨_, T', HN.out, HJ.out _ _ _ hJ3 ⟨T, bs3, T', rfl⟩, bp3.other hps _, bs3.set _, bv3.other hvs _, by omega⟩
        case measure => rw [strLen_eq (bs3.set (.string T')).cell, strLen_eq ks]; exact hTs
      · gi_wp2
        refine bodyPost_ret (results_none rfl _ _ _) rfl ?_
        exact ⟨⟨_, rfl⟩, .inr ⟨_, by rw [HN.out]; exact List.prefix_append _ _, hJx3⟩⟩
end Go.Proofs.YtgdmpkccibfbpaaDoor
