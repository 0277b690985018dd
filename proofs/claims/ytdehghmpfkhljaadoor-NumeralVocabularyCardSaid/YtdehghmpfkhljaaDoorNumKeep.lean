/-
  What the closures of Parse hand on: a row of numbers in a captured variable, to which a function value appends; eachDigit. Conditions: as each theorem says.
-/
import Derived.Test.YtdehghmpfkhljaaDoorNumLong
import Derived.RangeFuncBox
namespace Go.Proofs.YtdehghmpfkhljaaDoor
open Go.RowKit
open NumPlain

theorem Tryd.infoI : (Tryd.prog.info? 3).map (fun i => (i.zero, i.size, i.bytes)) = some (some (.int .i64 0), 1, 8) := by kernel_rfl

/-- Block ob holds the variable with the row of the numbers l; the blocks Pr are others. -/
structure St (B ob : Nat) (Pr : Nat → Prop) (l : List Int) (W : World) : Prop where
  row : ∃ v, Boxed W ob 35 v ∧ W.ownsRow B 3 1 v l.length (l.map vI) ∧ ∀ k, Pr k → k < W.heap.size ∧ k ≠ ob ∧ v.ownBlock ≠ some k
  le : B ≤ ob
  big : B ≤ W.heap.size
/-- The blocks Pr are as they were. -/
def Fix (Pr : Nat → Prop) (W W' : World) : Prop := ∀ k, Pr k → W'.heap[k]? = W.heap[k]?
theorem Fix.refl (Pr : Nat → Prop) (W : World) : Fix Pr W W := fun _ _ => rfl
theorem Fix.trans {Pr : Nat → Prop} {a b c : World} (h : Fix Pr a b) (k : Fix Pr b c) : Fix Pr a c := fun i hi => (k i hi).trans (h i hi)
theorem Fix.sub {Pr Q : Nat → Prop} {W W' : World} (h : Fix Pr W W') (hs : ∀ k, Q k → Pr k) : Fix Q W W' := fun i hi => h i (hs i hi)
theorem Fix.cell {Pr : Nat → Prop} {W W' : World} (h : Fix Pr W W') {b o : Nat} {v : Value} (hb : Pr b) (hc : W.cell? ⟨b, o, none⟩ = some v) : W'.cell? ⟨b, o, none⟩ = some v :=
  (World.cell?_of_block (w := W) (w' := W') (a := ⟨b, o, none⟩) (h b hb)).trans hc
theorem St.less {B ob : Nat} {Pr Q : Nat → Prop} {l : List Int} {W : World} (h : St B ob Pr l W) (hs : ∀ k, Q k → Pr k) : St B ob Q l W := by
  obtain ⟨⟨v, h1, h2, h3⟩, h4, h5⟩ := h
  exact ⟨⟨v, h1, h2, fun k hk => h3 k (hs k hk)⟩, h4, h5⟩
theorem St.alloc {B ob : Nat} {Pr : Nat → Prop} {l : List Int} {W : World} (h : St B ob Pr l W) (o : Obj) : St B ob (fun k => Pr k ∨ k = W.heap.size) l (W.alloc o) := by
  obtain ⟨⟨v, h1, h2, h3⟩, h4, h5⟩ := h
  refine ⟨⟨v, h1.alloc o, h2.alloc o, fun k hk => ?_⟩, h4, by rw [World.size_alloc]; omega⟩
  rw [World.size_alloc]
  rcases hk with hk | rfl
  · obtain ⟨a, b, c⟩ := h3 k hk
    exact ⟨by omega, b, c⟩
  · refine ⟨by omega, by have := h1.lt; omega, fun e => ?_⟩
    have := (h2.lt _ e).2
    omega
theorem fix_alloc {Pr : Nat → Prop} {W : World} (hs : ∀ k, Pr k → k < W.heap.size) (o : Obj) : Fix Pr W (W.alloc o) := fun k hk => Below.heap_alloc W o k (hs k hk)
theorem St.lt {B ob : Nat} {Pr : Nat → Prop} {l : List Int} {W : World} (h : St B ob Pr l W) : ∀ k, Pr k → k < W.heap.size := by
  obtain ⟨⟨v, h1, h2, h3⟩, h4, h5⟩ := h
  exact fun k hk => (h3 k hk).1

/-- THE FUNCTION VALUE g with lb APPENDS f z to the row (of at most K numbers) when called with a z in Z; it reads the blocks Need and what lay before B, as they lay in w0. -/
def KV (g : Nat) (lb : Array Value) (B ob : Nat) (Need : Nat → Prop) (w0 : World) (Z : Int → Prop) (K : Nat) (f : Int → List Int) : Prop :=
  ∀ (Pr : Nat → Prop) (l : List Int) (z : Int) (W : World), (∀ k, Need k → Pr k) → Fix Need w0 W → Below B w0 W → St B ob Pr l W → Z z → l.length ≤ K →
    Calls Tryd.prog g (#[.int .i64 z] ++ lb) W (fun e W' => e = .returned (.tuple #[]) ∧ St B ob Pr (l ++ f z) W' ∧ Fix Pr W W' ∧ Below B W W')

/-- The digits with a word, below a number. -/
def digs (x : Nm) (s : BA) : Nat → List Int
  | 0 => []
  | k + 1 => digs x s k ++ if x.ds.getD k ByteArray.empty = s then [(k : Int)] else []
def digC (x : Nm) (s : BA) : List Int := digs x s x.ds.length
theorem digs_len (x : Nm) (s : BA) : ∀ k, (digs x s k).length ≤ k
  | 0 => Nat.le_refl _
  | k + 1 => by
    rw [digs, List.length_append]
    have := digs_len x s k
    split <;> simp <;> omega
/-- The value of a reader. -/
abbrev rV (x : Nm) (Bs Bw : Nat) : Value := .agg #[.int .i64 x.base, .slice x.da x.dn x.dc, .slice x.pa x.pn x.pc, .bool x.sf, .string x.jo, .int .i64 x.sub, .string x.le, .bool x.om, .func (.func 50) #[] #[.pointer (some ⟨Bs, 0, none⟩), .pointer (some ⟨Bw, 0, none⟩)]]
abbrev rC (x : Nm) (Bs Bw : Nat) : Array Value := #[.int .i64 x.base, .slice x.da x.dn x.dc, .slice x.pa x.pn x.pc, .bool x.sf, .string x.jo, .int .i64 x.sub, .string x.le, .bool x.om, .func (.func 50) #[] #[.pointer (some ⟨Bs, 0, none⟩), .pointer (some ⟨Bw, 0, none⟩)]]

theorem flat_len (f : Int → List Int) (M : Nat) (hf : ∀ z, (f z).length ≤ M) : ∀ l : List Int, (l.flatMap f).length ≤ l.length * M
  | [] => by simp
  | z :: l => by
    rw [List.flatMap_cons, List.length_append, List.length_cons, Nat.succ_mul]
    have h1 := flat_len f M hf l
    have h2 := hf z
    omega

set_option maxRecDepth 100000 in
set_option maxHeartbeats 1600000 in
theorem eachDigit_any (x : Nm) (Bs Bw : Nat) (s : BA) (g : Nat) (lb : Array Value) (B ob : Nat) (Need Pr : Nat → Prop) (wA w0 : World) (Z : Int → Prop) (K : Nat) (f : Int → List Int) (M : Nat) (hf : ∀ z, (f z).length ≤ M) (hcf : ∀ args w, (callFunc g args).run Tryd.prog w = .ok (.enter g args) w)
    (hk : KV g lb B ob Need w0 Z K f) (hZ : ∀ z : Int, 0 ≤ z → z < x.dn → Z z) (l : List Int) (w : World) (hn : ∀ k, Need k → Pr k) (hfx : Fix Need w0 w) (hb : Below B w0 w) (hst : St B ob Pr l w) (hbA : Below B wA w) (hw : Nw wA x) (hwB : wA.heap.size = B) (hl : l.length + x.dn * M ≤ K) :
    Calls Tryd.prog 58 #[rV x Bs Bw, .string s, .func (.func g) #[] lb] w (fun e W' => e = .returned (.tuple #[]) ∧ St B ob Pr (l ++ (digC x s).flatMap f) W' ∧ Fix Pr w W' ∧ Below B w W') := by
  have hdc := hw.rd.le
  have hdm := hw.rd.cmax
  have HL := Lib.hid hw.rd.len
  have HK := Lib.hid hk
  have HF := Lib.hid hf
  have AL : Aft w (w.alloc (.cells (rC x Bs Bw) 60)) := (Aft.refl w).alloc _
  have hbx : (w.alloc (.cells (rC x Bs Bw) 60)).cell? ⟨w.heap.size, 1, none⟩ = some (.slice x.da x.dn x.dc) := by simp
  have HS0 := Lib.hid ((hst.alloc (.cells (rC x Bs Bw) 60)).less (fun k hk => .inl hk))
  have HF0 := Lib.hid (fix_alloc hst.lt (.cells (rC x Bs Bw) 60))
  have HB0 := Lib.hid (((Below.refl B w).alloc hst.big (.cells (rC x Bs Bw) 60)))
  have HBW := Lib.hid hb
  have HBA := Lib.hid hbA
  have HZ := Lib.hid hZ
  have HFX := Lib.hid hfx
  have HN := Lib.hid hn
  have HR := Lib.hid hw.rd
  clear hk hst hfx hb hn hf hw hbA hZ
  go_enter Tryd.func58, Tryd.ntmps58
  go_wp2
  go_loopw [12] (fun i wr => ∃ k : Nat, k ≤ x.dn ∧ i = .int .i64 (k : Nat) ∧ St B ob Pr (l ++ (digs x s k).flatMap f) wr ∧ Fix Pr w wr ∧ Below B w wr) (fun i _ => x.dn - (intOf i).toNat)
  case atStart => exact ⟨0, Nat.zero_le _, rfl, by simpa [digs] using HS0.out, HF0.out, HB0.out⟩
  case round =>
    obtain ⟨k, hk, rfl, hs, hfix, hbel⟩ := hrel
    have HS := Lib.hid hs
    have HFI := Lib.hid hfix
    have HBE := Lib.hid hbel
    clear hs hfix hbel
    by_cases hlt : k < x.dn
    · obtain ⟨b, off, d, hA, hd, g1⟩ := HR.out.at_ hlt
      have hbl : b < B := by rw [← hwB]; exact World.block_lt_of_cell? wA _ g1
      have c1 := ((HBA.out.trans HBE.out).cell (p := ⟨b, off + k, none⟩) hbl).trans g1
      dsimp only [sV] at c1
      rw [hA] at *
      have hki : (k : Int) < (x.dn : Int) := by omega
      have hgd : x.ds.getD k ByteArray.empty = d := by simp [List.getD, hd]
      have HWZ := Lib.hid (HZ.out (k : Int) (by omega) hki)
      have hlen : (l ++ (digs x s k).flatMap f).length ≤ K := by
        have h1 := flat_len f M HF.out (digs x s k)
        have h2 := Nat.mul_le_mul_right M (Nat.le_trans (digs_len x s k) hk)
        rw [List.length_append]
        omega
      clear hd g1 hA
      by_cases hds : d = s
      · have hq : (d.toList == s.toList) = true := by rw [hds]; simp
        have HST := Lib.hid (show digs x s (k + 1) = digs x s k ++ [(k : Int)] by rw [digs, hgd, if_pos hds])
        have HC := Lib.hid (HK.out Pr _ (k : Int) wr HN.out (HFX.out.trans (HFI.out.sub HN.out)) (HBW.out.trans HBE.out) HS.out HWZ.out hlen)
        clear hds hgd
        go_wp2_with fail
        refine HC.out.mono ?_
        rintro e w3 ⟨rfl, h1, h2, h3⟩
        have H1 := Lib.hid h1
        have H2 := Lib.hid h2
        have H3 := Lib.hid h3
        clear h1 h2 h3 HC
        go_wp2
        go_roundw
        case rel => exact ⟨k + 1, by omega, by go_num, by rw [HST.out, List.flatMap_append, ← List.append_assoc]; simpa using H1.out, HFI.out.trans H2.out, HBE.out.trans H3.out⟩
        case measure => simp [intOf]; omega
      · have hq : (d.toList == s.toList) = false := by rw [toList_beq]; simp [hds]
        have HST := Lib.hid (show digs x s (k + 1) = digs x s k by rw [digs, hgd, if_neg hds, List.append_nil])
        clear hds hgd
        go_wp2
        go_roundw
        case rel => exact ⟨k + 1, by omega, by go_num, by rw [HST.out]; exact HS.out, HFI.out, HBE.out⟩
        case measure => simp [intOf]; omega
    · obtain rfl : k = x.dn := by omega
      have HE := Lib.hid (show digC x s = digs x s x.dn by unfold digC; rw [HL.out])
      go_wp2
      go_end0
      exact ⟨rfl, by rw [HE.out]; exact HS.out, HFI.out, HBE.out⟩
end Go.Proofs.YtdehghmpfkhljaaDoor
