/-
  What a round of eachHead calls: the closure with 1, or eachDigit with the closure. Conditions: as each theorem says.
-/
import Derived.Test.YtdehghmpfkhljaaDoorNumInv
namespace Go.Proofs.YtdehghmpfkhljaaDoor
open Go.RowKit
open NumPlain

theorem Rw.below {α : Type} {enc : α → Value} {wA w' : World} {B : Nat} {A : Option Addr} {n c : Nat} {l : List α} (h : Rw enc wA A n c l) (hB : wA.heap.size = B) (b : Below B wA w') : Rw enc w' A n c l :=
  ⟨h.len, h.le, h.cmax, h.nl, fun i u hi => by
    obtain ⟨b', o', e, g⟩ := h.cells i u hi
    exact ⟨b', o', e, (b.cell (p := ⟨b', o' + i, none⟩) (by rw [← hB]; exact World.block_lt_of_cell? wA _ g)).trans g⟩⟩
/-- Blocks that are new lie apart from the row too. -/
theorem St.fresh {B ob : Nat} {Pr Q : Nat → Prop} {l : List Int} {W W' : World} (h : St B ob Pr l W) (a : Aft W W') (hq : ∀ k, Q k → W.heap.size ≤ k ∧ k < W'.heap.size) : St B ob (fun k => Pr k ∨ Q k) l W' := by
  obtain ⟨⟨v, h1, h2, h3⟩, h4, h5⟩ := h
  refine ⟨⟨v, (a.block ob h1.lt).trans h1, row_aft h2 a, fun j hj => ?_⟩, h4, Nat.le_trans h5 a.size⟩
  rcases hj with hj | hj
  · exact ⟨Nat.lt_of_lt_of_le (h3 j hj).1 a.size, (h3 j hj).2⟩
  · obtain ⟨q1, q2⟩ := hq j hj
    refine ⟨q2, by have := h1.lt; omega, fun e => ?_⟩
    have := (h2.lt _ e).2
    omega
theorem St.alloc3 {B ob : Nat} {Pr : Nat → Prop} {l : List Int} {w : World} (h : St B ob Pr l w) (o1 o2 o3 : Obj) :
    St B ob (fun k => Pr k ∨ k = w.heap.size ∨ k = w.heap.size + 1 ∨ k = w.heap.size + 2) l (((w.alloc o1).alloc o2).alloc o3) := by
  refine (((h.alloc o1).alloc o2).alloc o3).less (fun k hk => ?_)
  simp only [World.size_alloc]
  rcases hk with h | h | h | h
  · exact .inl (.inl (.inl h))
  · exact .inl (.inl (.inr h))
  · exact .inl (.inr h)
  · exact .inr (by omega)
theorem boxes3 (w : World) (x : Nm) (Bs Bw : Nat) (v2 v3 : Value) (s1 s2 s3 : TypeId) (e2 : v2.cells = #[v2]) (e3 : v3.cells = #[v3]) :
    Rb (((w.alloc (.cells (rC x Bs Bw) s1)).alloc (.cells #[v2] s2)).alloc (.cells #[v3] s3)) w.heap.size x Bs Bw ∧
    (((w.alloc (.cells (rC x Bs Bw) s1)).alloc (.cells #[v2] s2)).alloc (.cells #[v3] s3)).cell? ⟨w.heap.size + 1, 0, none⟩ = some v2 ∧
    (((w.alloc (.cells (rC x Bs Bw) s1)).alloc (.cells #[v2] s2)).alloc (.cells #[v3] s3)).cell? ⟨w.heap.size + 2, 0, none⟩ = some v3 :=
  ⟨(Rb.new w x Bs Bw s1).aft (((Aft.refl _).alloc _).alloc _),
   ((Aft.refl _).alloc _).cell (cellN _ v2 s2 _ (by simp only [World.size_alloc]) e2),
   cellN _ v3 s3 _ (by simp only [World.size_alloc]) e3⟩
theorem remP_len {x : Nm} {N : List BA → List Int} {L : Nat} (hL : 1 ≤ L) (h : ∀ t, (N t).length ≤ L) (t : List BA) : (remP x N t).length ≤ L := by
  unfold remP
  split
  · simpa using hL
  · split
    · exact h _
    · split
      · exact h _
      · simp
theorem remP_range {x : Nm} {N : List BA → List Int} (h : ∀ t, ∀ r ∈ N t, 0 ≤ r ∧ r ≤ 9999) (t : List BA) : ∀ r ∈ remP x N t, 0 ≤ r ∧ r ≤ 9999 := by
  intro r hr
  unfold remP at hr
  split at hr
  · rw [List.mem_singleton] at hr; omega
  · split at hr
    · exact h _ r hr
    · split at hr
      · exact h _ r hr
      · cases hr

/-- What a round knows behind remainders: the row of them, fresh, and a box br that holds it. -/
structure Hd (B ob : Nat) (Pr : Nat → Prop) (l : List Int) (wr w4 : World) (br : Nat) (X : Option Addr) (nr cr : Nat) (rems : List Int) : Prop where
  st : St B ob Pr l wr
  aft : Aft wr w4
  box0 : wr.heap.size ≤ br
  box1 : w4.cell? ⟨br, 0, none⟩ = some (.slice X nr cr)
  row : Rw vI w4 X nr cr rems
  new : ∀ b o m, X = some ⟨b, o, m⟩ → wr.heap.size ≤ b
abbrev HdQ (br : Nat) (X : Option Addr) (nr : Nat) (k : Nat) : Prop := k = br ∨ (0 < nr ∧ ∃ o, X = some ⟨k, o, none⟩)
theorem Hd.two {B ob : Nat} {Pr : Nat → Prop} {l : List Int} {wr w4 w' : World} {br : Nat} {X : Option Addr} {nr cr : Nat} {rems : List Int} (h : Hd B ob Pr l wr w4 br X nr cr rems) (a : Aft w4 w') :
    St B ob (fun k => Pr k ∨ HdQ br X nr k) l w' := by
  refine h.st.fresh (h.aft.trans a) (fun k hk => ?_)
  rcases hk with rfl | ⟨h0, o, rfl⟩
  · exact ⟨h.box0, Nat.lt_of_lt_of_le (World.block_lt_of_cell? w4 _ h.box1) a.size⟩
  · obtain ⟨b, off, r, e, _, g⟩ := h.row.at_ h0
    cases e
    exact ⟨h.new _ _ _ rfl, Nat.lt_of_lt_of_le (World.block_lt_of_cell? w4 _ g) a.size⟩

section
variable (g : Nat) (lb : Array Value) (B ob : Nat) (Need Pr : Nat → Prop) (wA w0 wr w4 : World) (Z : Int → Prop) (K K' : Nat) (f : Int → List Int) (M : Nat) (hf : ∀ z, (f z).length ≤ M) (hcf : ∀ args w, (callFunc g args).run Tryd.prog w = .ok (.enter g args) w)
    (hk : KV g lb B ob Need w0 Z K f) (hn : ∀ k, Need k → Pr k) (hfx : Fix Need w0 wr) (hb : Below B w0 wr) (br bk bp : Nat) (X : Option Addr) (nr cr : Nat) (l : List Int) (rems : List Int) (p : Int) (hd : Hd B ob Pr l wr w4 br X nr cr rems) (Pk : Pr bk) (Pp : Pr bp)
    (ck : wr.cell? ⟨bk, 0, none⟩ = some (.func (.func g) #[] lb)) (cp : wr.cell? ⟨bp, 0, none⟩ = some (.int .i64 p)) (hp : ∀ q, Dz q → 0 ≤ q * p ∧ q * p ≤ 160000) (hrm : ∀ r ∈ rems, 0 ≤ r ∧ r ≤ 9999) (hZ : ∀ q r, Dz q → 0 ≤ r → r ≤ 9999 → Z (q * p + r)) (hK : K' + nr * M ≤ K)
include hf hcf hk hn hfx hb hd ck cp hp hrm hZ hK
theorem headK_any : KV 73 #[.pointer (some ⟨br, 0, none⟩), .pointer (some ⟨bk, 0, none⟩), .pointer (some ⟨bp, 0, none⟩)] B ob (fun k => Need k ∨ k = br ∨ k = bk ∨ k = bp ∨ (0 < nr ∧ ∃ o, X = some ⟨k, o, none⟩)) w4 Dz K' (fun q => rems.flatMap (fun r => f (q * p + r))) :=
  head1_any g lb B ob Need w0 w4 Z K K' f M hf hcf hk (hfx.trans ((fix_aft hd.st.lt hd.aft).sub hn)) (hb.trans (Below.mono hd.aft hd.st.big)) br bk bp X nr cr rems p hd.box1 (hd.aft.cell ck) (hd.aft.cell cp) hd.row hp hrm hZ hK
include Pk Pp
theorem headRun1_any (hl : l.length ≤ K') : ∀ w', Aft w4 w' → Calls Tryd.prog 73 #[.int .i64 1, .pointer (some ⟨br, 0, none⟩), .pointer (some ⟨bk, 0, none⟩), .pointer (some ⟨bp, 0, none⟩)] w' (fun e W' => e = .returned (.tuple #[]) ∧ St B ob Pr (l ++ rems.flatMap (fun r => f (1 * p + r))) W' ∧ Fix Pr wr W' ∧ Below B wr W') := by
  intro w' a
  have hkk := headK_any g lb B ob Need Pr w0 wr w4 Z K K' f M hf hcf hk hn hfx hb br bk bp X nr cr l rems p hd ck cp hp hrm hZ hK
  have s4 := hd.two (Aft.refl w4)
  have hnn : ∀ k, (Need k ∨ k = br ∨ k = bk ∨ k = bp ∨ (0 < nr ∧ ∃ o, X = some ⟨k, o, none⟩)) → Pr k ∨ HdQ br X nr k := by
    rintro k (h | rfl | rfl | rfl | h)
    · exact .inl (hn k h)
    · exact .inr (.inl rfl)
    · exact .inl Pk
    · exact .inl Pp
    · exact .inr (.inr h)
  have F : Fix Pr wr w' := fix_aft hd.st.lt (hd.aft.trans a)
  have Bl : Below B wr w' := Below.mono (hd.aft.trans a) hd.st.big
  refine (hkk _ l 1 w' hnn ((fix_aft s4.lt a).sub hnn) (Below.mono a s4.big) (hd.two a) ⟨by omega, by omega⟩ hl).mono ?_
  rintro e W' ⟨rfl, s, fx, bl⟩
  exact ⟨rfl, s.less (fun k h => .inl h), F.trans (fx.sub (fun k h => .inl h)), Bl.trans bl⟩
theorem headRun2_any (x : Nm) (Bs Bw : Nat) (t0 : BA) (hbA : Below B wA wr) (hw : Nw wA x) (hwB : wA.heap.size = B) (hd20 : x.dn ≤ 20) (hl : l.length + x.dn * (nr * M) ≤ K') : ∀ w', Aft w4 w' → Calls Tryd.prog 58 #[rV x Bs Bw, .string t0, .func (.func 73) #[] #[.pointer (some ⟨br, 0, none⟩), .pointer (some ⟨bk, 0, none⟩), .pointer (some ⟨bp, 0, none⟩)]] w' (fun e W' => e = .returned (.tuple #[]) ∧ St B ob Pr (l ++ (digC x t0).flatMap (fun q => rems.flatMap (fun r => f (q * p + r)))) W' ∧ Fix Pr wr W' ∧ Below B wr W') := by
  intro w' a
  have hkk := headK_any g lb B ob Need Pr w0 wr w4 Z K K' f M hf hcf hk hn hfx hb br bk bp X nr cr l rems p hd ck cp hp hrm hZ hK
  have s4 := hd.two (Aft.refl w4)
  have hnn : ∀ k, (Need k ∨ k = br ∨ k = bk ∨ k = bp ∨ (0 < nr ∧ ∃ o, X = some ⟨k, o, none⟩)) → Pr k ∨ HdQ br X nr k := by
    rintro k (h | rfl | rfl | rfl | h)
    · exact .inl (hn k h)
    · exact .inr (.inl rfl)
    · exact .inl Pk
    · exact .inl Pp
    · exact .inr (.inr h)
  have F : Fix Pr wr w' := fix_aft hd.st.lt (hd.aft.trans a)
  have Bl : Below B wr w' := Below.mono (hd.aft.trans a) hd.st.big
  refine (eachDigit_any x Bs Bw t0 73 _ B ob _ (fun k => Pr k ∨ HdQ br X nr k) wA w4 Dz K' _ (nr * M) (fun z => ?_) enterH1 hkk (fun z h1 h2 => ⟨h1, by omega⟩) l w' hnn ((fix_aft s4.lt a).sub hnn) (Below.mono a s4.big) (hd.two a) (hbA.trans Bl) hw hwB hl).mono ?_
  · have h := flat_len (fun r => f (z * p + r)) M (fun r => hf _) rems
    rw [hd.row.len] at h
    exact h
  · rintro e W' ⟨rfl, s, fx, bl⟩
    exact ⟨rfl, s.less (fun k h => .inl h), F.trans (fx.sub (fun k h => .inl h)), Bl.trans bl⟩
end
end Go.Proofs.YtdehghmpfkhljaaDoor
