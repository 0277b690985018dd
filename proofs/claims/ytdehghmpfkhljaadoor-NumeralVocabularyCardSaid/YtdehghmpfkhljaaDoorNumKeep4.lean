/-
  eachSubtraction and its outer closure. Conditions: as each theorem says.
-/
import Derived.Test.YtdehghmpfkhljaaDoorNumKeep3
import Derived.Test.YtdehghmpfkhljaaDoorRegion
namespace Go.Proofs.YtdehghmpfkhljaaDoor
open Go.RowKit
open NumPlain

/-- A reader lies in block R. -/
structure Rb (w : World) (R : Nat) (x : Nm) (Bs Bw : Nat) : Prop where
  c0 : w.cell? ⟨R, 0, none⟩ = some (.int .i64 x.base)
  c1 : w.cell? ⟨R, 1, none⟩ = some (.slice x.da x.dn x.dc)
  c2 : w.cell? ⟨R, 2, none⟩ = some (.slice x.pa x.pn x.pc)
  c3 : w.cell? ⟨R, 3, none⟩ = some (.bool x.sf)
  c4 : w.cell? ⟨R, 4, none⟩ = some (.string x.jo)
  c5 : w.cell? ⟨R, 5, none⟩ = some (.int .i64 x.sub)
  c6 : w.cell? ⟨R, 6, none⟩ = some (.string x.le)
  c7 : w.cell? ⟨R, 7, none⟩ = some (.bool x.om)
  c8 : w.cell? ⟨R, 8, none⟩ = some (.func (.func 50) #[] #[.pointer (some ⟨Bs, 0, none⟩), .pointer (some ⟨Bw, 0, none⟩)])
theorem Rb.fix {Pr : Nat → Prop} {w w' : World} {R : Nat} {x : Nm} {Bs Bw : Nat} (h : Rb w R x Bs Bw) (k : Fix Pr w w') (hR : Pr R) : Rb w' R x Bs Bw :=
  ⟨k.cell hR h.c0, k.cell hR h.c1, k.cell hR h.c2, k.cell hR h.c3, k.cell hR h.c4, k.cell hR h.c5, k.cell hR h.c6, k.cell hR h.c7, k.cell hR h.c8⟩
theorem Rb.new (w : World) (x : Nm) (Bs Bw : Nat) (t : TypeId) : Rb (w.alloc (.cells (rC x Bs Bw) t)) w.heap.size x Bs Bw := by
  constructor <;> simp
theorem digC_len (x : Nm) (s : BA) : (digC x s).length ≤ x.ds.length := digs_len x s _
theorem digC_flat (x : Nm) (s : BA) (f : Int → List Int) (M : Nat) (hf : ∀ z, (f z).length ≤ M) : ((digC x s).flatMap f).length ≤ x.ds.length * M :=
  Nat.le_trans (flat_len f M hf _) (Nat.mul_le_mul_right M (digC_len x s))

set_option maxRecDepth 100000 in
set_option maxHeartbeats 1600000 in
theorem sub1_any (x : Nm) (Bs Bw : Nat) (A : Option Addr) (n c : Nat) (toks : List BA) (h0n : 0 < n) (g : Nat) (lb : Array Value) (B ob : Nat) (Need : Nat → Prop) (wA w0 w1 : World) (Z : Int → Prop) (K K' : Nat) (f : Int → List Int) (M : Nat) (hf : ∀ z, (f z).length ≤ M) (hcf : ∀ args w, (callFunc g args).run Tryd.prog w = .ok (.enter g args) w)
    (hk : KV g lb B ob Need w0 Z K f) (hfx : Fix Need w0 w1) (hb : Below B w0 w1) (R T bk bp : Nat) (p : Int) (hR : Rb w1 R x Bs Bw) (cT : w1.cell? ⟨T, 0, none⟩ = some (.slice A n c)) (ck : w1.cell? ⟨bk, 0, none⟩ = some (.func (.func g) #[] lb)) (cp : w1.cell? ⟨bp, 0, none⟩ = some (.int .i64 p))
    (hd20 : x.dn ≤ 20) (hp : ∀ q, Dz q → 0 ≤ q * p ∧ q * p ≤ 160000) (hZ : ∀ q z, Dz q → Dz z → Z (q * p - z)) (hbA : Below B wA w1) (hw : Nw wA x) (ht : Rw sV wA A n c toks) (hwB : wA.heap.size = B) (hK : K' + x.dn * M ≤ K) :
    KV 69 #[.pointer (some ⟨R, 0, none⟩), .pointer (some ⟨T, 0, none⟩), .pointer (some ⟨bk, 0, none⟩), .pointer (some ⟨bp, 0, none⟩)] B ob (fun k => Need k ∨ k = R ∨ k = T ∨ k = bk ∨ k = bp) w1 Dz K' (fun q => (digC x (toks.getD 0 ByteArray.empty)).flatMap (fun m => f (q * p - m))) := by
  intro Pr l q W hn hfx1 hb1 hst hq hl
  obtain ⟨b, off, t0, rfl, ht0, g0⟩ := ht.at_ h0n
  have hg0 : toks.getD 0 ByteArray.empty = t0 := by simp [List.getD, ht0]
  have hRW : Rb W R x Bs Bw := hR.fix hfx1 (.inr (.inl rfl))
  have cTW := hfx1.cell (.inr (.inr (.inl rfl))) cT
  have ckW := hfx1.cell (.inr (.inr (.inr (.inl rfl)))) ck
  have cpW := hfx1.cell (.inr (.inr (.inr (.inr rfl)))) cp
  have hbl : b < B := by rw [← hwB]; exact World.block_lt_of_cell? wA _ g0
  have ctW : W.cell? ⟨b, off, none⟩ = some (.string t0) := ((hbA.trans hb1).cell (p := ⟨b, off + 0, none⟩) hbl).trans g0
  have PR : Pr R := hn R (.inr (.inl rfl))
  have PT : Pr T := hn T (.inr (.inr (.inl rfl)))
  have AL : Aft W (W.alloc (.cells #[.int .i64 q] 3)) := (Aft.refl W).alloc _
  have HS := Lib.hid (show ∀ w', Fix Pr W w' → Below B W w' → (fun w' => w'.cell? ⟨R, 0, none⟩ = some (.int .i64 x.base) ∧ w'.cell? ⟨R, 1, none⟩ = some (.slice x.da x.dn x.dc) ∧ w'.cell? ⟨R, 2, none⟩ = some (.slice x.pa x.pn x.pc) ∧ w'.cell? ⟨R, 3, none⟩ = some (.bool x.sf) ∧ w'.cell? ⟨R, 4, none⟩ = some (.string x.jo) ∧ w'.cell? ⟨R, 5, none⟩ = some (.int .i64 x.sub) ∧ w'.cell? ⟨R, 6, none⟩ = some (.string x.le) ∧ w'.cell? ⟨R, 7, none⟩ = some (.bool x.om) ∧ w'.cell? ⟨R, 8, none⟩ = some (.func (.func 50) #[] #[.pointer (some ⟨Bs, 0, none⟩), .pointer (some ⟨Bw, 0, none⟩)]) ∧ w'.cell? ⟨T, 0, none⟩ = some (.slice (some ⟨b, off, none⟩) n c) ∧ w'.cell? ⟨b, off, none⟩ = some (.string t0)) w' by
    intro w' F1 B1
    have r := hRW.fix F1 PR
    exact ⟨r.c0, r.c1, r.c2, r.c3, r.c4, r.c5, r.c6, r.c7, r.c8, F1.cell PT cTW, (B1.cell (p := ⟨b, off, none⟩) hbl).trans ctW⟩)
  have HSS := Lib.hid (HS.out (W.alloc (.cells #[.int .i64 q] 3)) (fix_alloc hst.lt _) ((Below.refl B W).alloc hst.big _))
  have HC := Lib.hid (show ∀ w', Aft (W.alloc (.cells #[.int .i64 q] 3)) w' → Calls Tryd.prog 58 #[rV x Bs Bw, .string t0, .func (.func 70) #[] #[.pointer (some ⟨bk, 0, none⟩), .pointer (some ⟨W.heap.size, 0, none⟩), .pointer (some ⟨bp, 0, none⟩)]] w' (fun e W' => e = .returned (.tuple #[]) ∧ St B ob Pr (l ++ (digC x t0).flatMap (fun m => f (q * p - m))) W' ∧ Fix Pr W W' ∧ Below B W W') by
    intro w' a
    have a2 : Aft W w' := AL.trans a
    have F1 : Fix Pr W w' := fix_aft hst.lt a2
    have B1 : Below B W w' := Below.mono a2 hst.big
    have F0 : Fix Need w0 w' := hfx.trans ((hfx1.sub (fun k h => .inl h)).trans (F1.sub (fun k h => hn k (.inl h))))
    have cq : w'.cell? ⟨W.heap.size, 0, none⟩ = some (.int .i64 q) := a.cell (by simp)
    have hk11 := sub11_any g lb B ob Need w0 w' Z K f hcf hk F0 (hb.trans (hb1.trans B1)) bk W.heap.size bp q p (F1.cell (hn bk (.inr (.inr (.inr (.inl rfl))))) ckW) cq (F1.cell (hn bp (.inr (.inr (.inr (.inr rfl))))) cpW) (hp q hq).1 (hp q hq).2 (fun z hz => hZ q z hq hz)
    have hs1 := (hst.alloc (.cells #[.int .i64 q] 3)).aft a
    refine (eachDigit_any x Bs Bw t0 70 _ B ob _ (fun k => Pr k ∨ k = W.heap.size) wA w' Dz K _ M (fun z => hf _) enterK11 hk11 (fun z h1 h2 => ⟨h1, by omega⟩) l w' (fun k h => ?_) (Fix.refl _ _) (Below.refl _ _) hs1 (hbA.trans (hb1.trans B1)) hw hwB (by omega)).mono ?_
    · rcases h with h | rfl | rfl | rfl
      · exact .inl (hn _ (.inl h))
      · exact .inl (hn _ (.inr (.inr (.inr (.inl rfl)))))
      · exact .inr rfl
      · exact .inl (hn _ (.inr (.inr (.inr (.inr rfl)))))
    · rintro e W' ⟨rfl, s, fx, bl⟩
      exact ⟨rfl, s.less (fun k h => .inl h), F1.trans (fx.sub (fun k h => .inl h)), B1.trans bl⟩)
  have hn64 := ht.le
  have hc64 := ht.cmax
  have h0i : (0 : Int) < (n : Int) := by omega
  rw [hg0]
  have hcf2 := enterK11
  clear hk hfx hb hR cT ck cp hp hZ hbA hw ht hK hf hcf hfx1 hb1 hst hn hl hRW cTW ckW cpW ctW g0 ht0 hg0 AL PR PT
  go_enter Tryd.func69, Tryd.ntmps69
  go_wp2
  refine wp_region_held_drew (S := fun w' => w'.cell? ⟨R, 0, none⟩ = some (.int .i64 x.base) ∧ w'.cell? ⟨R, 1, none⟩ = some (.slice x.da x.dn x.dc) ∧ w'.cell? ⟨R, 2, none⟩ = some (.slice x.pa x.pn x.pc) ∧ w'.cell? ⟨R, 3, none⟩ = some (.bool x.sf) ∧ w'.cell? ⟨R, 4, none⟩ = some (.string x.jo) ∧ w'.cell? ⟨R, 5, none⟩ = some (.int .i64 x.sub) ∧ w'.cell? ⟨R, 6, none⟩ = some (.string x.le) ∧ w'.cell? ⟨R, 7, none⟩ = some (.bool x.om) ∧ w'.cell? ⟨R, 8, none⟩ = some (.func (.func 50) #[] #[.pointer (some ⟨Bs, 0, none⟩), .pointer (some ⟨Bw, 0, none⟩)]) ∧ w'.cell? ⟨T, 0, none⟩ = some (.slice (some ⟨b, off, none⟩) n c) ∧ w'.cell? ⟨b, off, none⟩ = some (.string t0)) (by kernel_rfl) (HSS.out) (fun hHeld => ?_)
  refine take_on (i := 0) (v := ?v1) rfl (by kernel_rfl) (by kernel_rfl) (by kernel_rfl) (fun _ _ _ h => h) (by rfl) (by assumption) ?y1 ?_
  case y1 => (intro w hSw; (try dsimp only at hSw); go_simp; (try with_reducible rfl))
  try simp only [Act.put, List.setIfInBounds_toArray, List.set_cons_zero, List.set_cons_succ]
  refine take_on (i := 1) (v := ?v2) rfl (by kernel_rfl) (by kernel_rfl) (by kernel_rfl) (fun _ _ _ h => h) (by rfl) (by assumption) ?y2 ?_
  case y2 => (intro w hSw; (try dsimp only at hSw); go_simp; (try with_reducible rfl))
  try simp only [Act.put, List.setIfInBounds_toArray, List.set_cons_zero, List.set_cons_succ]
  refine take_on (i := 2) (v := ?v3) rfl (by kernel_rfl) (by kernel_rfl) (by kernel_rfl) (fun _ _ _ h => h) (by rfl) (by assumption) ?y3 ?_
  case y3 => (intro w hSw; (try dsimp only at hSw); go_simp; (try with_reducible rfl))
  try simp only [Act.put, List.setIfInBounds_toArray, List.set_cons_zero, List.set_cons_succ]
  refine take_on (i := 3) (v := ?v4) rfl (by kernel_rfl) (by kernel_rfl) (by kernel_rfl) (fun _ _ _ h => h) (by rfl) (by assumption) ?y4 ?_
  case y4 => (intro w hSw; (try dsimp only at hSw); go_simp; (try with_reducible rfl))
  try simp only [Act.put, List.setIfInBounds_toArray, List.set_cons_zero, List.set_cons_succ]
  refine take_on (i := 4) (v := ?v5) rfl (by kernel_rfl) (by kernel_rfl) (by kernel_rfl) (fun _ _ _ h => h) (by rfl) (by assumption) ?y5 ?_
  case y5 => (intro w hSw; (try dsimp only at hSw); go_simp; (try with_reducible rfl))
  try simp only [Act.put, List.setIfInBounds_toArray, List.set_cons_zero, List.set_cons_succ]
  refine one_ready (i := 5) rfl (by kernel_rfl) (by rfl) (fun K hK => ?_)
  go_simp
  go_at_call 58
  refine (HC.out _ (by first | exact Below.drew (Aft.refl _) | exact Aft.refl _)).mono ?_
  rintro e' w' ⟨rfl, h9⟩
  have H9 := Lib.hid h9
  clear h9
  have hh : (fun w' => w'.cell? ⟨R, 0, none⟩ = some (.int .i64 x.base) ∧ w'.cell? ⟨R, 1, none⟩ = some (.slice x.da x.dn x.dc) ∧ w'.cell? ⟨R, 2, none⟩ = some (.slice x.pa x.pn x.pc) ∧ w'.cell? ⟨R, 3, none⟩ = some (.bool x.sf) ∧ w'.cell? ⟨R, 4, none⟩ = some (.string x.jo) ∧ w'.cell? ⟨R, 5, none⟩ = some (.int .i64 x.sub) ∧ w'.cell? ⟨R, 6, none⟩ = some (.string x.le) ∧ w'.cell? ⟨R, 7, none⟩ = some (.bool x.om) ∧ w'.cell? ⟨R, 8, none⟩ = some (.func (.func 50) #[] #[.pointer (some ⟨Bs, 0, none⟩), .pointer (some ⟨Bw, 0, none⟩)]) ∧ w'.cell? ⟨T, 0, none⟩ = some (.slice (some ⟨b, off, none⟩) n c) ∧ w'.cell? ⟨b, off, none⟩ = some (.string t0)) w' := HS.out _ H9.out.2.1 H9.out.2.2
  try go_simp
  refine hK.out _ _ (hh) (fun hHeld => ?_)
  clear hK K
  try simp only [Act.put, List.setIfInBounds_toArray, List.set_cons_zero, List.set_cons_succ]
  refine wpAnyH_done (by kernel_rfl) ?_ _
  go_wp2
  go_end0
  exact ⟨rfl, H9.out⟩
end Go.Proofs.YtdehghmpfkhljaaDoor
