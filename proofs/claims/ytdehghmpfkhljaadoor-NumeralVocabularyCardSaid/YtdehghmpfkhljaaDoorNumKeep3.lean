/-
  eachSubtraction and its closures. Conditions: as each theorem says.
-/
import Derived.Test.YtdehghmpfkhljaaDoorNumKeep2
namespace Go.Proofs.YtdehghmpfkhljaaDoor
open Go.RowKit
open NumPlain

theorem enterK11 (args : Array Value) (w : World) : (callFunc 70 args).run Tryd.prog w = .ok (.enter 70 args) w := by go_simp
theorem enterK1 (args : Array Value) (w : World) : (callFunc 69 args).run Tryd.prog w = .ok (.enter 69 args) w := by go_simp
/-- A digit. -/
abbrev Dz (z : Int) : Prop := 0 ≤ z ∧ z < 20

set_option maxRecDepth 100000 in
set_option maxHeartbeats 1600000 in
theorem sub11_any (g : Nat) (lb : Array Value) (B ob : Nat) (Need : Nat → Prop) (w0 w1 : World) (Z : Int → Prop) (K : Nat) (f : Int → List Int) (hcf : ∀ args w, (callFunc g args).run Tryd.prog w = .ok (.enter g args) w)
    (hk : KV g lb B ob Need w0 Z K f) (hfx : Fix Need w0 w1) (hb : Below B w0 w1) (bk bq bp : Nat) (q p : Int) (ck : w1.cell? ⟨bk, 0, none⟩ = some (.func (.func g) #[] lb)) (cq : w1.cell? ⟨bq, 0, none⟩ = some (.int .i64 q)) (cp : w1.cell? ⟨bp, 0, none⟩ = some (.int .i64 p))
    (h0 : 0 ≤ q * p) (h1 : q * p ≤ 160000) (hZ : ∀ z, Dz z → Z (q * p - z)) :
    KV 70 #[.pointer (some ⟨bk, 0, none⟩), .pointer (some ⟨bq, 0, none⟩), .pointer (some ⟨bp, 0, none⟩)] B ob (fun k => Need k ∨ k = bk ∨ k = bq ∨ k = bp) w1 Dz K (fun z => f (q * p - z)) := by
  intro Pr l z W hn hfx1 hb1 hst hz hl
  have c1 := hfx1.cell (.inr (.inl rfl)) ck
  have c2 := hfx1.cell (.inr (.inr (.inl rfl))) cq
  have c3 := hfx1.cell (.inr (.inr (.inr rfl))) cp
  have HC := Lib.hid (hk Pr l (q * p - z) W (fun k h => hn k (.inl h)) (hfx.trans (hfx1.sub (fun k h => .inl h))) (hb.trans hb1) hst (hZ z hz) hl)
  obtain ⟨z0, z1⟩ := hz
  have e1 : -9223372036854775808 ≤ q * p := by omega
  have e2 : q * p ≤ 9223372036854775807 := by omega
  have e3 : -9223372036854775808 ≤ q * p - z := by omega
  have e4 : q * p - z ≤ 9223372036854775807 := by omega
  clear hk hfx hb hfx1 hb1 hst hn hZ ck cq cp
  go_enter Tryd.func70, Tryd.ntmps70
  go_wp2_with fail
  refine HC.out.mono ?_
  rintro e w3 ⟨rfl, h2⟩
  have H2 := Lib.hid h2
  clear h2 HC
  go_wp2
  go_end0
  exact ⟨rfl, H2.out⟩
end Go.Proofs.YtdehghmpfkhljaaDoor
