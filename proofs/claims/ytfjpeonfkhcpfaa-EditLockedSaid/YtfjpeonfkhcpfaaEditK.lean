/-
  The fixed answer 'awake' of layer 7's statements, from what edit's functions do: it returns true; below the heap's size at the call the world is as it was. No conditions.
-/
import Derived.Test.YtfjpeonfkhcpfaaEditA
import Derived.Test.YtfjpeonfkhcpfaaTreeE
namespace Go.Proofs.Ytfjpeonfkhcpfaa
open Go.RowKit
set_option linter.unusedVariables false

def aw7A : List T.Ln := [⟨0, [97], 0⟩, ⟨1, [98], 0⟩]
def aw7B : List T.Ln := [⟨0, [97], 2⟩, ⟨1, [98], 0⟩]
def aw7C : List T.Ln := [⟨0, [122], 0⟩, ⟨1, [98], 0⟩]
def aw7D : List T.Ln := [⟨0, [121], 0⟩, ⟨1, [98], 0⟩, ⟨0, [122], 0⟩, ⟨1, [98], 0⟩]
def aw7E : List T.Ln := [⟨0, [121], 0⟩, ⟨1, [98], 0⟩]
theorem nil_right : T.RightT [] := ⟨by decide, fun i h => absurd h (Nat.not_lt_zero i), fun i h => absurd h (Nat.not_lt_zero i), fun i h => absurd h (Nat.not_lt_zero i), fun h => absurd h (Nat.lt_irrefl 0), fun i h => absurd h (Nat.not_lt_zero _), fun i k _ h => absurd h (Nat.not_lt_zero k)⟩
theorem aw7_set : SetIs [] [[97], [98]] aw7A 0 := .inr ⟨AddIs.ok (by decide) (by decide) nil_right (by decide) (by decide +kernel), .inr ⟨by decide +kernel, by kernel_rfl, rfl⟩⟩
theorem aw7_rightA : T.RightT aw7A := aw7_set.right nil_right
theorem aw7_on : TurnIs aw7A [[97]] 2 2 [] aw7B 0 := .inr ⟨.inr (.inl ⟨rfl, .inr rfl⟩), aw7_rightA, by decide, .inr ⟨0, by decide, by decide +kernel, .inr (.inl ⟨.inl rfl, .inr ⟨by decide +kernel, (fun e => by cases e), by kernel_rfl, rfl⟩⟩)⟩⟩
theorem aw7_rightB : T.RightT aw7B := aw7_on.right aw7_rightA
theorem aw7_shut : SetIs aw7B [[97], [99]] aw7B 12 := .inr ⟨AddIs.ok (by decide) (by decide) aw7_rightB (by decide) (by decide +kernel), .inl ⟨by decide +kernel, rfl, rfl⟩⟩
theorem aw7_off : TurnIs aw7B [[97]] 3 2 [] aw7A 0 := .inr ⟨.inr (.inr (.inl ⟨rfl, .inr rfl⟩)), aw7_rightB, by decide, .inr ⟨0, by decide, by decide +kernel, .inr (.inl ⟨.inr rfl, .inr ⟨by decide +kernel, (fun e => by cases e), by kernel_rfl, rfl⟩⟩)⟩⟩
theorem there_no {t : List T.Ln} {p : T.Pth} (n : Nat) (hn : t.length = n) (h : ∀ i, i < n → T.pathL t i ≠ p) : ¬ thereT t p := fun ⟨i, hi, e⟩ => h i (hn ▸ hi) e
theorem aw7_ren : TurnIs aw7A [[97]] 4 0 [122] aw7C 0 := .inr ⟨.inr (.inr (.inr (.inl ⟨rfl, by decide⟩))), aw7_rightA, by decide, .inr ⟨0, by decide, by decide +kernel, .inr (.inr (.inl ⟨rfl, .inr ⟨by decide +kernel, .inr ⟨there_no 2 rfl (by decide +kernel), by kernel_rfl, rfl⟩⟩⟩))⟩⟩
theorem aw7_rightC : T.RightT aw7C := aw7_ren.right aw7_rightA
theorem aw7_copy : TurnIs aw7C [[122]] 5 0 [121] aw7D 0 := .inr ⟨.inr (.inr (.inr (.inr ⟨rfl, by decide⟩))), aw7_rightC, by decide, .inr ⟨0, by decide, by decide +kernel, .inr (.inr (.inr ⟨rfl, .inr ⟨by decide +kernel, .inr ⟨there_no 2 rfl (by decide +kernel), .inr ⟨by decide +kernel, by kernel_rfl, rfl⟩⟩⟩⟩))⟩⟩
theorem aw7_rightD : T.RightT aw7D := aw7_copy.right aw7_rightC
theorem aw7_del : TurnIs aw7D [[122]] 1 0 [] aw7E 0 := .inr ⟨.inl rfl, aw7_rightD, by decide, .inr ⟨2, by decide, by decide +kernel, .inl ⟨rfl, .inr ⟨by decide +kernel, by kernel_rfl, rfl⟩⟩⟩⟩
theorem aw_s1 (w : World) (a : UInt8) : Seen eS (w.alloc (.cells #[.string ⟨#[a]⟩] 9)) (some ⟨w.heap.size, 0, none⟩) [[a]] := lit_seen eS w [[a]] _ rfl (by simp)
theorem EArgs.lit {w : World} {A B : Option Addr} {c d n m : Nat} {t : List T.Ln} {p : T.Pth} (hn : t.length = n) (hm : p.length = m) (hA : Seen eL w A t) (hB : Seen eS w B p) (hc : NilOk A c) (hnc : n ≤ c) (hd : m ≤ d) (hl : n ≤ 1000) (hp : m ≤ 1000) : EArgs w A B c d n m t p :=
  ⟨hn, hm, hA, hB, hc, hnc, hd, by omega, by omega⟩

set_option maxRecDepth 100000 in
set_option maxHeartbeats 4000000 in
theorem awake_of (E : EditOk) (w : World) : Calls Try.prog 12 #[] w (TrueS w) := by
  have hb : Below w.heap.size w w := Below.refl _ _
  go_enter Try.func12, Try.ntmps12
  go_wp2_with fail
  refine (E.set none _ 0 2 0 2 [] aw7A [[97], [98]] 0 _ (.lit rfl rfl Seen.nil (aw_s2 _ 97 98) (fun _ => rfl) (by decide) (by decide) (by decide) (by decide)) aw7_set).mono ?_
  rintro e w1 ⟨A1, c1, rfl, hs1, hk1, hc1, hx⟩
  have HS1 := Lib.hid hs1
  replace hx := bthen (up _ _) hx
  replace hb := bthen hb hx
  clear hx hs1
  go_wp2_with fail
  refine (E.mark A1 _ c1 1 2 1 aw7A aw7B [[97]] 2 [] 0 true _ (.lit rfl rfl (HS1.out.below (up _ _)) (aw_s1 _ 97) hk1 hc1 (by decide) (by decide) (by decide)) aw7_on).mono ?_
  rintro e w2 ⟨A2, c2, rfl, hs2, hk2, hc2, hx⟩
  replace hx := bthen (up _ _) hx
  replace HS1 := Lib.hid (HS1.out.below hx)
  have HS2 := Lib.hid hs2
  replace hb := bthen hb hx
  clear hx hs2
  go_wp2_with fail
  refine (E.set A2 _ c2 2 2 2 aw7B aw7B [[97], [99]] 12 _ (.lit rfl rfl (HS2.out.below (up _ _)) (aw_s2 _ 97 99) hk2 hc2 (by decide) (by decide) (by decide)) aw7_shut).mono ?_
  rintro e w3 ⟨A3, c3, rfl, hs3, hk3, hc3, hx⟩
  replace hx := bthen (up _ _) hx
  replace HS2 := Lib.hid (HS2.out.below hx)
  have HS3 := Lib.hid hs3
  replace hb := bthen hb hx
  clear hx hs3
  go_wp2_with fail
  refine (E.mark A2 _ c2 1 2 1 aw7B aw7A [[97]] 2 [] 0 false _ (.lit rfl rfl (HS2.out.below (up _ _)) (aw_s1 _ 97) hk2 hc2 (by decide) (by decide) (by decide)) aw7_off).mono ?_
  rintro e w4 ⟨A4, c4, rfl, hs4, hk4, hc4, hx⟩
  replace hx := bthen (up _ _) hx
  replace HS2 := Lib.hid (HS2.out.below hx)
  have HS4 := Lib.hid hs4
  replace hb := bthen hb hx
  clear hx hs4
  go_wp2_with fail
  refine (E.rename A4 _ c4 1 2 1 aw7A aw7C [[97]] 0 [122] 0 _ (.lit rfl rfl (HS4.out.below (up _ _)) (aw_s1 _ 97) hk4 hc4 (by decide) (by decide) (by decide)) aw7_ren).mono ?_
  rintro e w5 ⟨A5, c5, rfl, hs5, hk5, hc5, hx⟩
  replace hx := bthen (up _ _) hx
  replace HS2 := Lib.hid (HS2.out.below hx)
  have HS5 := Lib.hid hs5
  replace hb := bthen hb hx
  clear hx hs5
  go_wp2_with fail
  refine (E.copy A5 _ c5 1 2 1 aw7C aw7D [[122]] 0 [121] 0 _ (.lit rfl rfl (HS5.out.below (up _ _)) (aw_s1 _ 122) hk5 hc5 (by decide) (by decide) (by decide)) aw7_copy).mono ?_
  rintro e w6 ⟨A6, c6, rfl, hs6, hk6, hc6, hx⟩
  replace hx := bthen (up _ _) hx
  replace HS2 := Lib.hid (HS2.out.below hx)
  have HS6 := Lib.hid hs6
  replace hb := bthen hb hx
  clear hx hs6
  go_wp2_with fail
  refine (E.del A6 _ c6 1 4 1 aw7D aw7E [[122]] 0 [] 0 _ (.lit rfl rfl (HS6.out.below (up _ _)) (aw_s1 _ 122) hk6 hc6 (by decide) (by decide) (by decide)) aw7_del).mono ?_
  rintro e w7 ⟨A7, c7, rfl, hs7, hk7, hc7, hx⟩
  replace hx := bthen (up _ _) hx
  replace HS2 := Lib.hid (HS2.out.below hx)
  have HS7 := Lib.hid hs7
  replace hb := bthen hb hx
  clear hx hs7
  obtain ⟨b7, o7, e7, hb7, hH7⟩ := HS7.out (by decide)
  subst e7
  have d0 : w7.cell? ⟨b7, o7 + 1, none⟩ = some (.string ⟨#[121]⟩) := (hH7.line (i := 0) (by decide)).2.1
  go_wp2_with fail
  refine (E.locked A2 _ c2 2 2 2 aw7B [[97], [113]] true _ (.lit rfl rfl (HS2.out.below (up _ _)) (aw_s2 _ 97 113) hk2 hc2 (by decide) (by decide) (by decide)) (yes_iff ⟨aw7_rightB, (kept_yes aw7_rightB _ _).1 (by decide +kernel)⟩)).mono ?_
  rintro e w8 ⟨rfl, hx⟩
  replace hx := bthen (up _ _) hx
  replace HS2 := Lib.hid (HS2.out.below hx)
  replace hb := bthen hb hx
  clear hx
  go_wp2_with fail
  refine (E.above A2 _ c2 1 2 1 aw7B [[97]] false _ (.lit rfl rfl (HS2.out.below (up _ _)) (aw_s1 _ 97) hk2 hc2 (by decide) (by decide) (by decide)) (no_iff fun h => (kept_no aw7_rightB _ _).1 (by decide +kernel) h.2)).mono ?_
  rintro e w9 ⟨rfl, hx⟩
  replace hx := bthen (up _ _) hx
  replace hb := bthen hb hx
  clear hx
  go_wp2
  go_ret
  exact ⟨rfl, hb⟩
end Go.Proofs.Ytfjpeonfkhcpfaa
