/-
  Contract of the code's put at a part of a tree (layer 7): the lines of the part, put one by one. Condition: trees.
-/
import Derived.Test.YtfjpeonfkhcpfaaEditP
import Derived.Test.YtfjpeonfkhcpfaaEditB
namespace Go.Proofs.Ytfjpeonfkhcpfaa
open Go.RowKit
set_option linter.unusedVariables false

theorem part_cons {t : List T.Ln} {a : Nat} (ha : a < t.length) : partL t a = T.at_ t a :: (t.drop (a + 1)).take (T.endL t a - (a + 1)) := by
  obtain ⟨g1, g2, _⟩ := T.end_spec t a ha
  unfold partL
  have e : t.drop a = T.at_ t a :: t.drop (a + 1) := by
    rw [List.drop_eq_getElem_cons ha]
    congr 1
    unfold T.at_ List.getD; rw [List.getElem?_eq_getElem ha]; rfl
  rw [e, show T.endL t a - a = (T.endL t a - (a + 1)) + 1 by omega, List.take_succ_cons]
theorem codePutPart (A : Option Addr) (bq oq d c n q b o ct a e0 : Nat) (u t : List T.Ln) (up : T.Pth) (wd : List UInt8) (w : World) (hn : u.length = n) (hA : Seen eL w A u) (hc : NilOk A c) (hnc : n ≤ c)
    (hm : (up ++ [wd]).length = q) (hbq : bq < w.heap.size) (hB : Holds eS w bq oq (up ++ [wd])) (hd : q ≤ d) (hR : T.RightT u) (hop : T.Open u up) (hno : ¬ thereT u (up ++ [wd])) (h40 : wd.length ≤ 40)
    (ht : T.RightT t) (ha : a < t.length) (hpl : (up ++ [wd]).length = (T.pathL t a).length) (hup : ∀ x ∈ up, x.length ≤ 40) (he : T.endL t a = e0) (h200 : n + (e0 - a) ≤ 200)
    (hb : b < w.heap.size) (hH : Holds eL w b o t) (hct : t.length ≤ ct) :
    Calls Try.prog 41 #[.slice A n c, .slice (some ⟨bq, oq, none⟩) q d, .slice (some ⟨b, o + a * 3, none⟩) (e0 - a) (ct - a)] w (OwnS eL w (T.putAll (up ++ [wd]) u (T.partE t a))) := by
  obtain ⟨g1, g2, _⟩ := T.end_spec t a ha
  have hq16 : (up ++ [wd]).length ≤ 16 := by rw [hpl]; exact (S.RightN.path_deep ht ha).2
  have hw40 : ∀ x ∈ up ++ [wd], x.length ≤ 40 := by
    intro x hx
    rcases List.mem_append.1 hx with h | h
    · exact hup x h
    · rw [List.mem_singleton.1 h]; exact h40
  have hno2 : ∀ i, i < u.length → T.pathL u i ≠ up ++ [wd] := fun i hi e => hno ⟨i, hi, e⟩
  obtain ⟨r1, r2, r3, i, hi, hpi⟩ := T.add_new hR hq16 hw40 hop hno2
  obtain ⟨G, hG⟩ : ∃ G, T.addL u (up ++ [wd]) = G := ⟨_, rfl⟩
  have hl200 : (T.addL u (up ++ [wd])).length ≤ 200 := by omega
  have hadd := AddIs.ok (t := u) (p := up ++ [wd]) (by rw [List.length_append]; simp) hw40 hR hq16 hl200
  rw [hG] at r1 r2 r3 hi hpi hl200 hadd
  have hGR : T.RightT G := r1.mono hl200
  have hlay := T.lay_part (N := 200) (M := 200) ht ha hR h40 hop hno2 hpl (by rw [hn, he]; exact h200) hGR r3 hi hpi
  have hcons := part_cons ha
  have hk : ((t.drop (a + 1)).take (T.endL t a - (a + 1))).length = e0 - (a + 1) := by rw [List.length_take, List.length_drop]; omega
  have hHp : Holds eL w b (o + a * 3) (T.at_ t a :: (t.drop (a + 1)).take (T.endL t a - (a + 1))) := by
    rw [← hcons]
    exact (hH.drop a).take _
  have hput := codePut A bq oq d c n q b (o + a * 3) (ct - a) (e0 - (a + 1)) i u G ((t.drop (a + 1)).take (T.endL t a - (a + 1))) (up ++ [wd]) (T.at_ t a) w hn hA hc hnc (by omega) hm hbq hB hd (by omega) hadd hGR hi hpi hb hHp hk (by omega) (by omega)
  rw [show e0 - (a + 1) + 1 = e0 - a by omega] at hput
  rw [hlay]
  exact hput
end Go.Proofs.Ytfjpeonfkhcpfaa
