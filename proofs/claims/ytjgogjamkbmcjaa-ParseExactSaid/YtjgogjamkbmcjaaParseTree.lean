/-
  Contract of layer 5's Tree: the tree of a text, or where there is none, and why, is what the plain definition says. Condition: strings of at most 2^30 bytes.
-/
import Derived.Test.YtjgogjamkbmcjaaParseD
import Derived.OwnWalk
namespace Go.Proofs.Ytjgogjamkbmcjaa.S
open T (Ln Pth at_ dp wd RightT pathL pathI underL findI putL entries)
theorem rel_facts {p : PSt} {c : CSt} (hi : PInv p) (h : RelP p c) : (0 ≤ c.mark ∧ c.mark ≤ 3) ∧ (c.named = true → c.path ≠ []) ∧ ∀ x ∈ c.found, x.1 ≠ [] := by
  obtain ⟨mode, t, path⟩ := p
  obtain ⟨_, _, _, hm⟩ := hi
  have hne : ∀ x ∈ c.found, x.1 ≠ [] := fun x hx => by
    obtain ⟨i, _, e, _⟩ := (T.mem_entries t x.1 x.2).1 ((h.mem x).2 hx)
    rw [← e]; exact T.path_ne
  have hmd := h.mode
  cases mode with
  | start =>
    obtain ⟨c1, c2, _⟩ := hmd
    exact ⟨by omega, (fun e => by rw [c1] at e; cases e), hne⟩
  | marks m =>
    obtain ⟨c1, c2, _, _⟩ := hmd
    simp only at hm
    exact ⟨by omega, (fun e => by rw [c1] at e; cases e), hne⟩
  | named q =>
    obtain ⟨c1, c2, c3, v, c4⟩ := hmd
    refine ⟨by omega, (fun _ => ?_), hne⟩
    rw [c3, c4]; simp
theorem sorted_tree {p : PSt} {c : CSt} (hi : PInv p) (h : RelP p c) {G : List (Pth × Int)} (hp : G.Perm c.found) (ho : G.Pairwise fun x y => T.pless y.1 x.1 = false) : T.ofP G = p.t := by
  refine found_tree hi h ?_ fun x => hp.mem_iff
  have h1 : G.Pairwise fun x y => x.1 ≠ y.1 := (hp.pairwise_iff (fun h => Ne.symm h)).2 h.once
  intro i k hk hik
  have a1 := List.pairwise_iff_getElem.1 h1 i k (by omega) hk hik
  have a2 := List.pairwise_iff_getElem.1 ho i k (by omega) hk hik
  rcases T.pless_tri G[i].1 G[k].1 with h3 | h3 | h3
  · exact h3
  · exact absurd h3 a1
  · rw [a2] at h3; cases h3
end Go.Proofs.Ytjgogjamkbmcjaa.S
namespace Go.Proofs.Ytjgogjamkbmcjaa
open Go.RowKit

/-- What parse's Tree leaves. -/
def TreeS (w : World) (r : S.PRes) (e : Ending) (w' : World) : Prop :=
  match r with
  | .ok t => ∃ A cap, e = .returned (.tuple #[.slice A t.length cap, .int .i64 0, .int .i64 0]) ∧ t.length ≤ cap ∧ Seen eL w' A t ∧ Below w.heap.size w w'
  | .bad p er => e = .returned (.tuple #[.slice none 0 0, .int .i64 (p : Int), .int .i64 er]) ∧ Below w.heap.size w w'

theorem RdAt.zero (w : World) : RdAt (w.alloc (rdO (.slice none 0 0) (.slice none 0 0) false 0)) w.heap.size (.slice none 0 0) S.cinit :=
  ⟨_, [], RdB.new w _ _ _ _, ⟨Own.nil _ _, rfl, fun i h => absurd h (Nat.not_lt_zero i)⟩, .inl ⟨rfl, rfl⟩, by decide, by decide⟩
theorem RdAt.own {w : World} {g : Nat} {vf : Value} {c : S.CSt} (h : RdAt w g vf c) : ∀ k, vf.ownBlock = some k → k < w.heap.size := by
  obtain ⟨vp, L, _, hF, _⟩ := h
  exact fun k hk => (hF.own.lt k hk).2

/-- The reader's loop: what has been read, and what is left to read. -/
def RelT (w1 : World) (n : Nat) (toks : List W.Tok) (r : S.PRes) (gk : Nat) (i : Value) (wr : World) : Prop :=
  ∃ (k : Nat) (p : S.PSt) (c : S.CSt) (vf : Value), Hid (k + gk = toks.length) ∧ k ≤ toks.length ∧ i = .int .i64 k ∧ Hid (RdAt wr w1.heap.size vf c) ∧ Hid (S.RelP p c) ∧ Hid (S.PInv p) ∧ Hid (S.parseT n p (toks.drop k) = r) ∧ Below w1.heap.size w1 wr

set_option maxRecDepth 100000 in
set_option maxHeartbeats 4000000 in
theorem tree_any (s : ByteArray) (w : World) (hs : s.size ≤ 1073741824) :
    Calls Try.prog 11 #[.string s] w (TreeS w (S.parseL s.data.toList)) := by
  obtain ⟨r, hr⟩ : ∃ r, S.parseL s.data.toList = r := ⟨_, rfl⟩
  rw [hr]
  unfold S.parseL at hr
  cases hx : W.lexL 0 s.data.toList with
  | bad p er =>
    rw [hx] at hr
    have hne : er ≠ 0 := (W.bad_lt _ 0 p er hx).2.2
    have hc := all_err s p er w hs hx
    have bne : (er != 0) = true := by simp [hne]
    have HE := Lib.hid (show r = .bad p er from hr.symm)
    clear hr hx hne
    go_enter Try.func11, Try.ntmps11
    go_wp2_with fail
    refine hc.mono ?_
    rintro e w1 ⟨A, cap, rfl, hb1⟩
    go_wp2
    go_ret3
    rw [HE.out]
    exact ⟨rfl, hb1⟩
  | ok toks =>
    rw [hx] at hr
    have hgood := W.lexL_good _ 0 toks hx
    have hc := all_saw s _ w hs hx
    have hsz := Lib.size_eq s
    have htl : toks.length ≤ 1073741824 := by have := W.lexL_len _ 0 toks hx; omega
    have hr2 : S.parseT s.size S.init toks = r := by rw [hsz]; exact hr
    have HX := Lib.hid hgood
    have HP0 := Lib.hid hr2
    clear hr hx hgood hr2 hsz
    go_enter Try.func11, Try.ntmps11
    go_wp2_with fail
    refine hc.mono ?_
    rintro e w1 ⟨v, he, ⟨A, cap, rfl, hT⟩, hb1⟩
    have he : e = .returned (.tuple #[.slice A toks.length cap, .int .i64 0, .int .i64 0]) := he
    have hT : 0 < toks.length → ∃ g, A = some ⟨g, 0, none⟩ ∧ HoldsT w1 g toks := hT
    subst he
    have HT := Lib.hid hT
    clear hT
    change Below w.heap.size w w1 at hb1
    have hR0 := RdAt.zero w1
    have hb0 : Below w1.heap.size w1 (w1.alloc (rdO (.slice none 0 0) (.slice none 0 0) false 0)) := (Below.refl _ _).alloc (Nat.le_refl _) _
    go_wp2
    go_loopg [10, 11, 24] toks.length (fun gk x10 x11 i wr => RelT w1 s.size toks r gk i wr)
    case atStart => exact ⟨0, S.init, S.cinit, _, Nat.zero_add _, Nat.zero_le _, rfl, hR0, S.rel_init, S.inv_init, HP0.out, hb0⟩
    case round =>
      obtain ⟨k, p, c, vf, HG, hk, rfl, HR, HL, HI, HP, hb⟩ := hrel
      have hgw := HR.out.lt
      obtain ⟨hmk, hne, hpne⟩ := S.rel_facts HI.out HL.out
      by_cases hlt : k < toks.length
      · have blt : decide ((k : Int) < (toks.length : Int)) = true := decide_eq_true (by omega)
        obtain ⟨g, rfl, hTg⟩ := HT.out (by omega)
        obtain ⟨⟨kd, ps, wo, bt⟩, ht⟩ : ∃ x, toks[k] = x := ⟨_, rfl⟩
        have hgood : W.GoodTok ⟨kd, ps, wo, bt⟩ := ht ▸ HX.out _ (List.getElem_mem hlt)
        obtain ⟨c0, c1, c2, c3⟩ := (hTg.below hb).cells hlt ht
        have hpt := HP.out
        rw [List.drop_eq_getElem_cons hlt, ht] at hpt
        unfold S.parseT at hpt
        have hb2 : Below wr.heap.size wr (wr.alloc (.cells #[.int .i64 kd, .int .i64 (ps : Int), .string ⟨wo.toArray⟩, .int .i64 bt] 52)) := (Below.refl _ _).alloc (Nat.le_refl _) _
        have htake := take_step w1.heap.size vf c ⟨kd, ps, wo, bt⟩ _ (HR.out.below hb2) hgood hmk hne
        have hboth := S.step_both HI.out HL.out (S.good_strip hgood) (S.kind_tok hgood)
        have hown := HR.out.own
        have HB := Lib.hid hboth
        have HPT := Lib.hid hpt
        have HGD := Lib.hid (S.good_strip hgood)
        have hgb := hb.size
        have hbox : (wr.alloc (.cells #[.int .i64 kd, .int .i64 (ps : Int), .string ⟨wo.toArray⟩, .int .i64 bt] 52)).heap[wr.heap.size]? = some (.cells #[.int .i64 kd, .int .i64 (ps : Int), .string ⟨wo.toArray⟩, .int .i64 bt] 52 (0, 0)) := heap_alloc_new wr _
        clear hTg hpt hboth ht hgood hmk hne hpne
        unfold tokV at htake
        simp only at htake
        generalize (⟨wo.toArray⟩ : ByteArray) = q at *
        cases hcs : S.cstep c (S.strip ⟨kd, ps, wo, bt⟩) with
        | inr er =>
          rw [hcs] at htake
          have hbo := HB.out
          rw [hcs] at hbo
          cases hps : S.pstep p (S.strip ⟨kd, ps, wo, bt⟩) with
          | inl p2 => rw [hps] at hbo; exact absurd hbo id
          | inr er2 =>
            rw [hps] at hbo
            have hee : er2 = er := hbo
            subst hee
            have hr2 := HPT.out
            rw [hps] at hr2
            have hr2 : r = .bad ps er2 := hr2.symm
            have HE := Lib.hid hr2
            have hn0 : er2 ≠ 0 := by rcases S.pstep_err hps with h | h | h | h <;> omega
            have bne : (er2 != 0) = true := by simp [hn0]
            clear hbo hr2 hn0 hps hcs
            go_wp2_with fail
            refine htake.mono ?_
            rintro e w3 ⟨rfl, hK⟩
            have hbk := hK.2 _ _ hbox (by omega) (fun e => by have := hown _ e; omega)
            have k1 : w3.cell? ⟨wr.heap.size, 1, none⟩ = some (.int .i64 (ps : Int)) := by rw [Lib.cell_of_heap hbk]; rfl
            go_wp2
            go_region
            go_wp2
            go_ret3
            rw [HE.out]
            exact ⟨rfl, (hb1.trans ((hb.trans (hb2.mono hgb)).mono hb1.size)).trans ((hK.1.mono hb1.size).drew)⟩
        | inl c2 =>
          rw [hcs] at htake
          have hbo := HB.out
          rw [hcs] at hbo
          cases hps : S.pstep p (S.strip ⟨kd, ps, wo, bt⟩) with
          | inr er2 => rw [hps] at hbo; exact absurd hbo id
          | inl p2 =>
            rw [hps] at hbo
            have hr2 := HPT.out
            rw [hps] at hr2
            have HE := Lib.hid (show S.parseT s.size p2 (toks.drop (k + 1)) = r from hr2)
            have HL2 := Lib.hid (show S.RelP p2 c2 from hbo)
            have HI2 := Lib.hid (S.inv_step HI.out HGD.out hps)
            clear hbo hr2 hps hcs
            go_wp2_with fail
            refine htake.mono ?_
            rintro e w3 ⟨rfl, ⟨vf2, hR2⟩, hK⟩
            have HR2 := Lib.hid hR2
            clear hR2
            go_wp2
            go_roundg (toks.length - (k + 1))
            case rel => exact ⟨k + 1, p2, c2, vf2, (by show _ = _; omega), by omega, by go_num, HR2, HL2, HI2, HE, (hb.trans (hb2.mono hgb)).trans hK.1⟩
            case measure => have := HG.out; omega
      · have blt : decide ((k : Int) < (toks.length : Int)) = false := decide_eq_false (by omega)
        have hpt := HP.out
        rw [List.drop_eq_nil_of_le (by omega)] at hpt
        have hend : (if S.cdone c = true then .ok p.t else .bad s.size 2) = r := by rw [← S.end_both HL.out s.size]; exact hpt
        obtain ⟨vp, L, hB, hF, hPV, hpl, hfl⟩ := HR.out
        have hl : ∃ A2 cap2, vp = .slice A2 c.path.length cap2 := by
          rcases hPV with ⟨h, e⟩ | ⟨b, cap2, h, _⟩
          · exact ⟨none, 0, by rw [h, e]; rfl⟩
          · exact ⟨_, _, h⟩
        obtain ⟨A2, cap2, rfl⟩ := hl
        obtain ⟨c0, c1, _, _⟩ := hB.cells
        have hbg := begins_any w1.heap.size vf c wr HR.out
        have HF := Lib.hid hF
        have hgb := hb.size
        clear hpt hB hF hPV
        cases hd : (!c.named && decide (c.mark = 0))
        · have HE := Lib.hid (show r = .bad s.size 2 by rw [← hend, if_neg (by unfold S.cdone; rw [hd]; simp)])
          rw [hd] at hbg
          clear hend hd hmk hne hpne
          go_wp2_with fail
          refine hbg.mono ?_
          rintro e w3 ⟨rfl, rfl⟩
          go_wp2
          go_ret3
          rw [HE.out]
          exact ⟨rfl, hb1.trans (hb.mono hb1.size)⟩
        · rw [hd] at hbg
          by_cases hpe : c.path = []
          · have HE := Lib.hid (show r = .ok p.t by rw [← hend, if_pos (by unfold S.cdone; rw [hd, hpe]; rfl)])
            have hp0 : c.path.length = 0 := by rw [hpe]; rfl
            rw [hp0] at c1
            have hord := inOrder_any w1.heap.size vf L c.found wr HF.out hfl hpne (by omega)
            clear hend hd hmk hne hpne hpe
            go_wp2_with fail
            refine hbg.mono ?_
            rintro e w3 ⟨rfl, rfl⟩
            go_wp2_with fail
            refine hord.mono ?_
            rintro e w4 ⟨G, A4, cap4, hGp, hGo, rfl, hc4, hS4, hb4⟩
            have htree := S.sorted_tree HI.out HL.out hGp hGo
            rw [htree] at hc4 hS4 ⊢
            go_wp2
            go_ret3
            rw [HE.out]
            exact ⟨A4, cap4, rfl, hc4, hS4, (hb1.trans (hb.mono hb1.size)).trans (hb4.mono hb1.size)⟩
          · have HE := Lib.hid (show r = .bad s.size 2 by rw [← hend, if_neg (by unfold S.cdone; rw [hd]; simp [hpe])])
            have hp0 : 0 < c.path.length := List.length_pos_iff.2 hpe
            have bp0 : decide (0 < c.path.length) = true := decide_eq_true hp0
            clear hend hd hmk hne hpne hpe
            go_wp2_with fail
            refine hbg.mono ?_
            rintro e w3 ⟨rfl, rfl⟩
            go_wp2
            go_ret3
            rw [HE.out]
            exact ⟨rfl, hb1.trans (hb.mono hb1.size)⟩
end Go.Proofs.Ytjgogjamkbmcjaa
