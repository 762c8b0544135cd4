/-
  Contract of the document's Tree (layer 5): the tree of a text, or where there is none, and why, is what the plain definition says. Condition: strings of at most 2^30 bytes.
-/
import Derived.Test.YtjgogjamkbmcjaaParsePut
import Derived.Test.YtjgogjamkbmcjaaLexR
import Derived.Test.YtjgogjamkbmcjaaParseTree
namespace Go.Proofs.Ytjgogjamkbmcjaa.S
open T (Ln Pth RightT)
open W (Tok)
/-- What is left to read behind marks. -/
def nameT (n : Nat) (m : Int) (t : List Ln) (p : Pth) : List Tok → PRes
  | [] => .bad n 2
  | x :: l => match nameStep m t p (strip x) with | .inl s' => parseT n s' l | .inr e => .bad x.pos e
theorem start_name (n : Nat) (t : List Ln) (p : Pth) (x : Tok) (l : List Tok) (h : x.kind ≠ 3) : parseT n ⟨.start, t, p⟩ (x :: l) = nameT n 0 t p (x :: l) := by
  have e : pstep ⟨.start, t, p⟩ (strip x) = nameStep 0 t p (strip x) := by unfold pstep; simp only; rw [if_neg (show ¬ (strip x).1 = 3 from h)]
  unfold parseT; rw [e]; rfl
theorem marks_name (n : Nat) (m : Int) (t : List Ln) (p : Pth) (l : List Tok) : parseT n ⟨.marks m, t, p⟩ l = nameT n m t p l := by cases l <;> rfl
theorem name_mark (n : Nat) (m : Int) (t : List Ln) (p : Pth) (ps : Nat) (wo : List UInt8) (bt : Int) (l : List Tok) : nameT n m t p (⟨5, ps, wo, bt⟩ :: l) = if (bt = 1 ∧ m % 2 = 1) ∨ (bt = 2 ∧ 1 < m) then .bad ps 2 else nameT n (m + bt) t p l := by
  conv => lhs; unfold nameT
  unfold nameStep strip
  simp only
  rw [if_pos trivial]
  by_cases h : (bt = 1 ∧ m % 2 = 1) ∨ (bt = 2 ∧ 1 < m)
  · rw [if_pos h, if_pos h]
  · rw [if_neg h, if_neg h]; exact marks_name n (m + bt) t p l
theorem name_other (n : Nat) (m : Int) (t : List Ln) (p : Pth) (k : Int) (ps : Nat) (wo : List UInt8) (bt : Int) (l : List Tok) (h5 : k ≠ 5) (h1 : k ≠ 1) : nameT n m t p (⟨k, ps, wo, bt⟩ :: l) = .bad ps 2 := by
  unfold nameT nameStep strip
  simp only
  rw [if_neg h5, if_pos h1]
theorem name_name (n : Nat) (m : Int) (t : List Ln) (p : Pth) (ps : Nat) (wo : List UInt8) (bt : Int) (l : List Tok) : nameT n m t p (⟨1, ps, wo, bt⟩ :: l) = if p.length = 16 then .bad ps 6 else if 0 ≤ T.findI t (p ++ [wo]) then .bad ps 4 else if t.length = 200 then .bad ps 5 else parseT n ⟨.named (p ++ [wo]), T.putL t p wo m, p⟩ l := by
  conv => lhs; unfold nameT
  unfold nameStep strip
  simp only
  rw [if_neg (by decide), if_neg (by decide)]
  by_cases h16 : p.length = 16
  · rw [if_pos h16, if_pos h16]
  · rw [if_neg h16, if_neg h16]
    by_cases hf : 0 ≤ T.findI t (p ++ [wo])
    · rw [if_pos hf, if_pos hf]
    · rw [if_neg hf, if_neg hf]
      by_cases h2 : t.length = 200
      · rw [if_pos h2, if_pos h2]
      · rw [if_neg h2, if_neg h2]
theorem named_next (n : Nat) (q : Pth) (t : List Ln) (p : Pth) (k : Int) (ps : Nat) (wo : List UInt8) (bt : Int) (l : List Tok) : parseT n ⟨.named q, t, p⟩ (⟨k, ps, wo, bt⟩ :: l) = if k = 2 then parseT n ⟨.start, t, q⟩ l else if k = 4 then parseT n ⟨.start, t, p⟩ l else .bad ps 2 := by
  conv => lhs; unfold parseT
  unfold pstep strip
  simp only
  by_cases h2 : k = 2
  · rw [if_pos h2, if_pos h2]
  · rw [if_neg h2, if_neg h2]
    by_cases h4 : k = 4
    · rw [if_pos h4, if_pos h4]
    · rw [if_neg h4, if_neg h4]
theorem start_close (n : Nat) (t : List Ln) (p : Pth) (ps : Nat) (wo : List UInt8) (bt : Int) (l : List Tok) : parseT n ⟨.start, t, p⟩ (⟨3, ps, wo, bt⟩ :: l) = if p = [] then .bad ps 2 else parseT n ⟨.start, t, p.dropLast⟩ l := by
  conv => lhs; unfold parseT
  unfold pstep strip
  simp only
  rw [if_pos trivial]
  by_cases h : p = []
  · rw [if_pos h, if_pos h]
  · rw [if_neg h, if_neg h]
/-- A name that goes on. -/
theorem inv_named {m : Int} {t : List Ln} {p : Pth} {wo : List UInt8} {bt : Int} (h : PInv ⟨.start, t, p⟩) (hm : 0 ≤ m ∧ m ≤ 3) (hw : wo.length ≤ 40) (h16 : p.length ≠ 16) (hf : ¬ 0 ≤ T.findI t (p ++ [wo])) (h2 : t.length ≠ 200) : PInv ⟨.start, T.putL t p wo m, p⟩ ∧ PInv ⟨.start, T.putL t p wo m, p ++ [wo]⟩ := by
  have hx : GoodTrip ((1, wo, bt) : Trip) := ⟨fun _ => hw, fun h => by simp at h⟩
  have e : nameStep m t p ((1, wo, bt) : Trip) = .inl ⟨.named (p ++ [wo]), T.putL t p wo m, p⟩ := by
    unfold nameStep; simp only
    rw [if_neg (by decide), if_neg (by decide), if_neg h16, if_neg hf, if_neg h2]
  have hi := inv_name h.right h.path h.deep hm hx e
  exact ⟨⟨hi.right, hi.path, hi.deep, trivial⟩, ⟨hi.right, hi.mode.1, hi.mode.2, trivial⟩⟩
end Go.Proofs.Ytjgogjamkbmcjaa.S
namespace Go.Proofs.Ytjgogjamkbmcjaa
open Go.RowKit

theorem VecAt.dropLast {w : World} {v : Value} {p : T.Pth} (h : VecAt eS w v p) (hp : p ≠ []) : ∃ b o c n, p.length = n + 1 ∧ v = .slice (some ⟨b, o, none⟩) (n + 1) c ∧ n + 1 ≤ c ∧ VecAt eS w (.slice (some ⟨b, o, none⟩) n c) p.dropLast := by
  rcases h with ⟨_, e⟩ | ⟨b, o, c, h1, h2, h3, h4⟩
  · exact absurd e hp
  · obtain ⟨n, hn⟩ : ∃ n, p.length = n + 1 := ⟨p.length - 1, by have := List.length_pos_iff.2 hp; omega⟩
    have hd : p.dropLast.length = n := by rw [List.length_dropLast]; omega
    refine ⟨b, o, c, n, hn, by rw [h1, hn], by omega, .inr ⟨b, o, c, by rw [hd], by omega, h3, ?_⟩⟩
    rw [List.dropLast_eq_take]
    exact h4.take _
/-- What has been read, at the head of a statement, and what is left. -/
def RelO (w1 : World) (n : Nat) (toks : List W.Tok) (r : S.PRes) (gk : Nat) (xt xp xi : Value) (wr : World) : Prop :=
  ∃ (k : Nat) (t : List T.Ln) (p : T.Pth), Hid (k + gk = toks.length) ∧ k ≤ toks.length ∧ xi = .int .i64 k ∧ Hid (VecAt eL wr xt t) ∧ Hid (VecAt eS wr xp p) ∧ Hid (S.PInv ⟨.start, t, p⟩) ∧ Hid (S.parseT n ⟨.start, t, p⟩ (toks.drop k) = r) ∧ Below w1.heap.size w1 wr
/-- .. behind marks. -/
def RelI (w0 : World) (n : Nat) (toks : List W.Tok) (r : S.PRes) (t : List T.Ln) (p : T.Pth) (k gk : Nat) (xi xm : Value) (wr : World) : Prop :=
  ∃ (j : Nat) (m : Int), Hid (j + gk = toks.length) ∧ k ≤ j ∧ j ≤ toks.length ∧ xi = .int .i64 j ∧ xm = .int .i64 m ∧ (0 ≤ m ∧ m ≤ 3) ∧ Hid (S.nameT n m t p (toks.drop j) = r) ∧ w0 = wr

set_option maxRecDepth 100000 in
set_option maxHeartbeats 8000000 in
theorem refTree_any (s : ByteArray) (w : World) (hs : s.size ≤ 1073741824) :
    Calls Try.prog 12 #[.string s] w (TreeS w (S.parseL s.data.toList)) := by
  obtain ⟨r, hr⟩ : ∃ r, S.parseL s.data.toList = r := ⟨_, rfl⟩
  rw [hr]
  unfold S.parseL at hr
  have hall := refAll_any s w hs
  cases hx : W.lexL 0 s.data.toList with
  | bad p er =>
    rw [hx] at hr hall
    have hne : er ≠ 0 := (W.bad_lt _ 0 p er hx).2.2
    have bne : (er != 0) = true := by simp [hne]
    have HE := Lib.hid (show r = .bad p er from hr.symm)
    clear hr hx hne
    go_enter Try.func12, Try.ntmps12
    go_wp2_with fail
    refine hall.mono ?_
    rintro e w1 ⟨v, he, _, hb1⟩
    have he : e = .returned (.tuple #[v, .int .i64 (p : Int), .int .i64 er]) := he
    subst he
    go_wp2
    go_ret3
    rw [HE.out]
    exact ⟨rfl, hb1⟩
  | ok toks =>
    rw [hx] at hr hall
    have hgood := W.lexL_good _ 0 toks hx
    have hsz := Lib.size_eq s
    have htl : toks.length ≤ 1073741824 := by have := W.lexL_len _ 0 toks hx; omega
    have hr2 : S.parseT s.size S.init toks = r := by rw [hsz]; exact hr
    have HX := Lib.hid hgood
    have HP0 := Lib.hid hr2
    clear hr hx hgood hr2 hsz
    go_enter Try.func12, Try.ntmps12
    go_wp2_with fail
    refine hall.mono ?_
    rintro e w1 ⟨v, he, hown, hb1⟩
    have he : e = .returned (.tuple #[v, .int .i64 0, .int .i64 0]) := he
    subst he
    obtain ⟨A, cap, hv, hT⟩ := hown.seen
    have hv : v = .slice A toks.length cap := hv
    subst hv
    have hT : 0 < toks.length → ∃ g, A = some ⟨g, 0, none⟩ ∧ HoldsT w1 g toks := hT
    have HT := Lib.hid hT
    clear hT hown hall
    go_wp2
    go_loopg [8, 9, 10] toks.length (fun gk xt xp xi wr => RelO w1 s.size toks r gk xt xp xi wr)
    case atStart => exact ⟨0, [], [], Nat.zero_add _, Nat.zero_le _, rfl, VecAt.nil _ _, VecAt.nil _ _, S.inv_init, HP0.out, Below.refl _ _⟩
    case round =>
      obtain ⟨k, t, p, HG, hk, rfl, HVT, HVP, HI, HP, hb⟩ := hrel
      have hdeep : p.length ≤ 16 := HI.out.deep
      have ht200 : t.length ≤ 200 := HI.out.right.len
      obtain ⟨At, ct, rfl, hct, hSt⟩ := HVT.out.seen
      obtain ⟨Bp, cp, rfl, hcp, hSp⟩ := HVP.out.seen
      have HST := Lib.hid hSt
      have HSP := Lib.hid hSp
      clear hSt hSp
      by_cases hlt : k < toks.length
      · have blt : decide ((k : Int) < (toks.length : Int)) = true := decide_eq_true (by omega)
        obtain ⟨g, rfl, hTg⟩ := HT.out (by omega)
        have HTG := Lib.hid hTg
        clear hTg
        obtain ⟨⟨kd, ps, wo, bt⟩, ht⟩ : ∃ x, toks[k] = x := ⟨_, rfl⟩
        obtain ⟨c0, c1, c2, c3⟩ := (HTG.out.below hb).cells hlt ht
        have hpt := HP.out
        rw [List.drop_eq_getElem_cons hlt, ht] at hpt
        have HKD := Lib.hid (ht ▸ HX.out _ (List.getElem_mem hlt) : W.GoodTok ⟨kd, ps, wo, bt⟩)
        by_cases h3 : kd = 3
        · subst h3
          rw [S.start_close] at hpt
          by_cases hpe : p = []
          · rw [if_pos hpe] at hpt
            have HE := Lib.hid (show r = .bad ps 2 from hpt.symm)
            have hp0 : p.length = 0 := by rw [hpe]; rfl
            rw [hp0]
            clear hpt hpe ht
            go_wp2
            go_region
            go_wp2
            go_ret3
            rw [HE.out]
            exact ⟨rfl, hb1.trans ((hb.drew).mono hb1.size)⟩
          · rw [if_neg hpe] at hpt
            have HE := Lib.hid hpt
            obtain ⟨b, o, c, n, hn, hv, hnc, hVd⟩ := HVP.out.dropLast hpe
            injection hv with hv1 hv2 hv3
            subst hv1; subst hv3
            rw [hn]
            have e1 : IntKind.i64.wrap (n : Int) = (n : Int) := wrapI _ (by omega)
            have e2 : (n : Int) ≤ (cp : Int) := by omega
            have hn0 : (((n + 1 : Nat) : Int) == 0) = false := beq_eq_false_iff_ne.2 (by omega)
            have HVD := Lib.hid hVd
            have HPI := Lib.hid (show S.PInv ⟨.start, t, p.dropLast⟩ from ⟨HI.out.right, S.open_drop HI.out.path, by rw [List.length_dropLast]; show p.length - 1 ≤ 16; omega, trivial⟩)
            clear hpt hpe ht hVd hn hv2
            go_wp2
            go_roundg (toks.length - (k + 1))
            case rel => exact ⟨k + 1, t, p.dropLast, (by show _ = _; omega), by omega, by go_num, HVT, HVD, HPI, HE, hb⟩
            case measure => have := HG.out; omega
        · rw [S.start_name _ _ _ _ _ h3] at hpt
          have HN0 := Lib.hid (show S.nameT s.size 0 t p (toks.drop k) = r by rw [List.drop_eq_getElem_cons hlt, ht]; exact hpt)
          have b3 : (kd == 3) = false := beq_eq_false_iff_ne.2 h3
          clear hpt h3 ht c1 c2 c3
          go_wp2
          clear c0 b3
          go_loopg [10, 11] (toks.length - k) (fun gi xi xm wq => RelI wr s.size toks r t p k gi xi xm wq)
          case atStart => exact ⟨k, 0, (by show _ = _; omega), Nat.le_refl _, hk, rfl, rfl, by omega, HN0.out, rfl⟩
          case round =>
            obtain ⟨j, m, HGJ, hkj, hj, rfl, rfl, hm, HN, rfl⟩ := hrel
            by_cases hjl : j < toks.length
            · have bjl : decide ((j : Int) < (toks.length : Int)) = true := decide_eq_true (by omega)
              have bjq : ((j : Int) == (toks.length : Int)) = false := beq_eq_false_iff_ne.2 (by omega)
              obtain ⟨⟨kd, ps, wo, bt⟩, ht⟩ : ∃ x, toks[j] = x := ⟨_, rfl⟩
              have hgk : W.GoodTok ⟨kd, ps, wo, bt⟩ := ht ▸ HX.out _ (List.getElem_mem hjl)
              obtain ⟨c0, c1, c2, c3⟩ := (HTG.out.below hb).cells hjl ht
              have hnt := HN.out
              rw [List.drop_eq_getElem_cons hjl, ht] at hnt
              by_cases h5 : kd = 5
              · subst h5
                have hbt : bt = 1 ∨ bt = 2 := by
                  rcases hgk with ⟨a, _⟩ | ⟨a, _⟩ | ⟨_, _, a⟩
                  · simp at a
                  · simp at a
                  · exact a
                rw [S.name_mark] at hnt
                have hm4 : m = 0 ∨ m = 1 ∨ m = 2 ∨ m = 3 := by omega
                clear hgk ht c2 HN hm
                rcases hm4 with rfl | rfl | rfl | rfl <;> rcases hbt with rfl | rfl
                · rw [if_neg (by decide)] at hnt
                  have HE := Lib.hid (show S.nameT s.size 1 t p (toks.drop (j + 1)) = r from hnt)
                  clear hnt
                  go_wp2
                  go_roundg (toks.length - (j + 1))
                  case rel => exact ⟨j + 1, 1, (by show _ = _; omega), by omega, by omega, by go_num, rfl, by omega, HE, rfl⟩
                  case measure => have := HGJ.out; omega
                · rw [if_neg (by decide)] at hnt
                  have HE := Lib.hid (show S.nameT s.size 2 t p (toks.drop (j + 1)) = r from hnt)
                  clear hnt
                  go_wp2
                  go_roundg (toks.length - (j + 1))
                  case rel => exact ⟨j + 1, 2, (by show _ = _; omega), by omega, by omega, by go_num, rfl, by omega, HE, rfl⟩
                  case measure => have := HGJ.out; omega
                · rw [if_pos (by decide)] at hnt
                  have HE := Lib.hid (show r = .bad ps 2 from hnt.symm)
                  clear hnt
                  go_wp2
                  go_region
                  go_wp2
                  go_ret3
                  rw [HE.out]
                  exact ⟨rfl, hb1.trans ((hb.drew).mono hb1.size)⟩
                · rw [if_neg (by decide)] at hnt
                  have HE := Lib.hid (show S.nameT s.size 3 t p (toks.drop (j + 1)) = r from hnt)
                  clear hnt
                  go_wp2
                  go_roundg (toks.length - (j + 1))
                  case rel => exact ⟨j + 1, 3, (by show _ = _; omega), by omega, by omega, by go_num, rfl, by omega, HE, rfl⟩
                  case measure => have := HGJ.out; omega
                · rw [if_neg (by decide)] at hnt
                  have HE := Lib.hid (show S.nameT s.size 3 t p (toks.drop (j + 1)) = r from hnt)
                  clear hnt
                  go_wp2
                  go_roundg (toks.length - (j + 1))
                  case rel => exact ⟨j + 1, 3, (by show _ = _; omega), by omega, by omega, by go_num, rfl, by omega, HE, rfl⟩
                  case measure => have := HGJ.out; omega
                · rw [if_pos (by decide)] at hnt
                  have HE := Lib.hid (show r = .bad ps 2 from hnt.symm)
                  clear hnt
                  go_wp2
                  go_region
                  go_wp2
                  go_ret3
                  rw [HE.out]
                  exact ⟨rfl, hb1.trans ((hb.drew).mono hb1.size)⟩
                · rw [if_pos (by decide)] at hnt
                  have HE := Lib.hid (show r = .bad ps 2 from hnt.symm)
                  clear hnt
                  go_wp2
                  go_region
                  go_wp2
                  go_ret3
                  rw [HE.out]
                  exact ⟨rfl, hb1.trans ((hb.drew).mono hb1.size)⟩
                · rw [if_pos (by decide)] at hnt
                  have HE := Lib.hid (show r = .bad ps 2 from hnt.symm)
                  clear hnt
                  go_wp2
                  go_region
                  go_wp2
                  go_ret3
                  rw [HE.out]
                  exact ⟨rfl, hb1.trans ((hb.drew).mono hb1.size)⟩
              · have b5 : (kd == 5) = false := beq_eq_false_iff_ne.2 h5
                by_cases h1 : kd = 1
                · subst h1
                  have hwo : wo.length ≤ 40 := by
                    rcases hgk with ⟨_, a, _⟩ | ⟨a, _⟩ | ⟨a, _⟩
                    · exact a
                    · simp at a
                    · simp at a
                  rw [S.name_name] at hnt
                  by_cases h16 : p.length = 16
                  · rw [if_pos h16] at hnt
                    have HE := Lib.hid (show r = .bad ps 6 from hnt.symm)
                    rw [h16]
                    clear hnt h16 hgk ht c2 c3 b5 h5
                    go_wp2
                    go_region
                    go_wp2
                    go_ret3
                    rw [HE.out]
                    exact ⟨rfl, hb1.trans ((hb.drew).mono hb1.size)⟩
                  · rw [if_neg h16] at hnt
                    have b16 : ((p.length : Int) == 16) = false := beq_eq_false_iff_ne.2 (by omega)
                    have hwith := with_any (.slice Bp p.length cp) p wo wr HVP.out (by omega)
                    obtain ⟨q, hq⟩ : ∃ q, p ++ [wo] = q := ⟨_, rfl⟩
                    have HQL := Lib.hid (show q.length = p.length + 1 by rw [← hq]; simp)
                    rw [hq] at hwith hnt
                    have HQ := Lib.hid hq
                    have HNT := Lib.hid hnt
                    have H16 := Lib.hid h16
                    clear hnt hq hgk c3 HN h16
                    go_wp2_with fail
                    refine hwith.mono ?_
                    rintro e w2 ⟨vq, rfl, hVq, hx2⟩
                    obtain ⟨Aq, cq, rfl, hcq, hSq⟩ := hVq.seen
                    have HVQ := Lib.hid hVq
                    have hfind := refFind_any At Aq ct cq t q w2 (HST.out.below hx2) hSq (by omega) (by have := HQL.out; omega) HI.out.right
                    clear hVq hSq hwith
                    go_wp2_with fail
                    refine hfind.mono ?_
                    rintro e w3 ⟨hcase, hx3⟩
                    have hx23 := bthen hx2 hx3
                    have hbz := hb.trans (hx23.mono hb.size)
                    obtain ⟨d0, d1, d2, _⟩ := (HTG.out.below hbz).cells hjl ht
                    rcases hcase with ⟨i0, hi0, hpi, rfl⟩ | ⟨hno, rfl⟩
                    · have hfi : T.findI t q = (i0 : Int) := T.findI_some HI.out.right hi0 hpi
                      have hnt := HNT.out
                      rw [hfi, if_pos (by omega)] at hnt
                      have HE := Lib.hid (show r = .bad ps 4 from hnt.symm)
                      have bi0 : decide ((0 : Int) ≤ (i0 : Int)) = true := decide_eq_true (by omega)
                      clear hnt hfi hpi hi0 hfind ht c0 c1 c2
                      go_wp2
                      go_region
                      go_wp2
                      go_ret3
                      rw [HE.out]
                      exact ⟨rfl, hb1.trans ((hbz.drew).mono hb1.size)⟩
                    · have hfi : T.findI t q = -1 := T.findI_none hno
                      have hnt := HNT.out
                      rw [hfi, if_neg (by decide)] at hnt
                      by_cases h2 : t.length = 200
                      · rw [if_pos h2] at hnt
                        have HE := Lib.hid (show r = .bad ps 5 from hnt.symm)
                        rw [h2]
                        clear hnt hfi hno hfind ht c0 c1 c2 h2
                        go_wp2
                        go_region
                        go_wp2
                        go_ret3
                        rw [HE.out]
                        exact ⟨rfl, hb1.trans ((hbz.drew).mono hb1.size)⟩
                      · rw [if_neg h2] at hnt
                        have b200 : ((t.length : Int) == 200) = false := beq_eq_false_iff_ne.2 (by omega)
                        have hput := put_any (.slice At t.length ct) (.slice Bp p.length cp) t p wo m w3 (HVT.out.below hx23) (HVP.out.below hx23) HI.out.right HI.out.path hdeep
                        have hinv := S.inv_named (bt := bt) HI.out hm hwo H16.out (by rw [HQ.out, hfi]; decide) h2
                        rw [HQ.out] at hinv
                        obtain ⟨t2, ht2⟩ : ∃ t2, T.putL t p wo m = t2 := ⟨_, rfl⟩
                        rw [ht2] at hput hnt hinv
                        have HNT2 := Lib.hid hnt
                        have HI1 := Lib.hid hinv.1
                        have HI2 := Lib.hid hinv.2
                        clear hnt hfi hno hfind h2 ht2 hinv c0 c1 c2
                        go_wp2_with fail
                        refine hput.mono ?_
                        rintro e w4 ⟨vt, rfl, hVt, hx4⟩
                        have hbz4 := hbz.trans (hx4.mono hbz.size)
                        have HVT2 := Lib.hid hVt
                        have hx34 := bthen hx3 hx4
                        clear hVt hput d0 d1 d2 ht
                        by_cases hj1 : j + 1 < toks.length
                        · have bq : (((j : Int) + 1) == (toks.length : Int)) = false := beq_eq_false_iff_ne.2 (by omega)
                          obtain ⟨⟨kd2, ps2, wo2, bt2⟩, htt⟩ : ∃ x, toks[j + 1] = x := ⟨_, rfl⟩
                          obtain ⟨d0, d1, d2, _⟩ := (HTG.out.below hbz4).cells hj1 htt
                          have hnt2 := HNT2.out
                          rw [List.drop_eq_getElem_cons hj1, htt, S.named_next] at hnt2
                          by_cases k2 : kd2 = 2
                          · subst k2
                            rw [if_pos rfl] at hnt2
                            have HE := Lib.hid hnt2
                            clear hnt2 htt
                            go_wp2
                            go_roundg (toks.length - (j + 2))
                            case rel => exact ⟨j + 2, t2, q, (by show _ = _; omega), by omega, by go_num, HVT2, Lib.hid (HVQ.out.below hx34), HI2, HE, hbz4⟩
                            case measure => have := HG.out; omega
                          · by_cases k4 : kd2 = 4
                            · subst k4
                              rw [if_neg (by decide), if_pos rfl] at hnt2
                              have HE := Lib.hid hnt2
                              clear hnt2 htt k2
                              go_wp2
                              go_roundg (toks.length - (j + 2))
                              case rel => exact ⟨j + 2, t2, p, (by show _ = _; omega), by omega, by go_num, HVT2, Lib.hid (HVP.out.below (bthen hx2 hx34)), HI1, HE, hbz4⟩
                              case measure => have := HG.out; omega
                            · rw [if_neg k2, if_neg k4] at hnt2
                              have HE := Lib.hid (show r = .bad ps2 2 from hnt2.symm)
                              have e2 : (kd2 == 2) = false := beq_eq_false_iff_ne.2 k2
                              have e4 : (kd2 == 4) = false := beq_eq_false_iff_ne.2 k4
                              have e4n : (kd2 != 4) = true := by simp [k4]
                              clear hnt2 htt k2 k4
                              go_wp2
                              go_region
                              go_wp2
                              go_ret3
                              rw [HE.out]
                              exact ⟨rfl, hb1.trans ((hbz4.drew).mono hb1.size)⟩
                        · have hje : toks.length = j + 1 := by omega
                          have hnt2 := HNT2.out
                          rw [List.drop_eq_nil_of_le (by omega)] at hnt2
                          have HE := Lib.hid (show r = .bad s.size 2 from hnt2.symm)
                          have bq : (((j : Int) + 1) == (toks.length : Int)) = true := by rw [hje]; simp
                          clear hnt2 hj1 hje
                          go_wp2
                          go_ret3
                          rw [HE.out]
                          exact ⟨rfl, hb1.trans (hbz4.mono hb1.size)⟩
                · rw [S.name_other _ _ _ _ _ _ _ _ _ h5 h1] at hnt
                  have HE := Lib.hid (show r = .bad ps 2 from hnt.symm)
                  have bn1 : (kd != 1) = true := by simp [h1]
                  clear hnt ht hgk h5 h1 c2 c3
                  go_wp2
                  go_region
                  go_wp2
                  go_ret3
                  rw [HE.out]
                  exact ⟨rfl, hb1.trans ((hb.drew).mono hb1.size)⟩
            · obtain rfl : j = toks.length := by omega
              have hnt := HN.out
              rw [List.drop_length] at hnt
              have HE := Lib.hid (show r = .bad s.size 2 from hnt.symm)
              clear hnt hjl
              go_wp2
              go_ret3
              rw [HE.out]
              exact ⟨rfl, hb1.trans (hb.mono hb1.size)⟩
      · obtain rfl : k = toks.length := by omega
        have hpt := HP.out
        rw [List.drop_length] at hpt
        by_cases hpe : p = []
        · have HE := Lib.hid (show r = .ok t by rw [← hpt]; unfold S.parseT S.pend; simp only; rw [if_pos hpe])
          have hp0 : p.length = 0 := by rw [hpe]; rfl
          rw [hp0]
          clear hpt hpe hlt
          go_wp2
          go_ret3
          rw [HE.out]
          exact ⟨At, ct, rfl, hct, HST.out, hb1.trans (hb.mono hb1.size)⟩
        · have HE := Lib.hid (show r = .bad s.size 2 by rw [← hpt]; unfold S.parseT S.pend; simp only; rw [if_neg hpe])
          have hp0 : 0 < p.length := List.length_pos_iff.2 hpe
          have bp0 : decide (0 < p.length) = true := decide_eq_true hp0
          clear hpt hpe hlt
          go_wp2
          go_ret3
          rw [HE.out]
          exact ⟨rfl, hb1.trans (hb.mono hb1.size)⟩
end Go.Proofs.Ytjgogjamkbmcjaa
