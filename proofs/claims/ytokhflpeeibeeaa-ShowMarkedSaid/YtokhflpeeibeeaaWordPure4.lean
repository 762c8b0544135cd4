/-
  Plain laws on bytes for layer 1 (word), without the program: what is written is read as it was, ends where it ends, has only bytes from 32 to 126, and is no longer than need be. Condition where it says so: at most 40 bytes.
-/
import Derived.Test.YtokhflpeeibeeaaWordPure3
namespace Go.Proofs.Ytokhflpeeibeeaa.W

theorem plainB_range {c : UInt8} (h : plainB c = true) : 42 ≤ c.toNat ∧ c.toNat ≤ 122 ∧ c.toNat ≠ 92 := by
  unfold plainB at h; have := of_decide_eq_true h; omega
theorem hexD_facts (n : Nat) (h : n < 16) : hexV (hexD n) = n ∧ (hexD n).toNat ≠ 34 ∧ (hexD n).toNat ≠ 92 ∧ 48 ≤ (hexD n).toNat ∧ (hexD n).toNat ≤ 102 := by
  have hall : ∀ m : Fin 16, hexV (hexD m.val) = m.val ∧ (hexD m.val).toNat ≠ 34 ∧ (hexD m.val).toNat ≠ 92 ∧ 48 ≤ (hexD m.val).toNat ∧ (hexD m.val).toNat ≤ 102 := by decide +kernel
  exact hall ⟨n, h⟩
theorem code_back (c : UInt8) : ((((c.toNat / 16 : Nat) : Int)) * 16 + ((c.toNat % 16 : Nat) : Int)).toNat.toUInt8 = c := by
  have h : ((((c.toNat / 16 : Nat) : Int)) * 16 + ((c.toNat % 16 : Nat) : Int)).toNat = c.toNat := by omega
  rw [h]; simp
theorem oneD_enc (c : UInt8) (r : List UInt8) : oneD (encB c ++ r) = some (c, (encB c).length) := by
  by_cases h : c.toNat = 34 ∨ c.toNat = 92
  · rw [enc_esc h]
    simp only [List.cons_append, List.nil_append, oneD, List.length_cons, List.length_nil]
    have h92 : ((92 : UInt8).toNat) = 92 := rfl
    rw [if_neg (not_bad h92), if_neg (by simp), if_pos h]
  · cases hs : shownB c with
    | true =>
      rw [enc_self h hs]
      simp only [List.cons_append, List.nil_append, oneD, List.length_cons, List.length_nil]
      rw [if_neg (by simp only [hs]; simp; omega), if_pos (by omega)]
    | false =>
      rw [enc_hex h hs]
      have hc : c.toNat < 256 := c.toNat_lt
      have h1 := hexD_facts (c.toNat / 16) (by omega)
      have h2 := hexD_facts (c.toNat % 16) (by omega)
      simp only [List.cons_append, List.nil_append, oneD, List.length_cons, List.length_nil]
      have h92 : ((92 : UInt8).toNat) = 92 := rfl
      have h120 : ((120 : UInt8).toNat) = 120 := rfl
      rw [if_neg (not_bad h92), if_neg (by simp), if_neg (by omega), if_pos h120]
      simp only [codedD, h1.1, h2.1]
      rw [if_neg (by omega), code_back]
      rfl
theorem decL_enc : ∀ l : List UInt8, decL (encL l) = some l
  | [] => rfl
  | c :: l => by
    have e : encL (c :: l) = encB c ++ encL l := by simp [encL]
    rw [e, decL_some (oneD_enc c _), List.drop_left, decL_enc l]
    rfl
theorem meant_quote (l : List UInt8) : meantL (quoteL l) = some l := by
  unfold quoteL
  cases hb : bareL l with
  | true =>
    rw [if_pos rfl]
    unfold bareL at hb
    simp only [Bool.and_eq_true, Bool.not_eq_true'] at hb
    unfold meantL
    rw [if_pos hb.1, if_neg (by simp [hb.2])]
  | false =>
    rw [if_neg (by simp)]
    have h34 : plainB 34 = false := by decide
    unfold meantL
    have hl : (quotedL l).getLast? = some 34 := by unfold quotedL; rw [← List.cons_append, List.getLast?_append]; rfl
    have hh : (quotedL l).head? = some 34 := rfl
    have hn : 2 ≤ (quotedL l).length := by simp [quotedL]
    rw [if_neg (by simp [allPlainL, quotedL, h34]), if_neg (by rw [hl, hh]; rintro (h | h | h); omega; exact h rfl; exact h rfl)]
    have : (List.take ((quotedL l).length - 2) (List.drop 1 (quotedL l))) = encL l := by
      simp [quotedL]
    rw [this, decL_enc]
theorem unq_quote (l : List UInt8) (h : l.length ≤ 40) : unqL (quoteL l) = (l, 0) := unq_ok (meant_quote l) (by omega)
theorem quote_inj {a b : List UInt8} (h : quoteL a = quoteL b) : a = b := by
  have h1 := meant_quote a
  rw [h, meant_quote b] at h1
  injection h1 with h1
  exact h1.symm

theorem quotedRun_enc (c : UInt8) (r : List UInt8) : quotedRun (encB c ++ r) = (quotedRun r).map (· + (encB c).length) := by
  by_cases h : c.toNat = 34 ∨ c.toNat = 92
  · rw [enc_esc h]
    simp only [List.cons_append, List.nil_append, List.length_cons, List.length_nil]
    rw [quotedRun_back _ _ rfl]; rfl
  · cases hs : shownB c with
    | true =>
      rw [enc_self h hs]
      simp only [List.cons_append, List.nil_append, List.length_cons, List.length_nil]
      rw [quotedRun_plain _ _ (by omega) (by omega)]
    | false =>
      rw [enc_hex h hs]
      have hc : c.toNat < 256 := c.toNat_lt
      have h1 := hexD_facts (c.toNat / 16) (by omega)
      have h2 := hexD_facts (c.toNat % 16) (by omega)
      simp only [List.cons_append, List.nil_append, List.length_cons, List.length_nil]
      rw [quotedRun_back _ _ rfl, List.drop_succ_cons, List.drop_zero, quotedRun_plain _ _ h1.2.1 h1.2.2.1, quotedRun_plain _ _ h2.2.1 h2.2.2.1]
      cases quotedRun r <;> simp
theorem quotedRun_encL : ∀ (l r : List UInt8), quotedRun (encL l ++ 34 :: r) = some ((encL l).length + 1)
  | [], r => by simp only [encL, List.flatMap_nil, List.nil_append]; rw [quotedRun_hit _ _ rfl]; rfl
  | c :: l, r => by
    have e : encL (c :: l) = encB c ++ encL l := by simp [encL]
    rw [e, List.append_assoc, quotedRun_enc, quotedRun_encL l r, List.length_append]
    simp; omega
theorem plainRun_all (l r : List UInt8) (h : l.all plainB = true) (hr : r = [] ∨ ∃ r', r = 32 :: r') : plainRun (l ++ r) = l.length := by
  unfold plainRun
  rw [List.takeWhile_append_of_pos (fun a ha => List.all_eq_true.1 h a ha)]
  rcases hr with rfl | ⟨r', rfl⟩
  · simp
  · have : plainB 32 = false := by decide
    simp [this]
theorem scanD_quote (l r : List UInt8) (hr : r = [] ∨ ∃ r', r = 32 :: r') : scanD (quoteL l ++ r) = some (quoteL l).length := by
  unfold quoteL
  cases hb : bareL l with
  | true =>
    rw [if_pos rfl]
    unfold bareL allPlainL at hb
    simp only [Bool.and_eq_true, Bool.not_eq_true'] at hb
    match l, hb with
    | c :: l', hb =>
      have hrun := plainRun_all (c :: l') r hb.1.1 hr
      have hc := plainB_range (List.all_eq_true.1 hb.1.1 c (by simp))
      simp only [List.cons_append, scanD] at hrun ⊢
      rw [if_neg (by omega), hrun, if_neg (by simp)]
  | false =>
    rw [if_neg (by simp)]
    have e : quotedL l ++ r = 34 :: (encL l ++ 34 :: r) := by simp [quotedL]
    rw [e]
    simp only [scanD]
    rw [if_pos (show (34 : UInt8).toNat = 34 from rfl), quotedRun_encL]
    simp [quotedL]
theorem scanL_quote (l : List UInt8) : scanL (quoteL l) 0 = some (quoteL l).length := by
  have := scanD_quote l [] (.inl rfl)
  rw [List.append_nil] at this
  simp [scanL, this]
theorem scanL_row (a l r : List UInt8) : scanL (a ++ (quoteL l ++ 32 :: r)) a.length = some (a.length + (quoteL l).length) := by
  have := scanD_quote l (32 :: r) (.inr ⟨r, rfl⟩)
  have h0 : ¬ ((a.length : Int) < 0) := by omega
  simp only [scanL, h0, if_false, Int.toNat_natCast, List.drop_left, this]
  simp; omega

theorem encB_bytes (c b : UInt8) (h : b ∈ encB c) : 32 ≤ b.toNat ∧ b.toNat ≤ 126 := by
  by_cases hq : c.toNat = 34 ∨ c.toNat = 92
  · rw [enc_esc hq] at h
    simp at h
    rcases h with rfl | rfl
    · simp
    · omega
  · cases hs : shownB c with
    | true =>
      rw [enc_self hq hs] at h
      simp at h
      subst h
      unfold shownB at hs
      exact of_decide_eq_true hs
    | false =>
      rw [enc_hex hq hs] at h
      have hc : c.toNat < 256 := c.toNat_lt
      have h1 := hexD_facts (c.toNat / 16) (by omega)
      have h2 := hexD_facts (c.toNat % 16) (by omega)
      simp at h
      rcases h with rfl | rfl | rfl | rfl
      · simp
      · simp
      · omega
      · omega
theorem quote_bytes (l : List UInt8) (b : UInt8) (h : b ∈ quoteL l) : 32 ≤ b.toNat ∧ b.toNat ≤ 126 := by
  unfold quoteL at h
  cases hb : bareL l with
  | true =>
    rw [if_pos hb] at h
    unfold bareL allPlainL at hb
    simp only [Bool.and_eq_true] at hb
    have := plainB_range (List.all_eq_true.1 hb.1.1 b h)
    omega
  | false =>
    rw [if_neg (by simp [hb])] at h
    simp only [quotedL, encL, List.mem_cons, List.mem_append, List.mem_flatMap, List.not_mem_nil, or_false] at h
    rcases h with rfl | ⟨c, _, h⟩ | rfl
    · simp
    · exact encB_bytes c b h
    · simp
theorem encB_quote (c : UInt8) (i : Nat) (b : UInt8) (h : (encB c)[i]? = some b) (hb : b.toNat = 34) : 0 < i ∧ (encB c)[i - 1]? = some 92 := by
  by_cases hq : c.toNat = 34 ∨ c.toNat = 92
  · rw [enc_esc hq] at h ⊢
    match i, h with
    | 0, h => simp at h; subst h; simp at hb
    | 1, h => simp
  · cases hs : shownB c with
    | true =>
      rw [enc_self hq hs] at h
      match i, h with
      | 0, h => simp at h; subst h; omega
    | false =>
      rw [enc_hex hq hs] at h
      have hc : c.toNat < 256 := c.toNat_lt
      have h1 := hexD_facts (c.toNat / 16) (by omega)
      have h2 := hexD_facts (c.toNat % 16) (by omega)
      match i, h with
      | 0, h => simp at h; subst h; simp at hb
      | 1, h => simp at h; subst h; simp at hb
      | 2, h => simp at h; subst h; omega
      | 3, h => simp at h; subst h; omega
theorem encL_quote : ∀ (l : List UInt8) (i : Nat) (b : UInt8), (encL l)[i]? = some b → b.toNat = 34 → 0 < i ∧ (encL l)[i - 1]? = some 92
  | [], i, b, h, _ => by simp [encL] at h
  | c :: l, i, b, h, hb => by
    have e : encL (c :: l) = encB c ++ encL l := by simp [encL]
    rw [e] at h ⊢
    by_cases hi : i < (encB c).length
    · rw [List.getElem?_append_left hi] at h
      have := encB_quote c i b h hb
      rw [List.getElem?_append_left (by omega)]
      exact this
    · rw [List.getElem?_append_right (by omega)] at h
      have := encL_quote l _ b h hb
      rw [List.getElem?_append_right (by omega)]
      refine ⟨by omega, ?_⟩
      rw [← this.2]; congr 1; omega
/-- A quote inside what is written has a backslash ahead. -/
theorem quote_inside (l : List UInt8) (i : Nat) (b : UInt8) (h : (quoteL l)[i]? = some b) (hb : b.toNat = 34) (h0 : 0 < i) (h1 : i < (quoteL l).length - 1) : (quoteL l)[i - 1]? = some 92 := by
  unfold quoteL at *
  cases hbr : bareL l with
  | true =>
    rw [if_pos hbr] at h
    have hm : b ∈ l := List.mem_of_getElem? h
    unfold bareL allPlainL at hbr
    simp only [Bool.and_eq_true] at hbr
    have := plainB_range (List.all_eq_true.1 hbr.1.1 b hm)
    omega
  | false =>
    rw [if_neg (by simp [hbr])] at h h1 ⊢
    simp only [quotedL, List.length_cons, List.length_append, List.length_nil] at h1
    match i, h0 with
    | j + 1, _ =>
      simp only [quotedL, List.getElem?_cons_succ] at h
      rw [List.getElem?_append_left (by omega)] at h
      have := encL_quote l j b h hb
      match j, this with
      | k + 1, this =>
        simp only [quotedL, Nat.add_sub_cancel, List.getElem?_cons_succ]
        rw [List.getElem?_append_left (by omega)]
        exact this.2
theorem quote_head (l : List UInt8) : (quoteL l).head? = some 34 ↔ bareL l = false := by
  unfold quoteL
  cases hbr : bareL l with
  | true =>
    rw [if_pos rfl]
    unfold bareL allPlainL at hbr
    simp only [Bool.and_eq_true] at hbr
    match l, hbr with
    | c :: l', hbr =>
      have := plainB_range (List.all_eq_true.1 hbr.1.1 c (by simp))
      constructor
      · intro h; simp at h; subst h; simp at this
      · intro h; cases h
  | false => simp [quotedL]
theorem quote_pos (l : List UInt8) : 0 < (quoteL l).length := by
  unfold quoteL
  cases hbr : bareL l with
  | true =>
    rw [if_pos rfl]
    unfold bareL allPlainL at hbr
    match l, hbr with
    | c :: l', _ => simp
    | [], h => simp at h
  | false => rw [if_neg (by simp)]; simp [quotedL]

theorem oneD_short {l : List UInt8} {b : UInt8} {n : Nat} (h : oneD l = some (b, n)) : (encB b).length ≤ n := by
  match l, h with
  | c :: r, h =>
    simp only [oneD] at h
    split at h
    · cases h
    · rename_i hbad
      split at h
      · rename_i h92
        injection h with h; injection h with h1 h2; subst h1; subst h2
        have hs : shownB c = true := by cases hs : shownB c; exact absurd (Or.inr hs) hbad; rfl
        rw [enc_self (by omega) hs]; simp
      · match r, h with
        | e :: r', h =>
          simp only at h
          split at h
          · rename_i he
            injection h with h; injection h with h1 h2; subst h1; subst h2
            rw [enc_esc he]; simp
          · split at h
            · cases hc : codedD r' with
              | none => rw [hc] at h; cases h
              | some x =>
                rw [hc] at h; injection h with h; injection h with h1 h2; subst h1; subst h2
                exact (encB_len x).2
            · cases h
theorem decL_enc_len : ∀ (f : Nat) (l x : List UInt8), l.length ≤ f → decL l = some x → (encL x).length ≤ l.length
  | f, [], x, _, h => by rw [decL_nil] at h; injection h with h; subst h; simp [encL]
  | 0, c :: r, x, hf, _ => by simp at hf
  | f + 1, c :: r, x, hf, h => by
    cases ho : oneD (c :: r) with
    | none => rw [decL_none (by simp) ho] at h; cases h
    | some p =>
      obtain ⟨b, n⟩ := p
      have hn := oneD_pos ho
      have hsh := oneD_short ho
      rw [decL_some ho] at h
      cases hd : decL ((c :: r).drop n) with
      | none => rw [hd] at h; cases h
      | some y =>
        rw [hd] at h
        injection h with h
        subst h
        have := decL_enc_len f _ y (by simp only [List.length_drop, List.length_cons] at hf ⊢; omega) hd
        have e : encL (b :: y) = encB b ++ encL y := by simp [encL]
        rw [e]
        simp only [List.length_drop, List.length_cons, List.length_append] at this hn ⊢
        omega
theorem unq_len {t s : List UInt8} (h : unqL t = (s, 0)) : s.length ≤ 40 ∧ (quoteL s).length ≤ t.length + 2 := by
  unfold unqL at h
  cases hm : meantL t with
  | none => rw [hm] at h; injection h with _ h; omega
  | some y =>
    rw [hm] at h
    simp only at h
    split at h
    · injection h with _ h; omega
    · injection h with h; subst h
      refine ⟨by omega, ?_⟩
      unfold meantL at hm
      split at hm
      · rename_i hp
        split at hm
        · cases hm
        · rename_i hr
          injection hm with hm; subst hm
          have : bareL t = true := by unfold bareL; simp [hp, hr]
          unfold quoteL; rw [if_pos this]; omega
      · split at hm
        · cases hm
        · rename_i hsh
          have h1 := decL_enc_len _ _ y (Nat.le_refl _) hm
          have h2 := encL_len y
          have h3 : 2 ≤ t.length := by omega
          rw [List.length_take, List.length_drop] at h1
          unfold quoteL; split
          · omega
          · simp only [quotedL, List.length_cons, List.length_append, List.length_nil]; omega
theorem unq_err {t : List UInt8} (h : (unqL t).2 ≠ 0) : (unqL t).1 = [] := by
  unfold unqL at *
  cases hm : meantL t with
  | none => rfl
  | some y =>
    rw [hm] at h
    simp only at h ⊢
    split
    · rfl
    · rename_i h40; rw [if_neg h40] at h; exact absurd rfl h
theorem hexV_eq (c : UInt8) : hexV c = if 48 ≤ c.toNat ∧ c.toNat ≤ 57 then (c.toNat : Int) - 48 else if 97 ≤ c.toNat ∧ c.toNat ≤ 102 then (c.toNat : Int) - 87 else -1 := by
  have := byte_all (fun c => decide (hexV c = if 48 ≤ c.toNat ∧ c.toNat ≤ 57 then (c.toNat : Int) - 48 else if 97 ≤ c.toNat ∧ c.toNat ≤ 102 then (c.toNat : Int) - 87 else -1)) (by decide +kernel) c
  exact of_decide_eq_true this
theorem hexD_eq (n : Nat) (h : n < 16) : ((hexD n).toNat : Int) = if n < 10 then 48 + (n : Int) else 97 + (n : Int) - 10 := by
  have hall : ∀ m : Fin 16, ((hexD m.val).toNat : Int) = if m.val < 10 then 48 + (m.val : Int) else 97 + (m.val : Int) - 10 := by decide +kernel
  exact hall ⟨n, h⟩
theorem pre_short (s : ByteArray) (h : s.size ≤ 1) : Lib.hasPrefix s.data.toList [47, 42] = false := by
  rw [Lib.size_eq] at h
  match hl : s.data.toList with
  | [] => rfl
  | [c] => simp [Lib.hasPrefix, List.isPrefixOf]
  | _ :: _ :: r => rw [hl] at h; simp at h
theorem pre_at (s : ByteArray) (h : 1 < s.size) : Lib.hasPrefix s.data.toList [47, 42] = (decide ((s[0]'(by omega)).toNat = 47) && decide ((s[1]'(by omega)).toNat = 42)) := by
  have e : s.data.toList = s[0]'(by omega) :: s[1]'(by omega) :: s.data.toList.drop 2 := by
    have h0 := drop_at s 0 (by omega)
    have h1 := drop_at s 1 (by omega)
    rw [List.drop_zero] at h0
    rw [h0, h1]
    simp
  rw [e]
  rw [Bool.eq_iff_iff]
  have h47 : s[0]'(by omega) = 47 ↔ (s[0]'(by omega)).toNat = 47 := ⟨fun h => by rw [h]; rfl, fun h => UInt8.toNat_inj.1 h⟩
  have h42 : s[1]'(by omega) = 42 ↔ (s[1]'(by omega)).toNat = 42 := ⟨fun h => by rw [h]; rfl, fun h => UInt8.toNat_inj.1 h⟩
  simp [Lib.hasPrefix, List.isPrefixOf]
  rw [eq_comm, h47, eq_comm (a := (42 : UInt8)), h42]
theorem bare_empty (s : ByteArray) (h : s.data.toList = []) : bareL s.data.toList = false := by rw [h]; rfl
theorem bare_res (s : ByteArray) (h : reservedL s.data.toList = true) : bareL s.data.toList = false := by unfold bareL; simp [h]
theorem bare_miss (s : ByteArray) (k : Nat) (h : k < s.size) (h2 : plainB s[k] = false) : bareL s.data.toList = false := by
  unfold bareL; rw [allPlain_miss s k h h2]; rfl
theorem bare_all (s : ByteArray) (k : Nat) (h : s.size ≤ k) (h0 : 0 < s.size) (h1 : (s.data.toList.take k).all plainB = true) (h2 : reservedL s.data.toList = false) : bareL s.data.toList = true := by
  unfold bareL; rw [allPlain_all s k h h1, h2]; simp [h0]
theorem mid_drop (t : ByteArray) (j : Nat) (h : j + 1 < t.size - 1) : (t.extract 1 (t.size - 1)).data.toList.drop j = (t[j + 1]'(by omega)) :: (t.extract (j + 1 + 1) (t.size - 1)).data.toList := by
  rw [Lib.extract_data, Lib.extract_data, List.drop_take, List.drop_drop, Nat.add_comm 1 j, drop_at t (j + 1) (by omega)]
  have : t.size - 1 - 1 - j = (t.size - 1 - (j + 1 + 1)) + 1 := by omega
  rw [this, List.take_succ_cons]
theorem mid_over (t : ByteArray) (j : Nat) (h : ¬ j + 1 < t.size - 1) : (t.extract 1 (t.size - 1)).data.toList.drop j = [] := by
  rw [Lib.extract_data]
  apply List.drop_of_length_le
  rw [List.length_take, List.length_drop, ← Lib.size_eq]; omega
theorem rest_size (t : ByteArray) (a b : Nat) (h : b ≤ t.size) : (t.extract a b).size = b - a := by
  rw [Lib.size_eq, Lib.extract_data, List.length_take, List.length_drop, ← Lib.size_eq]; omega
theorem oneB_none (c : UInt8) (R : ByteArray) (h : c.toNat = 92) (h0 : R.size = 0) : oneD (c :: R.data.toList) = none := by
  have e : R.data.toList = [] := List.eq_nil_of_length_eq_zero (by rw [← Lib.size_eq]; exact h0)
  rw [e]; simp only [oneD]; rw [if_neg (not_bad h), if_neg (by simp [h])]
theorem rest_cons (R : ByteArray) (h : 0 < R.size) : R.data.toList = R[0] :: R.data.toList.drop 1 := by
  have := drop_at R 0 h
  rw [List.drop_zero] at this; exact this
theorem oneB_esc (c : UInt8) (R : ByteArray) (h : c.toNat = 92) (h0 : 0 < R.size) (h1 : R[0].toNat = 34 ∨ R[0].toNat = 92) : oneD (c :: R.data.toList) = some (R[0], 2) := by
  rw [rest_cons R h0]; simp only [oneD]; rw [if_neg (not_bad h), if_neg (by simp [h]), if_pos h1]
theorem oneB_bad (c : UInt8) (R : ByteArray) (h : c.toNat = 92) (h0 : 0 < R.size) (h1 : ¬ (R[0].toNat = 34 ∨ R[0].toNat = 92)) (h2 : R[0].toNat ≠ 120) : oneD (c :: R.data.toList) = none := by
  rw [rest_cons R h0]; simp only [oneD]; rw [if_neg (not_bad h), if_neg (by simp [h]), if_neg h1, if_neg h2]
theorem oneB_hex (c : UInt8) (R : ByteArray) (h : c.toNat = 92) (h0 : 0 < R.size) (h2 : R[0].toNat = 120) : oneD (c :: R.data.toList) = (codedD (R.data.toList.drop 1)).map (·, 4) := by
  rw [rest_cons R h0]; simp only [oneD]; rw [if_neg (not_bad h), if_neg (by simp [h]), if_neg (by omega), if_pos h2]; rfl
theorem oneA_bad (c : UInt8) (r : List UInt8) (h : c.toNat = 34 ∨ shownB c = false) : oneD (c :: r) = none := by simp only [oneD]; rw [if_pos h]
theorem oneA_self (c : UInt8) (r : List UInt8) (h : ¬ (c.toNat = 34 ∨ shownB c = false)) (h2 : c.toNat ≠ 92) : oneD (c :: r) = some (c, 1) := by simp only [oneD]; rw [if_neg h, if_pos h2]
theorem meant_noshape (t : ByteArray) (h : t.size < 2 ∨ t.data.toList.head? ≠ some 34 ∨ t.data.toList.getLast? ≠ some 34) : meantL t.data.toList = if bareL t.data.toList = true then some t.data.toList else none := by
  rw [Lib.size_eq] at h
  unfold meantL bareL
  cases hp : allPlainL t.data.toList with
  | true => rw [if_pos rfl]; cases reservedL t.data.toList <;> rfl
  | false => rw [if_neg (by simp), if_pos h]; rfl
theorem quoted_not_plain (t : ByteArray) (h : 0 < t.size) (h3 : (t[0]'h).toNat = 34) : allPlainL t.data.toList = false :=
  allPlain_miss t 0 h (by unfold plainB; simp; omega)
end Go.Proofs.Ytokhflpeeibeeaa.W
